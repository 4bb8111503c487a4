/- Texts of one kind, one behind the other: each says ahead of itself what it shows. -/
import Derived.Test.YtanbgdhmfjgihaaGreatDoorUau
import Derived.Shelf.SlSortCmp.Whole1
import Derived.Test.YtanbgdhmfjgihaaGreatDoorProg
import Derived.Test.YtanbgdhmfjgihaaGreatDoorUaw
/- WN -/
namespace Go.Proofs.YtanbgdhmfjgihaaGreatDoor
open Go.RowKit
theorem zm8 {ops:Array Oper} {rest:List Oper} {o:Oper} {a:Act} {w:World} {Q:Exit→Act→World→Prop} (x:Operand) (g off:Nat) (u v z:Int) (h6:w.rangeAt g off [.int .i64 u,.int .i64 v,.int .i64 z])
 (hgd:o.guard=none) (ho:o.op=.load 78 x) (hx:a.eval x=.pointer (some ⟨g,off,none⟩))
 (h:wpList Tryz.prog ops Q rest (a.put o.dst (.agg #[.int .i64 u,.int .i64 v,.int .i64 z])) w):wpList Tryz.prog ops Q (o::rest) a w:=
 wpList_load_mid hgd 78 x ho g off hx [.int .i64 u,.int .i64 v,.int .i64 z] _ h6 Tryz.underlying78 rfl zuy h
theorem zlk {ops:Array Oper} {rest:List Oper} {o:Oper} {a:Act} {w:World} {Q:Exit→Act→World→Prop} {p q r:Value} (u v k:Int) (y z:Operand) (g:Nat) (hg:w.heap[g]?=some (.cells #[p,q,r] 78))
 (hgd:o.guard=none) (ho:o.op=.store 78 y z) (hx:a.eval y=.pointer (some ⟨g,0,none⟩)) (hy:a.eval z=.agg #[.int .i64 u,.int .i64 v,.int .i64 k])
 (h:wpList Tryz.prog ops Q rest (a.put o.dst undef) (w.setRow g #[.int .i64 u,.int .i64 v,.int .i64 k])):wpList Tryz.prog ops Q (o::rest) a w:=
 wpList_store_row hgd 78 y z ho g #[.int .i64 u,.int .i64 v,.int .i64 k] hx hy 78 _ hg zuy rfl (by simp [Value.oneCell']) h
theorem z0u {w:World} {g o:Nat} {u v z:Value} (h0:w.cell? ⟨g,o,none⟩=some u) (h1:w.cell? ⟨g,o+1,none⟩=some v) (h2:w.cell? ⟨g,o+2,none⟩=some z):w.rangeAt g o [u,v,z]:=by
 intro i x hx
 match i,hx with
 | 0,e=>obtain rfl:=Option.some.inj e;exact h0
 | 1,e=>obtain rfl:=Option.some.inj e;exact h1
 | 2,e=>obtain rfl:=Option.some.inj e;exact h2
 | i+3,e=>simp at e
set_option maxHeartbeats 3200000 in
set_option maxRecDepth 20000 in
theorem zd6 (k:Nat) (u v z:Int) (w:World) (hk:k < 6) (hu:(#[.int .i64 0,.int .i64 1,.int .i64 2,.int .i64 0,.int .i64 2,.int .i64 1,.int .i64 1,.int .i64 0,.int .i64 2,.int .i64 1,.int .i64 2,.int .i64 0,.int .i64 2,.int .i64 0,.int .i64 1,.int .i64 2,.int .i64 1,.int .i64 0]:Array Value)[k*3]?=some (.int .i64 u)) (hv:(#[.int .i64 0,.int .i64 1,.int .i64 2,.int .i64 0,.int .i64 2,.int .i64 1,.int .i64 1,.int .i64 0,.int .i64 2,.int .i64 1,.int .i64 2,.int .i64 0,.int .i64 2,.int .i64 0,.int .i64 1,.int .i64 2,.int .i64 1,.int .i64 0]:Array Value)[k*3+1]?=some (.int .i64 v)) (hz:(#[.int .i64 0,.int .i64 1,.int .i64 2,.int .i64 0,.int .i64 2,.int .i64 1,.int .i64 1,.int .i64 0,.int .i64 2,.int .i64 1,.int .i64 2,.int .i64 0,.int .i64 2,.int .i64 0,.int .i64 1,.int .i64 2,.int .i64 1,.int .i64 0]:Array Value)[k*3+2]?=some (.int .i64 z)):
 Calls Tryz.prog 43 #[.int .i64 k] w fun e w'=>e=.returned (.agg #[.int .i64 u,.int .i64 v,.int .i64 z])∧Low w.heap.size w w':=by
 obtain ⟨W1,hW1⟩:∃ W1,W1=(w.alloc (.cells #[.int .i64 0,.int .i64 0,.int .i64 0] 78)).alloc (.cells #[.int .i64 0,.int .i64 1,.int .i64 2,.int .i64 0,.int .i64 2,.int .i64 1,.int .i64 1,.int .i64 0,.int .i64 2,.int .i64 1,.int .i64 2,.int .i64 0,.int .i64 2,.int .i64 0,.int .i64 1,.int .i64 2,.int .i64 1,.int .i64 0] 121):=⟨_,rfl⟩
 have B:W1.heap[w.heap.size]?=some (.cells #[.int .i64 0,.int .i64 0,.int .i64 0] 78):=by rw [hW1];exact zau _ (zag _ _ rfl)
 have B2:W1.heap[w.heap.size+1]?=some (.cells #[.int .i64 0,.int .i64 1,.int .i64 2,.int .i64 0,.int .i64 2,.int .i64 1,.int .i64 1,.int .i64 0,.int .i64 2,.int .i64 1,.int .i64 2,.int .i64 0,.int .i64 2,.int .i64 0,.int .i64 1,.int .i64 2,.int .i64 1,.int .i64 0] 121):=by rw [hW1];exact zag _ _ (by simp)
 have b0:Low w.heap.size w W1:=by rw [hW1];exact low2 _ _ _
 have R:W1.rangeAt (w.heap.size+1) (k*3) [.int .i64 u,.int .i64 v,.int .i64 z]:=z0u (zab B2 (k*3) hu) (zab B2 (k*3+1) hv) (zab B2 (k*3+2) hz)
 have hki:(k:Int) < 6:=by omega
 have HW:=Lib.hid hW1
 clear hW1 hu hv hz B2
 go_enter Tryz.func43,Tryz.ntmps43
 go_upto_region 2 with fail
 rw [← HW.out]
 generalize Value.agg #[.int .i64 0,.int .i64 1,.int .i64 2,.int .i64 0,.int .i64 2,.int .i64 1,.int .i64 1,.int .i64 0,.int .i64 2,.int .i64 1,.int .i64 2,.int .i64 0,.int .i64 2,.int .i64 0,.int .i64 1,.int .i64 2,.int .i64 1,.int .i64 0]=z10
 generalize Value.agg #[.int .i64 0,.int .i64 1,.int .i64 2]=z4
 generalize Value.agg #[.int .i64 0,.int .i64 2,.int .i64 1]=z5
 generalize Value.agg #[.int .i64 1,.int .i64 0,.int .i64 2]=z6
 generalize Value.agg #[.int .i64 1,.int .i64 2,.int .i64 0]=z7
 go_wp2_with (first
  |((with_reducible refine zm8 (.tmp 12) (w.heap.size+1) (k*3) u v z R ?_ ?_ ?_ ?_);rfl;rfl;rfl)
  |((with_reducible refine zlk u v z (.tmp 2) (.tmp 13) w.heap.size B ?_ ?_ ?_ ?_ ?_);rfl;rfl;rfl;rfl))
 have b2:=zbo b0 (Only.setRow (b:=w.heap.size) W1 #[.int .i64 u,.int .i64 v,.int .i64 z]) (Nat.le_refl _) b0.size
 have u5:=za4 (w:=W1) (g:=w.heap.size) (c':=#[.int .i64 u,.int .i64 v,.int .i64 z]) B
 exact bodyPost_ret (v:=.agg #[.int .i64 u,.int .i64 v,.int .i64 z]) (results_cell_row (p:=2) (ty:=78) Tryz.results43 _ _ w.heap.size 78 _ (0,0) _ rfl u5 Tryz.underlying78 rfl (by exact zuy)) rfl ⟨rfl,b2⟩
theorem named0 (w:World):Calls Tryz.prog 53 #[.string ⟨#[115,112,111]⟩] w fun e w'=>e=.returned (.tuple #[.int .i64 0,.bool true])∧Low w.heap.size w w':=by
 go_enter Tryz.func53,Tryz.ntmps53
 go_wp2_with fail
 exact bodyPost_ret (results_tmp2 Tryz.results53 _ _ _) rfl ⟨rfl,Low.refl _ _⟩
theorem named1 (w:World):Calls Tryz.prog 53 #[.string ⟨#[115,111,112]⟩] w fun e w'=>e=.returned (.tuple #[.int .i64 1,.bool true])∧Low w.heap.size w w':=by
 go_enter Tryz.func53,Tryz.ntmps53
 go_wp2_with fail
 exact bodyPost_ret (results_tmp2 Tryz.results53 _ _ _) rfl ⟨rfl,Low.refl _ _⟩
theorem named2 (w:World):Calls Tryz.prog 53 #[.string ⟨#[112,115,111]⟩] w fun e w'=>e=.returned (.tuple #[.int .i64 2,.bool true])∧Low w.heap.size w w':=by
 go_enter Tryz.func53,Tryz.ntmps53
 go_wp2_with fail
 exact bodyPost_ret (results_tmp2 Tryz.results53 _ _ _) rfl ⟨rfl,Low.refl _ _⟩
theorem named3 (w:World):Calls Tryz.prog 53 #[.string ⟨#[112,111,115]⟩] w fun e w'=>e=.returned (.tuple #[.int .i64 3,.bool true])∧Low w.heap.size w w':=by
 go_enter Tryz.func53,Tryz.ntmps53
 go_wp2_with fail
 exact bodyPost_ret (results_tmp2 Tryz.results53 _ _ _) rfl ⟨rfl,Low.refl _ _⟩
theorem named4 (w:World):Calls Tryz.prog 53 #[.string ⟨#[111,115,112]⟩] w fun e w'=>e=.returned (.tuple #[.int .i64 4,.bool true])∧Low w.heap.size w w':=by
 go_enter Tryz.func53,Tryz.ntmps53
 go_wp2_with fail
 exact bodyPost_ret (results_tmp2 Tryz.results53 _ _ _) rfl ⟨rfl,Low.refl _ _⟩
theorem named5 (w:World):Calls Tryz.prog 53 #[.string ⟨#[111,112,115]⟩] w fun e w'=>e=.returned (.tuple #[.int .i64 5,.bool true])∧Low w.heap.size w w':=by
 go_enter Tryz.func53,Tryz.ntmps53
 go_wp2_with fail
 exact bodyPost_ret (results_tmp2 Tryz.results53 _ _ _) rfl ⟨rfl,Low.refl _ _⟩
def onm:Nat→ByteArray
 | 0=>⟨#[115,112,111]⟩
 | 1=>⟨#[115,111,112]⟩
 | 2=>⟨#[112,115,111]⟩
 | 3=>⟨#[112,111,115]⟩
 | 4=>⟨#[111,115,112]⟩
 | _=>⟨#[111,112,115]⟩
theorem zn4 (k:Nat) (hk:k < 6) (w:World):Calls Tryz.prog 43 #[.int .i64 k] w fun e w'=>e=.returned (.agg #[.int .i64 ((lev k).1:Nat),.int .i64 ((lev k).2.1:Nat),.int .i64 ((lev k).2.2:Nat)])∧Low w.heap.size w w':=by
 match k,hk with
 | 0,_=>exact zd6 0 _ _ _ w (by decide) rfl rfl rfl
 | 1,_=>exact zd6 1 _ _ _ w (by decide) rfl rfl rfl
 | 2,_=>exact zd6 2 _ _ _ w (by decide) rfl rfl rfl
 | 3,_=>exact zd6 3 _ _ _ w (by decide) rfl rfl rfl
 | 4,_=>exact zd6 4 _ _ _ w (by decide) rfl rfl rfl
 | 5,_=>exact zd6 5 _ _ _ w (by decide) rfl rfl rfl
theorem zwz (k:Nat) (hk:k < 6) (w:World):Calls Tryz.prog 53 #[.string (onm k)] w fun e w'=>e=.returned (.tuple #[.int .i64 k,.bool true])∧Low w.heap.size w w':=by
 match k,hk with
 | 0,_=>exact named0 w
 | 1,_=>exact named1 w
 | 2,_=>exact named2 w
 | 3,_=>exact named3 w
 | 4,_=>exact named4 w
 | 5,_=>exact named5 w
end Go.Proofs.YtanbgdhmfjgihaaGreatDoor

/- SO -/
namespace Go.Proofs
open Go.Shelf
def Tryz.sortN_ren:Go.Shelf.Ren:=⟨fun | 6=>83 | 15=>101 | 14=>105 | 28=>134 | 29=>135 | 20=>146 | 21=>147 | 22=>148 | 23=>149 | 24=>150 | 25=>151 | 26=>152 | 27=>153 | 46=>175 | 47=>161 | 48=>162 | 49=>176 | 50=>177 | 57=>186 | n=>n,fun | 22=>73 | 24=>3 | 25=>104 | 3=>3 | 39=>139 | 0=>0 | 53=>174 | 55=>176 | 4=>4 | 46=>168 | 45=>167 | 50=>87 | 5=>5 | 9=>9 | 66=>193 | 70=>197 | 76=>209 | 77=>210 | n=>n,fun | n=>n⟩
theorem Tryz.sortN:Go.Proofs.SlLaysF.n6 Tryz.prog Tryz.sortN_ren:={
 mixed:=by kernel_rfl
 f6:=⟨Tryz.f83.name,by decide,Tryz.func83.trans (congrArg some (by kernel_rfl))⟩
 f14:=⟨Tryz.f105.name,by decide,Tryz.func105.trans (congrArg some (by kernel_rfl))⟩
 f15:=Tryz.func101.trans (congrArg some (by kernel_rfl))
 f20:=⟨Tryz.f146.name,by decide,Tryz.func146.trans (congrArg some (by kernel_rfl))⟩
 f21:=⟨Tryz.f147.name,by decide,Tryz.func147.trans (congrArg some (by kernel_rfl))⟩
 f22:=⟨Tryz.f148.name,by decide,Tryz.func148.trans (congrArg some (by kernel_rfl))⟩
 f23:=⟨Tryz.f149.name,by decide,Tryz.func149.trans (congrArg some (by kernel_rfl))⟩
 f24:=⟨Tryz.f150.name,by decide,Tryz.func150.trans (congrArg some (by kernel_rfl))⟩
 f25:=⟨Tryz.f151.name,by decide,Tryz.func151.trans (congrArg some (by kernel_rfl))⟩
 f26:=⟨Tryz.f152.name,by decide,Tryz.func152.trans (congrArg some (by kernel_rfl))⟩
 f27:=⟨Tryz.f153.name,by decide,Tryz.func153.trans (congrArg some (by kernel_rfl))⟩
 f28:=Tryz.func134.trans (congrArg some (by kernel_rfl))
 f29:=Tryz.func135.trans (congrArg some (by kernel_rfl))
 f46:=⟨Tryz.f175.name,by decide,Tryz.func175.trans (congrArg some (by kernel_rfl))⟩
 f47:=Tryz.func161.trans (congrArg some (by kernel_rfl))
 f48:=Tryz.func162.trans (congrArg some (by kernel_rfl))
 f49:=⟨Tryz.f176.name,by decide,Tryz.func176.trans (congrArg some (by kernel_rfl))⟩
 f50:=⟨Tryz.f177.name,by decide,Tryz.func177.trans (congrArg some (by kernel_rfl))⟩
 f57:=⟨Tryz.f186.name,by decide,Tryz.func186.trans (congrArg some (by kernel_rfl))⟩
 t0:=Tryz.underlying0
 a0:=Tryz.isAgg0
 z0:=Tryz.sizeOf0
 v0:=Tryz.zeroValue0
 t3:=Tryz.underlying3
 a3:=Tryz.isAgg3
 z3:=Tryz.sizeOf3
 v3:=Tryz.zeroValue3
 t4:=Tryz.underlying4
 a4:=Tryz.isAgg4
 z4:=Tryz.sizeOf4
 v4:=Tryz.zeroValue4
 t5:=Tryz.underlying5
 a5:=Tryz.isAgg5
 z5:=Tryz.sizeOf5
 v5:=Tryz.zeroValue5
 t9:=Tryz.underlying9
 a9:=Tryz.isAgg9
 z9:=Tryz.sizeOf9
 v9:=Tryz.zeroValue9
 t22:=Tryz.underlying73
 a22:=Tryz.isAgg73
 z22:=Tryz.sizeOf73
 v22:=Tryz.zeroValue73
 a24:=Tryz.isAgg3
 z24:=Tryz.sizeOf3
 t25:=Tryz.underlying104
 a25:=Tryz.isAgg104
 z25:=Tryz.sizeOf104
 v25:=Tryz.zeroValue104
 t39:=Tryz.underlying139
 a39:=Tryz.isAgg139
 z39:=Tryz.sizeOf139
 v39:=Tryz.zeroValue139
 t45:=Tryz.underlying167
 a45:=Tryz.isAgg167
 z45:=Tryz.sizeOf167
 v45:=Tryz.zeroValue167
 t46:=Tryz.underlying168
 a46:=Tryz.isAgg168
 z46:=Tryz.sizeOf168
 v46:=Tryz.zeroValue168
 t50:=Tryz.underlying87
 a50:=Tryz.isAgg87
 z50:=Tryz.sizeOf87
 v50:=Tryz.zeroValue87
 t53:=Tryz.underlying174
 a53:=Tryz.isAgg174
 z53:=Tryz.sizeOf174
 v53:=Tryz.zeroValue174
 t55:=Tryz.underlying176
 a55:=Tryz.isAgg176
 z55:=Tryz.sizeOf176
 v55:=Tryz.zeroValue176
 t66:=Tryz.underlying193
 a66:=Tryz.isAgg193
 z66:=Tryz.sizeOf193
 v66:=Tryz.zeroValue193
 t70:=Tryz.underlying197
 a70:=Tryz.isAgg197
 z70:=Tryz.sizeOf197
 v70:=Tryz.zeroValue197
 t76:=Tryz.underlying209
 a76:=Tryz.isAgg209
 z76:=Tryz.sizeOf209
 v76:=Tryz.zeroValue209
 t77:=Tryz.underlying210
 a77:=Tryz.isAgg210
 z77:=Tryz.sizeOf210
 v77:=Tryz.zeroValue210 }
end Go.Proofs

/- SN -/
namespace Go.Proofs.YtanbgdhmfjgihaaGreatDoor
open Go.RowKit
def R3.vr (r:R3):VR:=⟨(r.a:Nat),(r.b:Nat),(r.c:Nat)⟩
def prow (R:List R3) (u v z:Nat) (i:Nat):VR:=⟨((R[i]?.getD default).at u:Nat),((R[i]?.getD default).at v:Nat),((R[i]?.getD default).at z:Nat)⟩
theorem zw0 {W:World} {g o:Nat} {r:R3} (h:W.rangeAt g o [.int .i64 (r.a:Nat),.int .i64 (r.b:Nat),.int .i64 (r.c:Nat)]) (p:Nat) (hp:p < 3):W.cell? ⟨g,o+p,none⟩=some (.int .i64 (r.at p:Nat)):=by
 match p,hp with
 | 0,_=>exact h 0 _ rfl
 | 1,_=>exact h 1 _ rfl
 | 2,_=>exact h 2 _ rfl
theorem idx78a (u v z:Int) (w:World):(Instr.index 78 (.agg #[.int .i64 u,.int .i64 v,.int .i64 z]) (.int .i64 0)).run Tryz.prog w=.ok (.int .i64 u) w:=by
 have s3:Tryz.t3.size=1:=rfl
 simp [s3,Instr.index,run_underlying Tryz.underlying78,asIntOf,part,Sem.run_bind,isAgg,sizeOf,go_sem]
theorem idx78b (u v z:Int) (w:World):(Instr.index 78 (.agg #[.int .i64 u,.int .i64 v,.int .i64 z]) (.int .i64 1)).run Tryz.prog w=.ok (.int .i64 v) w:=by
 have s3:Tryz.t3.size=1:=rfl
 simp [s3,Instr.index,run_underlying Tryz.underlying78,asIntOf,part,Sem.run_bind,isAgg,sizeOf,go_sem]
theorem idx78c (u v z:Int) (w:World):(Instr.index 78 (.agg #[.int .i64 u,.int .i64 v,.int .i64 z]) (.int .i64 2)).run Tryz.prog w=.ok (.int .i64 z) w:=by
 have s3:Tryz.t3.size=1:=rfl
 simp [s3,Instr.index,run_underlying Tryz.underlying78,asIntOf,part,Sem.run_bind,isAgg,sizeOf,go_sem]
set_option maxHeartbeats 1200000 in
set_option maxRecDepth 20000 in
theorem cmpNums (R:List R3) (gr cr b2 b3 x y u v z:Nat) (w:World) (hx:x < R.length) (hy:y < R.length) (hu:u < 3) (hv:v < 3) (hz:z < 3) (hn:R.length < 1073741824)
 (k2:w.cell? ⟨b2,0,none⟩=some (.slice (some ⟨gr,0,none⟩) R.length cr)) (k3:w.rangeAt b3 0 [.int .i64 u,.int .i64 v,.int .i64 z])
 (hR:∀ (j:Nat) (h:j < R.length),w.rangeAt gr (j*3) [.int .i64 (R[j].a:Nat),.int .i64 (R[j].b:Nat),.int .i64 (R[j].c:Nat)]):
 Calls Tryz.prog 84 #[.int .i64 x,.int .i64 y,.pointer (some ⟨b3,0,none⟩),.pointer (some ⟨b2,0,none⟩)] w fun e w'=>e=.returned (.int .i64 (VR.cf (prow R u v z x) (prow R u v z y)))∧Low w.heap.size w w':=by
 have hpx:prow R u v z x=⟨(R[x].at u:Nat),(R[x].at v:Nat),(R[x].at z:Nat)⟩:=by unfold prow;rw [List.getElem?_eq_getElem hx];rfl
 have hpy:prow R u v z y=⟨(R[y].at u:Nat),(R[y].at v:Nat),(R[y].at z:Nat)⟩:=by unfold prow;rw [List.getElem?_eq_getElem hy];rfl
 rw [hpx,hpy]
 have hX:=fun p hp=>zw0 (hR x hx) p hp
 have hY:=fun p hp=>zw0 (hR y hy) p hp
 have keep:∀ (g o:Nat) (c:Value),w.cell? ⟨g,o,none⟩=some c→∀ W,Low w.heap.size w W→W.cell? ⟨g,o,none⟩=some c:=fun g o c h W hb=>(hb.cell (p:=⟨g,o,none⟩) (World.block_lt_of_cell? w _ h)).trans h
 unfold VR.cf rowI
 have x0:=keep _ _ _ (hX u hu)
 have x1:=keep _ _ _ (hX v hv)
 have x2:=keep _ _ _ (hX z hz)
 have y0:=keep _ _ _ (hY u hu)
 have y1:=keep _ _ _ (hY v hv)
 have y2:=keep _ _ _ (hY z hz)
 have HK2:=Lib.hid (keep _ _ _ k2)
 simp only
 generalize ((R[x].at u:Nat):Int)=a0 at*
 generalize ((R[x].at v:Nat):Int)=a1 at*
 generalize ((R[x].at z:Nat):Int)=a2 at*
 generalize ((R[y].at u:Nat):Int)=d0 at*
 generalize ((R[y].at v:Nat):Int)=d1 at*
 generalize ((R[y].at z:Nat):Int)=d2 at*
 have hc0:=fun W=>zfh a0 d0 W
 have hc1:=fun W=>zfh a1 d1 W
 have hc2:=fun W=>zfh a2 d2 W
 generalize cmpZ a0 d0=c0 at hc0 ⊢
 generalize cmpZ a1 d1=c1 at hc1 ⊢
 generalize cmpZ a2 d2=c2 at hc2 ⊢
 obtain ⟨r,hr⟩:∃ r,r=lexI c0 (lexI c1 c2):=⟨_,rfl⟩
 rw [← hr]
 have HR:=Lib.hid hr
 have HX0:=Lib.hid x0
 have HX1:=Lib.hid x1
 have HX2:=Lib.hid x2
 have HY0:=Lib.hid y0
 have HY1:=Lib.hid y1
 have HY2:=Lib.hid y2
 have hxi:(x:Int) < R.length:=by omega
 have hyi:(y:Int) < R.length:=by omega
 clear hr x0 x1 x2 y0 y1 y2 hX hY keep hR k2 hpx hpy
 go_enter Tryz.func84,Tryz.ntmps84
 go_wp2_with (first
  |((with_reducible refine zm8 (.tmp 2) b3 0 u v z k3 ?_ ?_ ?_ ?_);rfl;rfl;rfl))
 go_loopw [11] (fun i wr=>Low w.heap.size w wr∧∃ j:Nat,i=.int .i64 j∧(j=0∨(j=1∧c0=0)∨(j=2∧c0=0∧c1=0)∨(j=3∧c0=0∧c1=0∧c2=0))) (fun i _=>3 - (intOf i).toNat)
 case atStart=>exact ⟨Low.refl _ _,0,rfl,.inl rfl⟩
 case round=>
  obtain ⟨hb,j,rfl,rfl | ⟨rfl,z0⟩ | ⟨rfl,z0,z1⟩ | ⟨rfl,z0,z1,z2⟩⟩:=hrel
  ·have hp3:(u:Int) < 3:=by omega
   have hix:=fun w=>idx78a u v z w
   go_upto_region 4 with fail
   refine wp_region_held_drew (S:=fun W=>Low w.heap.size w W) (by kernel_rfl) hb.drew (fun hHeld=>?_)
   refine tk (i:=0) (v:=.slice (some ⟨gr,0,none⟩) R.length cr) rfl (Or.inl ⟨by rfl,fun W h=>by have c0:=HK2.out W h;go_simp⟩) hHeld ?_
   refine tg (i:=1) (.int .i64 x) rfl hHeld ?_
   refine tg (i:=2) (.int .i64 u) rfl hHeld ?_
   refine tg (i:=3) (.pointer (some ⟨gr,x*3,none⟩)) rfl hHeld ?_
   refine tg (i:=4) (.pointer (some ⟨gr,x*3+u,none⟩)) rfl hHeld ?_
   refine tk (i:=5) (v:=.int .i64 a0) rfl (Or.inl ⟨by rfl,fun W h=>by have c0:=HX0.out W h;go_simp⟩) hHeld ?_
   refine tk (i:=6) (v:=.slice (some ⟨gr,0,none⟩) R.length cr) rfl (Or.inl ⟨by rfl,fun W h=>by have c0:=HK2.out W h;go_simp⟩) hHeld ?_
   refine tg (i:=7) (.int .i64 y) rfl hHeld ?_
   refine tg (i:=8) (.int .i64 u) rfl hHeld ?_
   refine tg (i:=9) (.pointer (some ⟨gr,y*3,none⟩)) rfl hHeld ?_
   refine tg (i:=10) (.pointer (some ⟨gr,y*3+u,none⟩)) rfl hHeld ?_
   refine tk (i:=11) (v:=.int .i64 d0) rfl (Or.inl ⟨by rfl,fun W h=>by have c0:=HY0.out W h;go_simp⟩) hHeld ?_
   refine tr 12 rfl (fun K hK=>?_)
   rw [if_pos (by rfl)]
   go_simp
   refine (hc0 _).mono ?_
   rintro e0 w3 ⟨rfl,hw3⟩
   subst hw3
   refine hK.out _ _ hHeld (fun hHeld=>?_)
   clear hK K
   try simp only [putS]
   refine tg (i:=13) (.int .i64 c0) rfl hHeld ?_
   refine wpAnyH_done (by kernel_rfl) ?_ _
   by_cases hz:c0=0
   ·have e2:(c0 != 0)=false:=by simp [hz]
    go_wp2_with fail
    go_roundw
    case rel=>exact ⟨hHeld,1,by go_num,.inr (.inl ⟨rfl,hz⟩)⟩
    case measure=>simp [intOf]
   ·have e2:(c0 != 0)=true:=by simpa using hz
    go_wp2_with fail
    go_ret
    exact ⟨by rw [HR.out,lexI,if_neg hz];rfl,hHeld⟩
  ·have hp3:(v:Int) < 3:=by omega
   have hix:=fun w=>idx78b u v z w
   go_upto_region 4 with fail
   refine wp_region_held_drew (S:=fun W=>Low w.heap.size w W) (by kernel_rfl) hb.drew (fun hHeld=>?_)
   refine tk (i:=0) (v:=.slice (some ⟨gr,0,none⟩) R.length cr) rfl (Or.inl ⟨by rfl,fun W h=>by have c0:=HK2.out W h;go_simp⟩) hHeld ?_
   refine tg (i:=1) (.int .i64 x) rfl hHeld ?_
   refine tg (i:=2) (.int .i64 v) rfl hHeld ?_
   refine tg (i:=3) (.pointer (some ⟨gr,x*3,none⟩)) rfl hHeld ?_
   refine tg (i:=4) (.pointer (some ⟨gr,x*3+v,none⟩)) rfl hHeld ?_
   refine tk (i:=5) (v:=.int .i64 a1) rfl (Or.inl ⟨by rfl,fun W h=>by have c0:=HX1.out W h;go_simp⟩) hHeld ?_
   refine tk (i:=6) (v:=.slice (some ⟨gr,0,none⟩) R.length cr) rfl (Or.inl ⟨by rfl,fun W h=>by have c0:=HK2.out W h;go_simp⟩) hHeld ?_
   refine tg (i:=7) (.int .i64 y) rfl hHeld ?_
   refine tg (i:=8) (.int .i64 v) rfl hHeld ?_
   refine tg (i:=9) (.pointer (some ⟨gr,y*3,none⟩)) rfl hHeld ?_
   refine tg (i:=10) (.pointer (some ⟨gr,y*3+v,none⟩)) rfl hHeld ?_
   refine tk (i:=11) (v:=.int .i64 d1) rfl (Or.inl ⟨by rfl,fun W h=>by have c0:=HY1.out W h;go_simp⟩) hHeld ?_
   refine tr 12 rfl (fun K hK=>?_)
   rw [if_pos (by rfl)]
   go_simp
   refine (hc1 _).mono ?_
   rintro e0 w3 ⟨rfl,hw3⟩
   subst hw3
   refine hK.out _ _ hHeld (fun hHeld=>?_)
   clear hK K
   try simp only [putS]
   refine tg (i:=13) (.int .i64 c1) rfl hHeld ?_
   refine wpAnyH_done (by kernel_rfl) ?_ _
   by_cases hz:c1=0
   ·have e2:(c1 != 0)=false:=by simp [hz]
    go_wp2_with fail
    go_roundw
    case rel=>exact ⟨hHeld,2,by go_num,.inr (.inr (.inl ⟨rfl,z0,hz⟩))⟩
    case measure=>simp [intOf]
   ·have e2:(c1 != 0)=true:=by simpa using hz
    go_wp2_with fail
    go_ret
    exact ⟨by rw [HR.out,lexI,if_pos z0,lexI,if_neg hz];rfl,hHeld⟩
  ·have hp3:(z:Int) < 3:=by omega
   have hix:=fun w=>idx78c u v z w
   go_upto_region 4 with fail
   refine wp_region_held_drew (S:=fun W=>Low w.heap.size w W) (by kernel_rfl) hb.drew (fun hHeld=>?_)
   refine tk (i:=0) (v:=.slice (some ⟨gr,0,none⟩) R.length cr) rfl (Or.inl ⟨by rfl,fun W h=>by have c0:=HK2.out W h;go_simp⟩) hHeld ?_
   refine tg (i:=1) (.int .i64 x) rfl hHeld ?_
   refine tg (i:=2) (.int .i64 z) rfl hHeld ?_
   refine tg (i:=3) (.pointer (some ⟨gr,x*3,none⟩)) rfl hHeld ?_
   refine tg (i:=4) (.pointer (some ⟨gr,x*3+z,none⟩)) rfl hHeld ?_
   refine tk (i:=5) (v:=.int .i64 a2) rfl (Or.inl ⟨by rfl,fun W h=>by have c0:=HX2.out W h;go_simp⟩) hHeld ?_
   refine tk (i:=6) (v:=.slice (some ⟨gr,0,none⟩) R.length cr) rfl (Or.inl ⟨by rfl,fun W h=>by have c0:=HK2.out W h;go_simp⟩) hHeld ?_
   refine tg (i:=7) (.int .i64 y) rfl hHeld ?_
   refine tg (i:=8) (.int .i64 z) rfl hHeld ?_
   refine tg (i:=9) (.pointer (some ⟨gr,y*3,none⟩)) rfl hHeld ?_
   refine tg (i:=10) (.pointer (some ⟨gr,y*3+z,none⟩)) rfl hHeld ?_
   refine tk (i:=11) (v:=.int .i64 d2) rfl (Or.inl ⟨by rfl,fun W h=>by have c0:=HY2.out W h;go_simp⟩) hHeld ?_
   refine tr 12 rfl (fun K hK=>?_)
   rw [if_pos (by rfl)]
   go_simp
   refine (hc2 _).mono ?_
   rintro e0 w3 ⟨rfl,hw3⟩
   subst hw3
   refine hK.out _ _ hHeld (fun hHeld=>?_)
   clear hK K
   try simp only [putS]
   refine tg (i:=13) (.int .i64 c2) rfl hHeld ?_
   refine wpAnyH_done (by kernel_rfl) ?_ _
   by_cases hz:c2=0
   ·have e2:(c2 != 0)=false:=by simp [hz]
    go_wp2_with fail
    go_roundw
    case rel=>exact ⟨hHeld,3,by go_num,.inr (.inr (.inr ⟨rfl,z0,z1,hz⟩))⟩
    case measure=>simp [intOf]
   ·have e2:(c2 != 0)=true:=by simpa using hz
    go_wp2_with fail
    go_ret
    exact ⟨by rw [HR.out,lexI,if_pos z0,lexI,if_pos z1];rfl,hHeld⟩
  ·go_wp2_with fail
   go_ret
   exact ⟨by rw [HR.out,lexI,if_pos z0,lexI,if_pos z1,z2];rfl,hb⟩
theorem zm9 {α:Type} [Inhabited α] (enc:α→Value) (w:World) (blk off m:Nat) (dk:Array α) (os:Array Obj):Only blk w (sortWorld enc w blk off m dk os):=by
 refine ⟨rfl,rfl,rfl,?_,fun i hi e=>?_,Nat.le_add_right _ _⟩
 ·show w.heap.size≤((w.heap.modify blk _)++os).size
  rw [Array.size_append,Array.size_modify]
  exact Nat.le_add_right _ _
 ·show ((w.heap.modify blk _)++os)[i]?=_
  rw [Array.getElem?_append_left (by rw [Array.size_modify];exact hi),Array.getElem?_modify,if_neg (by omega)]
theorem swoN (R:List R3) (u v z n:Nat):Go.Sort.SWO (ltOf fun x y:Fin n=>VR.cf (prow R u v z x) (prow R u v z y)) where
 irrefl x:=swoR.irrefl (prow R u v z x)
 trans x y t h1 h2:=swoR.trans (prow R u v z x) (prow R u v z y) (prow R u v z t) h1 h2
 ntrans x y t h1 h2:=swoR.ntrans (prow R u v z x) (prow R u v z y) (prow R u v z t) h1 h2
def zw1 (n:Nat):List Value:=(List.range n).map fun i=>.int .i64 (i:Nat)
theorem zuo (n:Nat):zw1 (n+1)=zw1 n++[.int .i64 (n:Nat)]:=by
 unfold zw1
 rw [List.range_succ,List.map_append]
 rfl
def GN (W0:World) (j:Nat) (V:Value) (wr:World):Prop:=wr.ownsRow W0.heap.size 3 1 V j (zw1 j)∧Below W0.heap.size W0 wr
def z0v (w:World) (R:List R3) (u v z:Nat) (e:Ending) (w':World):Prop:=∃ (ns:List Nat) (g cap:Nat),e=.returned (.slice (some ⟨g,0,none⟩) ns.length cap)∧ns.Perm (List.range R.length)∧ns.Pairwise (fun a b=>VR.cf (prow R u v z a) (prow R u v z b)≤0)∧(∀ (j:Nat) (h:j < ns.length),w'.cell? ⟨g,j,none⟩=some (.int .i64 (ns[j]:Nat)))∧w.heap.size≤g∧Below w.heap.size w w'∧ns.length≤cap
theorem zzk (n:Nat):(Array.ofFn fun i:Fin n=>i).toList.map Fin.val=List.range n:=by
 rw [Array.toList_ofFn]
 refine List.ext_getElem (by simp) fun i h1 h2=>by simp
set_option maxHeartbeats 1200000 in
set_option maxRecDepth 20000 in
theorem zl6 (R:List R3) (gr cr u v z:Nat) (w:World) (h0:0 < R.length) (hu:u < 3) (hv:v < 3) (hz:z < 3) (hn:R.length < 1073741824)
 (hR:∀ (j:Nat) (h:j < R.length),w.rangeAt gr (j*3) [.int .i64 (R[j].a:Nat),.int .i64 (R[j].b:Nat),.int .i64 (R[j].c:Nat)]):
 Calls Tryz.prog 42 #[.slice (some ⟨gr,0,none⟩) R.length cr,.agg #[.int .i64 u,.int .i64 v,.int .i64 z]] w (z0v w R u v z):=by
 obtain ⟨W0,hW0⟩:∃ W0,W0=(w.alloc (.cells #[.slice (some ⟨gr,0,none⟩) R.length cr] 71)).alloc (.cells #[.int .i64 u,.int .i64 v,.int .i64 z] 78):=⟨_,rfl⟩
 have b0:Below w.heap.size w W0:=by rw [hW0];exact zdx _ _ _
 have k2:W0.cell? ⟨w.heap.size,0,none⟩=some (.slice (some ⟨gr,0,none⟩) R.length cr):=by rw [hW0];exact zab (zau _ (zag _ _ rfl)) 0 rfl
 have k3:W0.rangeAt (w.heap.size+1) 0 [.int .i64 u,.int .i64 v,.int .i64 z]:=by
  have hh:W0.heap[w.heap.size+1]?=some (.cells #[.int .i64 u,.int .i64 v,.int .i64 z] 78):=by rw [hW0];exact zag _ _ (by simp)
  exact z0u (zab hh 0 rfl) (zab hh 1 rfl) (zab hh 2 rfl)
 have s0:w.heap.size≤W0.heap.size:=b0.size
 have hRi:(0:Int) < R.length:=by omega
 obtain ⟨i0,hi,hz0,hz1,hz2⟩:=info_parts zv4
 have HRR:=Lib.hid (fun j h=>zaf (hR j h) b0)
 obtain ⟨n,hnn⟩:∃ n,n=R.length:=⟨_,rfl⟩
 have HN:=Lib.hid hnn
 rw [← hnn] at h0 hn hRi k2 hW0 ⊢
 clear hnn
 have HW:=Lib.hid hW0
 have HB0:=Lib.hid b0
 have HK3:=Lib.hid k3
 clear hR hW0 b0 k3
 go_enter Tryz.func42,Tryz.ntmps42
 go_upto_region 1 with fail
 rw [← HW.out]
 go_wp2_with fail
 have HK2:=Lib.hid k2
 clear k2
 go_loopg [5,9] n (fun gg s5 s9 wr=>∃ (j:Nat) (V:Value),V=s5∧j+gg=n∧s9=.int .i64 j∧Hid (GN W0 j V wr))
 case atStart=>exact ⟨0,_,rfl,by omega,rfl,Lib.hid ⟨World.ownsRow_nil _ _ _ _,Below.refl _ _⟩⟩
 case round=>
  obtain ⟨j,V,rfl,hjg,rfl,HA⟩:=hrel
  by_cases hlt:(j:Int) < n
  ·obtain ⟨hown,hbel⟩:=HA.out
   have hbs:=hbel.size
   have HX:=Lib.hid (And.intro hown hbel)
   clear hbel HA
   go_wp2_with (first
    |(at_builtin;refine wpList_append_own_at _ rfl _ _ 73 rfl W0.heap.size 3 i0 (.int .i64 0) 1 8 Tryz.underlying73 hi hz0 hz1 hz2 rfl (by decide) _ _ _ rfl (hown.alloc _) ⟨wr.heap.size,0,none⟩ 1 1 [.int .i64 j] rfl rfl (cell_one_new _ _ _) ?_ ?_ ?_ ?_ ?_))
   all_goals (try (first |(unfold maxLen;omega) | omega |(simp;omega) |(intro u hu;simp only [List.mem_cons,List.mem_nil_iff,or_false] at hu;rcases hu with rfl;rfl)))
   intro v' w1 hown' hgrow _ hloc
   have acc:GN W0 (j+1) v' w1:=by
    obtain ⟨hown,hbel⟩:=HX.out
    refine ⟨by rw [zuo];exact hown',(hbel.alloc (by omega) _).grown hgrow (by simp;omega) (fun g hg=>(hown.lt g hg).1)⟩
   have ACC:=Lib.hid acc
   clear acc hown' hgrow hloc hown HX
   go_wp2_with fail
   go_roundg (gk - 1)
   case measure=>omega
   case rel=>exact ⟨j+1,_,rfl,by omega,by go_num,ACC⟩
  ·obtain ⟨hown,hbel⟩:=HA.out
   have hjn:j=n:=by omega
   subst hjn
   obtain ⟨gn,cn,rfl,hgn,hgn2,hcap⟩:=zi0 hown h0
   haveI:Inhabited (Fin j):=⟨⟨0,h0⟩⟩
   have hsz:(Array.ofFn fun i:Fin j=>i).size=j:=Array.size_ofFn
   have hH:Go.Sort.Holds (fun i:Fin j=>Value.int .i64 (i.val:Nat)) wr gn 0 (Array.ofFn fun i:Fin j=>i):=fun t ht=>by
    rw [hsz] at ht
    refine ⟨?_,hown.frozenAt _⟩
    rw [Nat.zero_add,hown.cellAt t (by omega),getElem!_pos _ t (by rw [hsz];exact ht)]
    unfold zw1
    simp [ht]
   have eg:∀ args w,(callFunc 84 args).run Tryz.prog w=.ok (.enter 84 args) w:=enters_of Tryz.func84 (by kernel_rfl) rfl
   have hcmp:CmpLays1 Tryz.prog 84 #[.pointer (some ⟨w.heap.size+1,0,none⟩),.pointer (some ⟨w.heap.size,0,none⟩)] (fun i:Fin j=>Value.int .i64 (i.val:Nat)) (fun x y:Fin j=>VR.cf (prow R u v z x) (prow R u v z y)) gn 0 (Array.ofFn fun i:Fin j=>i).size wr:=by
    intro m os dk hs x y
    have hb:Below W0.heap.size W0 (sortWorld (fun i:Fin j=>Value.int .i64 (i.val:Nat)) wr gn 0 m dk os):=zai hbel (zm9 _ wr gn 0 m dk os) hgn hbel.size
    have hjR:=HN.out
    refine (cmpNums R gr cr w.heap.size (w.heap.size+1) x.val y.val u v z _ (by have:=x.isLt;omega) (by have:=y.isLt;omega) hu hv hz (by omega) ?_ (zaf HK3.out hb) (fun t ht=>zaf (HRR.out t ht) hb)).mono ?_
    ·rw [← hjR]
     exact (hb.cell (p:=⟨w.heap.size,0,none⟩) (World.block_lt_of_cell? W0 _ HK2.out)).trans HK2.out
    ·rintro e w' ⟨he,hb⟩
     exact ⟨he,hb.grows⟩
   have hsort:=Any.slices_SortFunc Tryz.sortN (fun i:Fin j=>Value.int .i64 (i.val:Nat)) (fun _=>rfl) (fun x y:Fin j=>VR.cf (prow R u v z x) (prow R u v z y)) (swoN R u v z j) 84 #[.pointer (some ⟨w.heap.size+1,0,none⟩),.pointer (some ⟨w.heap.size,0,none⟩)] gn 0 cn (Array.ofFn fun i:Fin j=>i) wr eg hcmp hH hgn2 (by rw [hsz];omega)
   rw [hsz] at hsort
   change Calls Tryz.prog 83 _ _ _ at hsort
   have HS:=Lib.hid hsort
   have HX:=Lib.hid (And.intro hH hbel)
   clear hsort hH hown hbel HA hcmp eg
   go_wp2_with (first
    |(go_at_call 83;(with_reducible refine HS.out.mono ?_);rintro e2 w2 ⟨rfl,d',nn,os,hperm,hsorted,hw2⟩;have HW2:=Lib.hid hw2;clear hw2))
   have hfin:z0v w R u v z (.returned (.slice (some ⟨gn,0,none⟩) j cn)) w2:=by
    obtain ⟨hH,hbel⟩:=HX.out
    have hq:=zc6 (d:=Array.ofFn fun i:Fin j=>i) (d':=d') (by rw [hsz];exact hperm)
    have hlen:(d'.toList.map Fin.val).length=j:=by rw [List.length_map,Array.length_toList,hq.1,hsz]
    have hds:d'.size=j:=hq.1.trans hsz
    have hH2:Go.Sort.Holds (fun i:Fin j=>Value.int .i64 (i.val:Nat)) w2 gn 0 d':=by rw [HW2.out];exact holds_sortWorld _ wr gn 0 nn _ d' os hgn2 hH hq.1
    have hb2:Below W0.heap.size W0 w2:=by rw [HW2.out];exact zai hbel (zm9 _ wr gn 0 nn d' os) hgn hbel.size
    refine ⟨d'.toList.map Fin.val,gn,cn,by rw [hlen],?_,?_,fun t ht=>?_,Nat.le_trans s0 hgn,HB0.out.trans (hb2.mono s0),by rw [hlen];exact hcap⟩
    ·rw [← HN.out,← zzk j]
     exact hq.2.map _
    ·rw [List.pairwise_map,List.pairwise_iff_getElem]
     intro a b ha hb hab
     have ha':a < d'.size:=by simpa using ha
     have hb':b < d'.size:=by simpa using hb
     have q:=hsorted a b (Nat.zero_le _) hab (by omega)
     rw [getElem!_pos d' a ha',getElem!_pos d' b hb'] at q
     have q2:¬ VR.cf (prow R u v z d'[b]) (prow R u v z d'[a]) < 0:=of_decide_eq_false q
     have e:VR.cf (prow R u v z d'[b]) (prow R u v z d'[a])=-VR.cf (prow R u v z d'[a]) (prow R u v z d'[b]):=zdr _ _ _ _ _ _
     rw [Array.getElem_toList,Array.getElem_toList]
     omega
    ·have ht':t < d'.size:=by rw [hlen] at ht;omega
     have:=(hH2 t ht').1
     rw [Nat.zero_add,getElem!_pos d' t ht'] at this
     rw [List.getElem_map,Array.getElem_toList]
     exact this
   have HF:=Lib.hid hfin
   clear hfin hperm hsorted HX HS
   go_wp2_with fail
   go_ret
   exact HF.out
end Go.Proofs.YtanbgdhmfjgihaaGreatDoor

/- WO -/
namespace Go.Proofs.YtanbgdhmfjgihaaGreatDoor
open Go.RowKit
set_option maxHeartbeats 3200000 in
set_option maxRecDepth 20000 in
theorem zp3 (sp k n cl:Nat) (u v z:Int) (pl:Option Addr) (nm:ByteArray) (w:World) (hk:k < 6)
 (hn:∀ W,Calls Tryz.prog 53 #[.string nm] W fun e w'=>e=.returned (.tuple #[.int .i64 k,.bool true])∧Low W.heap.size W w')
 (hv:∀ W,Calls Tryz.prog 43 #[.int .i64 k] W fun e w'=>e=.returned (.agg #[.int .i64 u,.int .i64 v,.int .i64 z])∧Low W.heap.size W w')
 (kl:w.cell? ⟨sp,2+k,none⟩=some (.slice pl n cl)):
 Calls Tryz.prog 20 #[.pointer (some ⟨sp,0,none⟩),.string nm] w fun e w'=>∃ g,e=.returned (.tuple #[.pointer (some ⟨g,0,none⟩),.int .i64 0])∧w.heap.size≤g∧Low w.heap.size w w'∧w'.heap[g]?=some (.cells #[.pointer (some ⟨sp,0,none⟩),.slice pl n cl,.int .i64 u,.int .i64 v,.int .i64 z,.int .i64 0,.int .i64 0,.int .i64 0,.int .i64 0,.int .i64 0,.int .i64 0,.int .i64 0] 93):=by
 have HL:Hid (∀ W,Low w.heap.size w W→W.cell? ⟨sp,2+k,none⟩=some (.slice pl n cl)):=Lib.hid fun W h=>(h.cell (p:=⟨sp,2+k,none⟩) (World.block_lt_of_cell? w _ kl)).trans kl
 have HV:=hv
 have hki:(k:Int) < 6:=by omega
 clear kl hv
 go_enter Tryz.func20,Tryz.ntmps20
 go_upto_region 4 with (go_at_call 53;(with_reducible refine (hn _).mono ?_);rintro e0 w3 ⟨rfl,b0⟩)
 refine wp_region_held_drew (S:=fun W=>Low w.heap.size w W) (by kernel_rfl) b0.drew (fun hHeld=>?_)
 refine tg (i:=0) (.pointer (some ⟨sp,0,none⟩)) rfl hHeld ?_
 refine tg (i:=1) (.pointer (some ⟨sp,0,none⟩)) rfl hHeld ?_
 refine tg (i:=2) (.int .i64 k) rfl hHeld ?_
 refine tg (i:=3) (.pointer (some ⟨sp,0,none⟩)) rfl hHeld ?_
 refine tg (i:=4) (.pointer (some ⟨sp,2,none⟩)) rfl hHeld ?_
 refine tg (i:=5) (.pointer (some ⟨sp,2+k,none⟩)) rfl hHeld ?_
 refine tk (i:=6) (v:=.slice pl n cl) rfl (Or.inl ⟨by rfl,fun W h=>by have c0:=HL.out W h;go_simp⟩) hHeld ?_
 refine tg (i:=7) (.int .i64 k) rfl hHeld ?_
 refine tr 8 rfl (fun K hK=>?_)
 rw [if_pos (by rfl)]
 go_simp
 refine (HV _).mono ?_
 rintro e0 w3 ⟨rfl,hb3⟩
 have hH2:=zad hHeld hb3 hHeld.size
 clear hb3
 refine hK.out _ _ hH2 (fun hH2=>?_)
 clear hK K
 try simp only [putS]
 refine tg (i:=9) (.agg #[.pointer (some ⟨sp,0,none⟩),.slice pl n cl,.int .i64 u,.int .i64 v,.int .i64 z,.int .i64 0,.int .i64 0,.int .i64 0,.int .i64 0,.int .i64 0,.int .i64 0,.int .i64 0]) rfl hH2 ?_
 refine tr 10 rfl (fun K hK=>?_)
 (try rw [if_pos (by rfl)])
 go_simp
 have hH3:=hH2.alloc (o:=.cells #[.pointer (some ⟨sp,0,none⟩),.slice pl n cl,.int .i64 u,.int .i64 v,.int .i64 z,.int .i64 0,.int .i64 0,.int .i64 0,.int .i64 0,.int .i64 0,.int .i64 0,.int .i64 0] 93) hH2.size
 have hcur:(w3.alloc (.cells #[.pointer (some ⟨sp,0,none⟩),.slice pl n cl,.int .i64 u,.int .i64 v,.int .i64 z,.int .i64 0,.int .i64 0,.int .i64 0,.int .i64 0,.int .i64 0,.int .i64 0,.int .i64 0] 93)).heap[w3.heap.size]?=some (.cells #[.pointer (some ⟨sp,0,none⟩),.slice pl n cl,.int .i64 u,.int .i64 v,.int .i64 z,.int .i64 0,.int .i64 0,.int .i64 0,.int .i64 0,.int .i64 0,.int .i64 0,.int .i64 0] 93):=zag _ _ rfl
 have hge:=hH2.size
 generalize w3.alloc (.cells #[.pointer (some ⟨sp,0,none⟩),.slice pl n cl,.int .i64 u,.int .i64 v,.int .i64 z,.int .i64 0,.int .i64 0,.int .i64 0,.int .i64 0,.int .i64 0,.int .i64 0,.int .i64 0] 93)=w4 at*
 generalize w3.heap.size=gg at*
 refine hK.out _ _ hH3 (fun _=>?_)
 clear hK K
 refine tg (i:=11) (.pointer (some ⟨gg,0,none⟩)) rfl hH3 ?_
 refine tg (i:=12) (.int .i64 0) rfl hH3 ?_
 refine wpAnyH_done (by kernel_rfl) ?_ _
 go_wp2_with fail
 exact bodyPost_ret (results_tmp2 Tryz.results20 _ _ _) rfl ⟨gg,rfl,hge,hH3,hcur⟩
def zs0 (sp:Nat) (pl:Option Addr) (n cl k:Nat):CS:=⟨sp,pl,n,cl,(lev k).1,(lev k).2.1,(lev k).2.2,0,0,0,0,0,0,0⟩
theorem cursorC {W W2:World} {sp:Nat} {s:SM} {k:Nat} (h:ze7 W sp s) (b:Below W.heap.size W W2) (ok:SMok s) (so:zim s) (hk:k < 6):
 Calls Tryz.prog 20 #[.pointer (some ⟨sp,0,none⟩),.string (onm k)] W2 fun e w'=>∃ g c,e=.returned (.tuple #[.pointer (some ⟨g,0,none⟩),.int .i64 0])∧Low W2.heap.size W2 w'∧W2.heap.size≤g∧(∃ pl n cl,c=zs0 sp pl n cl k)∧zbr W s w' g c k:=by
 obtain ⟨pv,pr,cv,cr,pp,cc,h0⟩:=h
 have h0':=(b.block _ (zac h0.h)).trans h0.h
 have kl:W2.cell? ⟨sp,2+k,none⟩=some (.slice (pp k) (s.ls k).length (cc k)):=by
  match k,hk with
  | 0,_=>exact zab h0' 2 rfl
  | 1,_=>exact zab h0' 3 rfl
  | 2,_=>exact zab h0' 4 rfl
  | 3,_=>exact zab h0' 5 rfl
  | 4,_=>exact zab h0' 6 rfl
  | 5,_=>exact zab h0' 7 rfl
 refine (zp3 sp k (s.ls k).length (cc k) _ _ _ (pp k) (onm k) W2 hk (fun w=>zwz k hk w) (fun w=>zn4 k hk w) kl).mono ?_
 rintro e w' ⟨g,rfl,hg,hb,hcur⟩
 refine ⟨g,zs0 sp (pp k) (s.ls k).length (cc k) k,rfl,hb,hg,⟨_,_,_,rfl⟩,⟨⟨pv,pr,cv,cr,pp,cc,h0⟩,rfl,h0.l k hk,?_,?_,?_,Nat.le_trans b.size hg,zak b hb.is b.size,hcur⟩,?_,ok,so,hk⟩
 ·show (lev k).1 < 3
  match k,hk with
  | 0,_ | 1,_ | 2,_ | 3,_ | 4,_ | 5,_=>decide
 ·show (lev k).2.1 < 3
  match k,hk with
  | 0,_ | 1,_ | 2,_ | 3,_ | 4,_ | 5,_=>decide
 ·show (lev k).2.2 < 3
  match k,hk with
  | 0,_ | 1,_ | 2,_ | 3,_ | 4,_ | 5,_=>decide
 ·exact ⟨Nat.zero_le _,rfl,rfl,rfl,rfl,fun q=>absurd q (by show ¬ 1≤0;omega),fun q=>absurd q (by show ¬ 2≤0;omega),fun q=>absurd q (by show ¬ 3≤0;omega)⟩
section
variable {W0 W W':World} {s:SM} {g k:Nat} {c:CS}
theorem zcj.refl (c:CS):zcj c c:=⟨rfl,rfl,rfl,rfl,rfl,rfl⟩
theorem CS.next_alike (c:CS) (s:SM) (k:Nat):zcj c (c.next s k):=by
 unfold CS.next
 split
 ·exact c.go_alike _
 ·exact zcj.refl c
theorem CS.seek_alike (c:CS) (s:SM) (k:Nat) (u:Val):zcj c (c.seek s k u):=by
 unfold CS.seek
 split
 ·exact c.go_alike _
 ·exact zcj.refl c
theorem CS.opn_alike (c:CS) (s:SM) (k:Nat):zcj c (c.opn s k):=by
 unfold CS.opn
 split
 ·exact c.down_alike _ _
 ·exact zcj.refl c
theorem zbr.next (h:zbr W0 s W g c k) (o:Only g W W') (B:Cur W' g (c.next s k)):zbr W0 s W' g (c.next s k) k:=⟨h.at_.only (c.next_alike s k) o B,h.fit.next,h.ok,h.so,h.hk⟩
theorem zbr.seek (h:zbr W0 s W g c k) (u:Val) (o:Only g W W') (B:Cur W' g (c.seek s k u)):zbr W0 s W' g (c.seek s k u) k:=⟨h.at_.only (c.seek_alike s k u) o B,h.fit.seek u,h.ok,h.so,h.hk⟩
theorem zbr.opn (h:zbr W0 s W g c k) (o:Only g W W') (B:Cur W' g (c.opn s k)):zbr W0 s W' g (c.opn s k) k:=⟨h.at_.only (c.opn_alike s k) o B,h.fit.opn,h.ok,h.so,h.hk⟩
theorem zbr.upp (h:zbr W0 s W g c k) (o:Only g W W') (B:Cur W' g c.up):zbr W0 s W' g c.up k:=⟨h.at_.only c.up_alike o B,h.fit.up,h.ok,h.so,h.hk⟩
theorem zbr.other {e:Nat} (h:zbr W0 s W g c k) (o:Only e W W') (he:W0.heap.size≤e) (hne:g≠e):zbr W0 s W' g c k:=
 ⟨⟨h.at_.S,h.at_.n,h.at_.l,h.at_.h0,h.at_.h1,h.at_.h2,h.at_.hg,zai h.at_.b o he h.at_.b.size,h.at_.B.only o hne⟩,h.fit,h.ok,h.so,h.hk⟩
end
end Go.Proofs.YtanbgdhmfjgihaaGreatDoor
