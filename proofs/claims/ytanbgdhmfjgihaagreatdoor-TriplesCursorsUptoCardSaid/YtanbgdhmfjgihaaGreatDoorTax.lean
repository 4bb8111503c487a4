/- Texts of one kind, one behind the other: each says ahead of itself what it shows. -/
import Derived.Shelf.SlSortCmp.Whole1
import Derived.Test.YtanbgdhmfjgihaaGreatDoorProg
import Derived.Test.YtanbgdhmfjgihaaGreatDoorTaw
/- SO -/
namespace Go.Proofs
open Go.Shelf
def Tryz.sortN_ren:Go.Shelf.Ren:=⟨fun | 6=>83 | 15=>101 | 14=>105 | 28=>134 | 29=>135 | 20=>146 | 21=>147 | 22=>148 | 23=>149 | 24=>150 | 25=>151 | 26=>152 | 27=>153 | 46=>175 | 47=>161 | 48=>162 | 49=>176 | 50=>177 | 57=>186 | n=>n,fun | 22=>73 | 24=>3 | 25=>104 | 3=>3 | 39=>139 | 0=>0 | 53=>174 | 55=>176 | 4=>4 | 46=>168 | 45=>167 | 50=>87 | 5=>5 | 9=>9 | 66=>193 | 70=>197 | 76=>209 | 77=>210 | n=>n,fun | n=>n⟩
theorem Tryz.sortN:Go.Proofs.SlLaysF.n6 Tryz.prog Tryz.sortN_ren:={
 mixed:=by kernel_rfl
 f6:=⟨Tryz.f83.name,by decide,Tryz.func83.trans (congrArg some (by kernel_rfl))⟩
 f14:=⟨Tryz.f105.name,by decide,Tryz.func105.trans (congrArg some (by kernel_rfl))⟩
 f15:=Tryz.func101.trans (congrArg some (by kernel_rfl))
 f20:=⟨Tryz.f146.name,by decide,Tryz.func146.trans (congrArg some (by kernel_rfl))⟩
 f21:=⟨Tryz.f147.name,by decide,Tryz.func147.trans (congrArg some (by kernel_rfl))⟩
 f22:=⟨Tryz.f148.name,by decide,Tryz.func148.trans (congrArg some (by kernel_rfl))⟩
 f23:=⟨Tryz.f149.name,by decide,Tryz.func149.trans (congrArg some (by kernel_rfl))⟩
 f24:=⟨Tryz.f150.name,by decide,Tryz.func150.trans (congrArg some (by kernel_rfl))⟩
 f25:=⟨Tryz.f151.name,by decide,Tryz.func151.trans (congrArg some (by kernel_rfl))⟩
 f26:=⟨Tryz.f152.name,by decide,Tryz.func152.trans (congrArg some (by kernel_rfl))⟩
 f27:=⟨Tryz.f153.name,by decide,Tryz.func153.trans (congrArg some (by kernel_rfl))⟩
 f28:=Tryz.func134.trans (congrArg some (by kernel_rfl))
 f29:=Tryz.func135.trans (congrArg some (by kernel_rfl))
 f46:=⟨Tryz.f175.name,by decide,Tryz.func175.trans (congrArg some (by kernel_rfl))⟩
 f47:=Tryz.func161.trans (congrArg some (by kernel_rfl))
 f48:=Tryz.func162.trans (congrArg some (by kernel_rfl))
 f49:=⟨Tryz.f176.name,by decide,Tryz.func176.trans (congrArg some (by kernel_rfl))⟩
 f50:=⟨Tryz.f177.name,by decide,Tryz.func177.trans (congrArg some (by kernel_rfl))⟩
 f57:=⟨Tryz.f186.name,by decide,Tryz.func186.trans (congrArg some (by kernel_rfl))⟩
 t0:=Tryz.underlying0
 a0:=Tryz.isAgg0
 z0:=Tryz.sizeOf0
 v0:=Tryz.zeroValue0
 t3:=Tryz.underlying3
 a3:=Tryz.isAgg3
 z3:=Tryz.sizeOf3
 v3:=Tryz.zeroValue3
 t4:=Tryz.underlying4
 a4:=Tryz.isAgg4
 z4:=Tryz.sizeOf4
 v4:=Tryz.zeroValue4
 t5:=Tryz.underlying5
 a5:=Tryz.isAgg5
 z5:=Tryz.sizeOf5
 v5:=Tryz.zeroValue5
 t9:=Tryz.underlying9
 a9:=Tryz.isAgg9
 z9:=Tryz.sizeOf9
 v9:=Tryz.zeroValue9
 t22:=Tryz.underlying73
 a22:=Tryz.isAgg73
 z22:=Tryz.sizeOf73
 v22:=Tryz.zeroValue73
 a24:=Tryz.isAgg3
 z24:=Tryz.sizeOf3
 t25:=Tryz.underlying104
 a25:=Tryz.isAgg104
 z25:=Tryz.sizeOf104
 v25:=Tryz.zeroValue104
 t39:=Tryz.underlying139
 a39:=Tryz.isAgg139
 z39:=Tryz.sizeOf139
 v39:=Tryz.zeroValue139
 t45:=Tryz.underlying167
 a45:=Tryz.isAgg167
 z45:=Tryz.sizeOf167
 v45:=Tryz.zeroValue167
 t46:=Tryz.underlying168
 a46:=Tryz.isAgg168
 z46:=Tryz.sizeOf168
 v46:=Tryz.zeroValue168
 t50:=Tryz.underlying87
 a50:=Tryz.isAgg87
 z50:=Tryz.sizeOf87
 v50:=Tryz.zeroValue87
 t53:=Tryz.underlying174
 a53:=Tryz.isAgg174
 z53:=Tryz.sizeOf174
 v53:=Tryz.zeroValue174
 t55:=Tryz.underlying176
 a55:=Tryz.isAgg176
 z55:=Tryz.sizeOf176
 v55:=Tryz.zeroValue176
 t66:=Tryz.underlying193
 a66:=Tryz.isAgg193
 z66:=Tryz.sizeOf193
 v66:=Tryz.zeroValue193
 t70:=Tryz.underlying197
 a70:=Tryz.isAgg197
 z70:=Tryz.sizeOf197
 v70:=Tryz.zeroValue197
 t76:=Tryz.underlying209
 a76:=Tryz.isAgg209
 z76:=Tryz.sizeOf209
 v76:=Tryz.zeroValue209
 t77:=Tryz.underlying210
 a77:=Tryz.isAgg210
 z77:=Tryz.sizeOf210
 v77:=Tryz.zeroValue210 }
end Go.Proofs

/- SN -/
namespace Go.Proofs.YtanbgdhmfjgihaaGreatDoor
open Go.RowKit
def R3.vr (r:R3):VR:=⟨(r.a:Nat),(r.b:Nat),(r.c:Nat)⟩
def prow (R:List R3) (u v z:Nat) (i:Nat):VR:=⟨((R[i]?.getD default).at u:Nat),((R[i]?.getD default).at v:Nat),((R[i]?.getD default).at z:Nat)⟩
theorem zvc {W:World} {g o:Nat} {r:R3} (h:W.rangeAt g o [.int .i64 (r.a:Nat),.int .i64 (r.b:Nat),.int .i64 (r.c:Nat)]) (p:Nat) (hp:p < 3):W.cell? ⟨g,o+p,none⟩=some (.int .i64 (r.at p:Nat)):=by
 match p,hp with
 | 0,_=>exact h 0 _ rfl
 | 1,_=>exact h 1 _ rfl
 | 2,_=>exact h 2 _ rfl
theorem idx78a (u v z:Int) (w:World):(Instr.index 78 (.agg #[.int .i64 u,.int .i64 v,.int .i64 z]) (.int .i64 0)).run Tryz.prog w=.ok (.int .i64 u) w:=by
 have s3:Tryz.t3.size=1:=rfl
 simp [s3,Instr.index,run_underlying Tryz.underlying78,asIntOf,part,Sem.run_bind,isAgg,sizeOf,go_sem]
theorem idx78b (u v z:Int) (w:World):(Instr.index 78 (.agg #[.int .i64 u,.int .i64 v,.int .i64 z]) (.int .i64 1)).run Tryz.prog w=.ok (.int .i64 v) w:=by
 have s3:Tryz.t3.size=1:=rfl
 simp [s3,Instr.index,run_underlying Tryz.underlying78,asIntOf,part,Sem.run_bind,isAgg,sizeOf,go_sem]
theorem idx78c (u v z:Int) (w:World):(Instr.index 78 (.agg #[.int .i64 u,.int .i64 v,.int .i64 z]) (.int .i64 2)).run Tryz.prog w=.ok (.int .i64 z) w:=by
 have s3:Tryz.t3.size=1:=rfl
 simp [s3,Instr.index,run_underlying Tryz.underlying78,asIntOf,part,Sem.run_bind,isAgg,sizeOf,go_sem]
set_option maxHeartbeats 1200000 in
set_option maxRecDepth 20000 in
theorem cmpNums (R:List R3) (gr cr b2 b3 x y u v z:Nat) (w:World) (hx:x < R.length) (hy:y < R.length) (hu:u < 3) (hv:v < 3) (hz:z < 3) (hn:R.length < 1073741824)
 (k2:w.cell? ⟨b2,0,none⟩=some (.slice (some ⟨gr,0,none⟩) R.length cr)) (k3:w.rangeAt b3 0 [.int .i64 u,.int .i64 v,.int .i64 z])
 (hR:∀ (j:Nat) (h:j < R.length),w.rangeAt gr (j*3) [.int .i64 (R[j].a:Nat),.int .i64 (R[j].b:Nat),.int .i64 (R[j].c:Nat)]):
 Calls Tryz.prog 84 #[.int .i64 x,.int .i64 y,.pointer (some ⟨b3,0,none⟩),.pointer (some ⟨b2,0,none⟩)] w fun e w'=>e=.returned (.int .i64 (VR.cf (prow R u v z x) (prow R u v z y)))∧Low w.heap.size w w':=by
 have hpx:prow R u v z x=⟨(R[x].at u:Nat),(R[x].at v:Nat),(R[x].at z:Nat)⟩:=by unfold prow;rw [List.getElem?_eq_getElem hx];rfl
 have hpy:prow R u v z y=⟨(R[y].at u:Nat),(R[y].at v:Nat),(R[y].at z:Nat)⟩:=by unfold prow;rw [List.getElem?_eq_getElem hy];rfl
 rw [hpx,hpy]
 have hX:=fun p hp=>zvc (hR x hx) p hp
 have hY:=fun p hp=>zvc (hR y hy) p hp
 have keep:∀ (g o:Nat) (c:Value),w.cell? ⟨g,o,none⟩=some c→∀ W,Low w.heap.size w W→W.cell? ⟨g,o,none⟩=some c:=fun g o c h W hb=>(hb.cell (p:=⟨g,o,none⟩) (World.block_lt_of_cell? w _ h)).trans h
 unfold VR.cf rowI
 have x0:=keep _ _ _ (hX u hu)
 have x1:=keep _ _ _ (hX v hv)
 have x2:=keep _ _ _ (hX z hz)
 have y0:=keep _ _ _ (hY u hu)
 have y1:=keep _ _ _ (hY v hv)
 have y2:=keep _ _ _ (hY z hz)
 have HK2:=Lib.hid (keep _ _ _ k2)
 simp only
 generalize ((R[x].at u:Nat):Int)=a0 at*
 generalize ((R[x].at v:Nat):Int)=a1 at*
 generalize ((R[x].at z:Nat):Int)=a2 at*
 generalize ((R[y].at u:Nat):Int)=d0 at*
 generalize ((R[y].at v:Nat):Int)=d1 at*
 generalize ((R[y].at z:Nat):Int)=d2 at*
 have hc0:=fun W=>ze5 a0 d0 W
 have hc1:=fun W=>ze5 a1 d1 W
 have hc2:=fun W=>ze5 a2 d2 W
 generalize cmpZ a0 d0=c0 at hc0 ⊢
 generalize cmpZ a1 d1=c1 at hc1 ⊢
 generalize cmpZ a2 d2=c2 at hc2 ⊢
 obtain ⟨r,hr⟩:∃ r,r=lexI c0 (lexI c1 c2):=⟨_,rfl⟩
 rw [← hr]
 have HR:=Lib.hid hr
 have HX0:=Lib.hid x0
 have HX1:=Lib.hid x1
 have HX2:=Lib.hid x2
 have HY0:=Lib.hid y0
 have HY1:=Lib.hid y1
 have HY2:=Lib.hid y2
 have hxi:(x:Int) < R.length:=by omega
 have hyi:(y:Int) < R.length:=by omega
 clear hr x0 x1 x2 y0 y1 y2 hX hY keep hR k2 hpx hpy
 go_enter Tryz.func84,Tryz.ntmps84
 go_wp2_with (first
  |((with_reducible refine zmg (.tmp 2) b3 0 u v z k3 ?_ ?_ ?_ ?_);rfl;rfl;rfl))
 go_loopw [11] (fun i wr=>Low w.heap.size w wr∧∃ j:Nat,i=.int .i64 j∧(j=0∨(j=1∧c0=0)∨(j=2∧c0=0∧c1=0)∨(j=3∧c0=0∧c1=0∧c2=0))) (fun i _=>3 - (intOf i).toNat)
 case atStart=>exact ⟨Low.refl _ _,0,rfl,.inl rfl⟩
 case round=>
  obtain ⟨hb,j,rfl,rfl | ⟨rfl,z0⟩ | ⟨rfl,z0,z1⟩ | ⟨rfl,z0,z1,z2⟩⟩:=hrel
  ·have hp3:(u:Int) < 3:=by omega
   have hix:=fun w=>idx78a u v z w
   go_upto_region 4 with fail
   refine wp_region_held_drew (S:=fun W=>Low w.heap.size w W) (by kernel_rfl) hb.drew (fun hHeld=>?_)
   refine tk (i:=0) (v:=.slice (some ⟨gr,0,none⟩) R.length cr) rfl (Or.inl ⟨by rfl,fun W h=>by have c0:=HK2.out W h;go_simp⟩) hHeld ?_
   refine tg (i:=1) (.int .i64 x) rfl hHeld ?_
   refine tg (i:=2) (.int .i64 u) rfl hHeld ?_
   refine tg (i:=3) (.pointer (some ⟨gr,x*3,none⟩)) rfl hHeld ?_
   refine tg (i:=4) (.pointer (some ⟨gr,x*3+u,none⟩)) rfl hHeld ?_
   refine tk (i:=5) (v:=.int .i64 a0) rfl (Or.inl ⟨by rfl,fun W h=>by have c0:=HX0.out W h;go_simp⟩) hHeld ?_
   refine tk (i:=6) (v:=.slice (some ⟨gr,0,none⟩) R.length cr) rfl (Or.inl ⟨by rfl,fun W h=>by have c0:=HK2.out W h;go_simp⟩) hHeld ?_
   refine tg (i:=7) (.int .i64 y) rfl hHeld ?_
   refine tg (i:=8) (.int .i64 u) rfl hHeld ?_
   refine tg (i:=9) (.pointer (some ⟨gr,y*3,none⟩)) rfl hHeld ?_
   refine tg (i:=10) (.pointer (some ⟨gr,y*3+u,none⟩)) rfl hHeld ?_
   refine tk (i:=11) (v:=.int .i64 d0) rfl (Or.inl ⟨by rfl,fun W h=>by have c0:=HY0.out W h;go_simp⟩) hHeld ?_
   refine tr 12 rfl (fun K hK=>?_)
   rw [if_pos (by rfl)]
   go_simp
   refine (hc0 _).mono ?_
   rintro e0 w3 ⟨rfl,hw3⟩
   subst hw3
   refine hK.out _ _ hHeld (fun hHeld=>?_)
   clear hK K
   try simp only [putS]
   refine tg (i:=13) (.int .i64 c0) rfl hHeld ?_
   refine wpAnyH_done (by kernel_rfl) ?_ _
   by_cases hz:c0=0
   ·have e2:(c0 != 0)=false:=by simp [hz]
    go_wp2_with fail
    go_roundw
    case rel=>exact ⟨hHeld,1,by go_num,.inr (.inl ⟨rfl,hz⟩)⟩
    case measure=>simp [intOf]
   ·have e2:(c0 != 0)=true:=by simpa using hz
    go_wp2_with fail
    go_ret
    exact ⟨by rw [HR.out,lexI,if_neg hz];rfl,hHeld⟩
  ·have hp3:(v:Int) < 3:=by omega
   have hix:=fun w=>idx78b u v z w
   go_upto_region 4 with fail
   refine wp_region_held_drew (S:=fun W=>Low w.heap.size w W) (by kernel_rfl) hb.drew (fun hHeld=>?_)
   refine tk (i:=0) (v:=.slice (some ⟨gr,0,none⟩) R.length cr) rfl (Or.inl ⟨by rfl,fun W h=>by have c0:=HK2.out W h;go_simp⟩) hHeld ?_
   refine tg (i:=1) (.int .i64 x) rfl hHeld ?_
   refine tg (i:=2) (.int .i64 v) rfl hHeld ?_
   refine tg (i:=3) (.pointer (some ⟨gr,x*3,none⟩)) rfl hHeld ?_
   refine tg (i:=4) (.pointer (some ⟨gr,x*3+v,none⟩)) rfl hHeld ?_
   refine tk (i:=5) (v:=.int .i64 a1) rfl (Or.inl ⟨by rfl,fun W h=>by have c0:=HX1.out W h;go_simp⟩) hHeld ?_
   refine tk (i:=6) (v:=.slice (some ⟨gr,0,none⟩) R.length cr) rfl (Or.inl ⟨by rfl,fun W h=>by have c0:=HK2.out W h;go_simp⟩) hHeld ?_
   refine tg (i:=7) (.int .i64 y) rfl hHeld ?_
   refine tg (i:=8) (.int .i64 v) rfl hHeld ?_
   refine tg (i:=9) (.pointer (some ⟨gr,y*3,none⟩)) rfl hHeld ?_
   refine tg (i:=10) (.pointer (some ⟨gr,y*3+v,none⟩)) rfl hHeld ?_
   refine tk (i:=11) (v:=.int .i64 d1) rfl (Or.inl ⟨by rfl,fun W h=>by have c0:=HY1.out W h;go_simp⟩) hHeld ?_
   refine tr 12 rfl (fun K hK=>?_)
   rw [if_pos (by rfl)]
   go_simp
   refine (hc1 _).mono ?_
   rintro e0 w3 ⟨rfl,hw3⟩
   subst hw3
   refine hK.out _ _ hHeld (fun hHeld=>?_)
   clear hK K
   try simp only [putS]
   refine tg (i:=13) (.int .i64 c1) rfl hHeld ?_
   refine wpAnyH_done (by kernel_rfl) ?_ _
   by_cases hz:c1=0
   ·have e2:(c1 != 0)=false:=by simp [hz]
    go_wp2_with fail
    go_roundw
    case rel=>exact ⟨hHeld,2,by go_num,.inr (.inr (.inl ⟨rfl,z0,hz⟩))⟩
    case measure=>simp [intOf]
   ·have e2:(c1 != 0)=true:=by simpa using hz
    go_wp2_with fail
    go_ret
    exact ⟨by rw [HR.out,lexI,if_pos z0,lexI,if_neg hz];rfl,hHeld⟩
  ·have hp3:(z:Int) < 3:=by omega
   have hix:=fun w=>idx78c u v z w
   go_upto_region 4 with fail
   refine wp_region_held_drew (S:=fun W=>Low w.heap.size w W) (by kernel_rfl) hb.drew (fun hHeld=>?_)
   refine tk (i:=0) (v:=.slice (some ⟨gr,0,none⟩) R.length cr) rfl (Or.inl ⟨by rfl,fun W h=>by have c0:=HK2.out W h;go_simp⟩) hHeld ?_
   refine tg (i:=1) (.int .i64 x) rfl hHeld ?_
   refine tg (i:=2) (.int .i64 z) rfl hHeld ?_
   refine tg (i:=3) (.pointer (some ⟨gr,x*3,none⟩)) rfl hHeld ?_
   refine tg (i:=4) (.pointer (some ⟨gr,x*3+z,none⟩)) rfl hHeld ?_
   refine tk (i:=5) (v:=.int .i64 a2) rfl (Or.inl ⟨by rfl,fun W h=>by have c0:=HX2.out W h;go_simp⟩) hHeld ?_
   refine tk (i:=6) (v:=.slice (some ⟨gr,0,none⟩) R.length cr) rfl (Or.inl ⟨by rfl,fun W h=>by have c0:=HK2.out W h;go_simp⟩) hHeld ?_
   refine tg (i:=7) (.int .i64 y) rfl hHeld ?_
   refine tg (i:=8) (.int .i64 z) rfl hHeld ?_
   refine tg (i:=9) (.pointer (some ⟨gr,y*3,none⟩)) rfl hHeld ?_
   refine tg (i:=10) (.pointer (some ⟨gr,y*3+z,none⟩)) rfl hHeld ?_
   refine tk (i:=11) (v:=.int .i64 d2) rfl (Or.inl ⟨by rfl,fun W h=>by have c0:=HY2.out W h;go_simp⟩) hHeld ?_
   refine tr 12 rfl (fun K hK=>?_)
   rw [if_pos (by rfl)]
   go_simp
   refine (hc2 _).mono ?_
   rintro e0 w3 ⟨rfl,hw3⟩
   subst hw3
   refine hK.out _ _ hHeld (fun hHeld=>?_)
   clear hK K
   try simp only [putS]
   refine tg (i:=13) (.int .i64 c2) rfl hHeld ?_
   refine wpAnyH_done (by kernel_rfl) ?_ _
   by_cases hz:c2=0
   ·have e2:(c2 != 0)=false:=by simp [hz]
    go_wp2_with fail
    go_roundw
    case rel=>exact ⟨hHeld,3,by go_num,.inr (.inr (.inr ⟨rfl,z0,z1,hz⟩))⟩
    case measure=>simp [intOf]
   ·have e2:(c2 != 0)=true:=by simpa using hz
    go_wp2_with fail
    go_ret
    exact ⟨by rw [HR.out,lexI,if_pos z0,lexI,if_pos z1];rfl,hHeld⟩
  ·go_wp2_with fail
   go_ret
   exact ⟨by rw [HR.out,lexI,if_pos z0,lexI,if_pos z1,z2];rfl,hb⟩
theorem zmh {α:Type} [Inhabited α] (enc:α→Value) (w:World) (blk off m:Nat) (dk:Array α) (os:Array Obj):Only blk w (sortWorld enc w blk off m dk os):=by
 refine ⟨rfl,rfl,rfl,?_,fun i hi e=>?_,Nat.le_add_right _ _⟩
 ·show w.heap.size≤((w.heap.modify blk _)++os).size
  rw [Array.size_append,Array.size_modify]
  exact Nat.le_add_right _ _
 ·show ((w.heap.modify blk _)++os)[i]?=_
  rw [Array.getElem?_append_left (by rw [Array.size_modify];exact hi),Array.getElem?_modify,if_neg (by omega)]
theorem swoN (R:List R3) (u v z n:Nat):Go.Sort.SWO (ltOf fun x y:Fin n=>VR.cf (prow R u v z x) (prow R u v z y)) where
 irrefl x:=swoR.irrefl (prow R u v z x)
 trans x y t h1 h2:=swoR.trans (prow R u v z x) (prow R u v z y) (prow R u v z t) h1 h2
 ntrans x y t h1 h2:=swoR.ntrans (prow R u v z x) (prow R u v z y) (prow R u v z t) h1 h2
def zvd (n:Nat):List Value:=(List.range n).map fun i=>.int .i64 (i:Nat)
theorem zs3 (n:Nat):zvd (n+1)=zvd n++[.int .i64 (n:Nat)]:=by
 unfold zvd
 rw [List.range_succ,List.map_append]
 rfl
def GN (W0:World) (j:Nat) (V:Value) (wr:World):Prop:=wr.ownsRow W0.heap.size 3 1 V j (zvd j)∧Below W0.heap.size W0 wr
def zyi (w:World) (R:List R3) (u v z:Nat) (e:Ending) (w':World):Prop:=∃ (ns:List Nat) (g cap:Nat),e=.returned (.slice (some ⟨g,0,none⟩) ns.length cap)∧ns.Perm (List.range R.length)∧ns.Pairwise (fun a b=>VR.cf (prow R u v z a) (prow R u v z b)≤0)∧(∀ (j:Nat) (h:j < ns.length),w'.cell? ⟨g,j,none⟩=some (.int .i64 (ns[j]:Nat)))∧w.heap.size≤g∧Below w.heap.size w w'∧ns.length≤cap
theorem zxc (n:Nat):(Array.ofFn fun i:Fin n=>i).toList.map Fin.val=List.range n:=by
 rw [Array.toList_ofFn]
 refine List.ext_getElem (by simp) fun i h1 h2=>by simp
set_option maxHeartbeats 1200000 in
set_option maxRecDepth 20000 in
theorem zlg (R:List R3) (gr cr u v z:Nat) (w:World) (h0:0 < R.length) (hu:u < 3) (hv:v < 3) (hz:z < 3) (hn:R.length < 1073741824)
 (hR:∀ (j:Nat) (h:j < R.length),w.rangeAt gr (j*3) [.int .i64 (R[j].a:Nat),.int .i64 (R[j].b:Nat),.int .i64 (R[j].c:Nat)]):
 Calls Tryz.prog 42 #[.slice (some ⟨gr,0,none⟩) R.length cr,.agg #[.int .i64 u,.int .i64 v,.int .i64 z]] w (zyi w R u v z):=by
 obtain ⟨W0,hW0⟩:∃ W0,W0=(w.alloc (.cells #[.slice (some ⟨gr,0,none⟩) R.length cr] 71)).alloc (.cells #[.int .i64 u,.int .i64 v,.int .i64 z] 78):=⟨_,rfl⟩
 have b0:Below w.heap.size w W0:=by rw [hW0];exact zfl _ _ _
 have k2:W0.cell? ⟨w.heap.size,0,none⟩=some (.slice (some ⟨gr,0,none⟩) R.length cr):=by rw [hW0];exact zab (zaw _ (zah _ _ rfl)) 0 rfl
 have k3:W0.rangeAt (w.heap.size+1) 0 [.int .i64 u,.int .i64 v,.int .i64 z]:=by
  have hh:W0.heap[w.heap.size+1]?=some (.cells #[.int .i64 u,.int .i64 v,.int .i64 z] 78):=by rw [hW0];exact zah _ _ (by simp)
  exact zyh (zab hh 0 rfl) (zab hh 1 rfl) (zab hh 2 rfl)
 have s0:w.heap.size≤W0.heap.size:=b0.size
 have hRi:(0:Int) < R.length:=by omega
 obtain ⟨i0,hi,hz0,hz1,hz2⟩:=info_parts zug
 have HRR:=Lib.hid (fun j h=>zae (hR j h) b0)
 obtain ⟨n,hnn⟩:∃ n,n=R.length:=⟨_,rfl⟩
 have HN:=Lib.hid hnn
 rw [← hnn] at h0 hn hRi k2 hW0 ⊢
 clear hnn
 have HW:=Lib.hid hW0
 have HB0:=Lib.hid b0
 have HK3:=Lib.hid k3
 clear hR hW0 b0 k3
 go_enter Tryz.func42,Tryz.ntmps42
 go_upto_region 1 with fail
 rw [← HW.out]
 go_wp2_with fail
 have HK2:=Lib.hid k2
 clear k2
 go_loopg [5,9] n (fun gg s5 s9 wr=>∃ (j:Nat) (V:Value),V=s5∧j+gg=n∧s9=.int .i64 j∧Hid (GN W0 j V wr))
 case atStart=>exact ⟨0,_,rfl,by omega,rfl,Lib.hid ⟨World.ownsRow_nil _ _ _ _,Below.refl _ _⟩⟩
 case round=>
  obtain ⟨j,V,rfl,hjg,rfl,HA⟩:=hrel
  by_cases hlt:(j:Int) < n
  ·obtain ⟨hown,hbel⟩:=HA.out
   have hbs:=hbel.size
   have HX:=Lib.hid (And.intro hown hbel)
   clear hbel HA
   go_wp2_with (first
    |(at_builtin;refine wpList_append_own_at _ rfl _ _ 73 rfl W0.heap.size 3 i0 (.int .i64 0) 1 8 Tryz.underlying73 hi hz0 hz1 hz2 rfl (by decide) _ _ _ rfl (hown.alloc _) ⟨wr.heap.size,0,none⟩ 1 1 [.int .i64 j] rfl rfl (cell_one_new _ _ _) ?_ ?_ ?_ ?_ ?_))
   all_goals (try (first |(unfold maxLen;omega) | omega |(simp;omega) |(intro u hu;simp only [List.mem_cons,List.mem_nil_iff,or_false] at hu;rcases hu with rfl;rfl)))
   intro v' w1 hown' hgrow _ hloc
   have acc:GN W0 (j+1) v' w1:=by
    obtain ⟨hown,hbel⟩:=HX.out
    refine ⟨by rw [zs3];exact hown',(hbel.alloc (by omega) _).grown hgrow (by simp;omega) (fun g hg=>(hown.lt g hg).1)⟩
   have ACC:=Lib.hid acc
   clear acc hown' hgrow hloc hown HX
   go_wp2_with fail
   go_roundg (gk - 1)
   case measure=>omega
   case rel=>exact ⟨j+1,_,rfl,by omega,by go_num,ACC⟩
  ·obtain ⟨hown,hbel⟩:=HA.out
   have hjn:j=n:=by omega
   subst hjn
   obtain ⟨gn,cn,rfl,hgn,hgn2,hcap⟩:=zih hown h0
   haveI:Inhabited (Fin j):=⟨⟨0,h0⟩⟩
   have hsz:(Array.ofFn fun i:Fin j=>i).size=j:=Array.size_ofFn
   have hH:Go.Sort.Holds (fun i:Fin j=>Value.int .i64 (i.val:Nat)) wr gn 0 (Array.ofFn fun i:Fin j=>i):=fun t ht=>by
    rw [hsz] at ht
    refine ⟨?_,hown.frozenAt _⟩
    rw [Nat.zero_add,hown.cellAt t (by omega),getElem!_pos _ t (by rw [hsz];exact ht)]
    unfold zvd
    simp [ht]
   have eg:∀ args w,(callFunc 84 args).run Tryz.prog w=.ok (.enter 84 args) w:=enters_of Tryz.func84 (by kernel_rfl) rfl
   have hcmp:CmpLays1 Tryz.prog 84 #[.pointer (some ⟨w.heap.size+1,0,none⟩),.pointer (some ⟨w.heap.size,0,none⟩)] (fun i:Fin j=>Value.int .i64 (i.val:Nat)) (fun x y:Fin j=>VR.cf (prow R u v z x) (prow R u v z y)) gn 0 (Array.ofFn fun i:Fin j=>i).size wr:=by
    intro m os dk hs x y
    have hb:Below W0.heap.size W0 (sortWorld (fun i:Fin j=>Value.int .i64 (i.val:Nat)) wr gn 0 m dk os):=zag hbel (zmh _ wr gn 0 m dk os) hgn hbel.size
    have hjR:=HN.out
    refine (cmpNums R gr cr w.heap.size (w.heap.size+1) x.val y.val u v z _ (by have:=x.isLt;omega) (by have:=y.isLt;omega) hu hv hz (by omega) ?_ (zae HK3.out hb) (fun t ht=>zae (HRR.out t ht) hb)).mono ?_
    ·rw [← hjR]
     exact (hb.cell (p:=⟨w.heap.size,0,none⟩) (World.block_lt_of_cell? W0 _ HK2.out)).trans HK2.out
    ·rintro e w' ⟨he,hb⟩
     exact ⟨he,hb.grows⟩
   have hsort:=Any.slices_SortFunc Tryz.sortN (fun i:Fin j=>Value.int .i64 (i.val:Nat)) (fun _=>rfl) (fun x y:Fin j=>VR.cf (prow R u v z x) (prow R u v z y)) (swoN R u v z j) 84 #[.pointer (some ⟨w.heap.size+1,0,none⟩),.pointer (some ⟨w.heap.size,0,none⟩)] gn 0 cn (Array.ofFn fun i:Fin j=>i) wr eg hcmp hH hgn2 (by rw [hsz];omega)
   rw [hsz] at hsort
   change Calls Tryz.prog 83 _ _ _ at hsort
   have HS:=Lib.hid hsort
   have HX:=Lib.hid (And.intro hH hbel)
   clear hsort hH hown hbel HA hcmp eg
   go_wp2_with (first
    |(go_at_call 83;(with_reducible refine HS.out.mono ?_);rintro e2 w2 ⟨rfl,d',nn,os,hperm,hsorted,hw2⟩;have HW2:=Lib.hid hw2;clear hw2))
   have hfin:zyi w R u v z (.returned (.slice (some ⟨gn,0,none⟩) j cn)) w2:=by
    obtain ⟨hH,hbel⟩:=HX.out
    have hq:=zcv (d:=Array.ofFn fun i:Fin j=>i) (d':=d') (by rw [hsz];exact hperm)
    have hlen:(d'.toList.map Fin.val).length=j:=by rw [List.length_map,Array.length_toList,hq.1,hsz]
    have hds:d'.size=j:=hq.1.trans hsz
    have hH2:Go.Sort.Holds (fun i:Fin j=>Value.int .i64 (i.val:Nat)) w2 gn 0 d':=by rw [HW2.out];exact holds_sortWorld _ wr gn 0 nn _ d' os hgn2 hH hq.1
    have hb2:Below W0.heap.size W0 w2:=by rw [HW2.out];exact zag hbel (zmh _ wr gn 0 nn d' os) hgn hbel.size
    refine ⟨d'.toList.map Fin.val,gn,cn,by rw [hlen],?_,?_,fun t ht=>?_,Nat.le_trans s0 hgn,HB0.out.trans (hb2.mono s0),by rw [hlen];exact hcap⟩
    ·rw [← HN.out,← zxc j]
     exact hq.2.map _
    ·rw [List.pairwise_map,List.pairwise_iff_getElem]
     intro a b ha hb hab
     have ha':a < d'.size:=by simpa using ha
     have hb':b < d'.size:=by simpa using hb
     have q:=hsorted a b (Nat.zero_le _) hab (by omega)
     rw [getElem!_pos d' a ha',getElem!_pos d' b hb'] at q
     have q2:¬ VR.cf (prow R u v z d'[b]) (prow R u v z d'[a]) < 0:=of_decide_eq_false q
     have e:VR.cf (prow R u v z d'[b]) (prow R u v z d'[a])=-VR.cf (prow R u v z d'[a]) (prow R u v z d'[b]):=zde _ _ _ _ _ _
     rw [Array.getElem_toList,Array.getElem_toList]
     omega
    ·have ht':t < d'.size:=by rw [hlen] at ht;omega
     have:=(hH2 t ht').1
     rw [Nat.zero_add,getElem!_pos d' t ht'] at this
     rw [List.getElem_map,Array.getElem_toList]
     exact this
   have HF:=Lib.hid hfin
   clear hfin hperm hsorted HX HS
   go_wp2_with fail
   go_ret
   exact HF.out
end Go.Proofs.YtanbgdhmfjgihaaGreatDoor

/- WO -/
namespace Go.Proofs.YtanbgdhmfjgihaaGreatDoor
open Go.RowKit
set_option maxHeartbeats 3200000 in
set_option maxRecDepth 20000 in
theorem zo5 (sp k n cl:Nat) (u v z:Int) (pl:Option Addr) (nm:ByteArray) (w:World) (hk:k < 6)
 (hn:∀ W,Calls Tryz.prog 53 #[.string nm] W fun e w'=>e=.returned (.tuple #[.int .i64 k,.bool true])∧Low W.heap.size W w')
 (hv:∀ W,Calls Tryz.prog 43 #[.int .i64 k] W fun e w'=>e=.returned (.agg #[.int .i64 u,.int .i64 v,.int .i64 z])∧Low W.heap.size W w')
 (kl:w.cell? ⟨sp,2+k,none⟩=some (.slice pl n cl)):
 Calls Tryz.prog 20 #[.pointer (some ⟨sp,0,none⟩),.string nm] w fun e w'=>∃ g,e=.returned (.tuple #[.pointer (some ⟨g,0,none⟩),.int .i64 0])∧w.heap.size≤g∧Low w.heap.size w w'∧w'.heap[g]?=some (.cells #[.pointer (some ⟨sp,0,none⟩),.slice pl n cl,.int .i64 u,.int .i64 v,.int .i64 z,.int .i64 0,.int .i64 0,.int .i64 0,.int .i64 0,.int .i64 0,.int .i64 0,.int .i64 0] 93):=by
 have HL:Hid (∀ W,Low w.heap.size w W→W.cell? ⟨sp,2+k,none⟩=some (.slice pl n cl)):=Lib.hid fun W h=>(h.cell (p:=⟨sp,2+k,none⟩) (World.block_lt_of_cell? w _ kl)).trans kl
 have HV:=hv
 have hki:(k:Int) < 6:=by omega
 clear kl hv
 go_enter Tryz.func20,Tryz.ntmps20
 go_upto_region 4 with (go_at_call 53;(with_reducible refine (hn _).mono ?_);rintro e0 w3 ⟨rfl,b0⟩)
 refine wp_region_held_drew (S:=fun W=>Low w.heap.size w W) (by kernel_rfl) b0.drew (fun hHeld=>?_)
 refine tg (i:=0) (.pointer (some ⟨sp,0,none⟩)) rfl hHeld ?_
 refine tg (i:=1) (.pointer (some ⟨sp,0,none⟩)) rfl hHeld ?_
 refine tg (i:=2) (.int .i64 k) rfl hHeld ?_
 refine tg (i:=3) (.pointer (some ⟨sp,0,none⟩)) rfl hHeld ?_
 refine tg (i:=4) (.pointer (some ⟨sp,2,none⟩)) rfl hHeld ?_
 refine tg (i:=5) (.pointer (some ⟨sp,2+k,none⟩)) rfl hHeld ?_
 refine tk (i:=6) (v:=.slice pl n cl) rfl (Or.inl ⟨by rfl,fun W h=>by have c0:=HL.out W h;go_simp⟩) hHeld ?_
 refine tg (i:=7) (.int .i64 k) rfl hHeld ?_
 refine tr 8 rfl (fun K hK=>?_)
 rw [if_pos (by rfl)]
 go_simp
 refine (HV _).mono ?_
 rintro e0 w3 ⟨rfl,hb3⟩
 have hH2:=zad hHeld hb3 hHeld.size
 clear hb3
 refine hK.out _ _ hH2 (fun hH2=>?_)
 clear hK K
 try simp only [putS]
 refine tg (i:=9) (.agg #[.pointer (some ⟨sp,0,none⟩),.slice pl n cl,.int .i64 u,.int .i64 v,.int .i64 z,.int .i64 0,.int .i64 0,.int .i64 0,.int .i64 0,.int .i64 0,.int .i64 0,.int .i64 0]) rfl hH2 ?_
 refine tr 10 rfl (fun K hK=>?_)
 (try rw [if_pos (by rfl)])
 go_simp
 have hH3:=hH2.alloc (o:=.cells #[.pointer (some ⟨sp,0,none⟩),.slice pl n cl,.int .i64 u,.int .i64 v,.int .i64 z,.int .i64 0,.int .i64 0,.int .i64 0,.int .i64 0,.int .i64 0,.int .i64 0,.int .i64 0] 93) hH2.size
 have hcur:(w3.alloc (.cells #[.pointer (some ⟨sp,0,none⟩),.slice pl n cl,.int .i64 u,.int .i64 v,.int .i64 z,.int .i64 0,.int .i64 0,.int .i64 0,.int .i64 0,.int .i64 0,.int .i64 0,.int .i64 0] 93)).heap[w3.heap.size]?=some (.cells #[.pointer (some ⟨sp,0,none⟩),.slice pl n cl,.int .i64 u,.int .i64 v,.int .i64 z,.int .i64 0,.int .i64 0,.int .i64 0,.int .i64 0,.int .i64 0,.int .i64 0,.int .i64 0] 93):=zah _ _ rfl
 have hge:=hH2.size
 generalize w3.alloc (.cells #[.pointer (some ⟨sp,0,none⟩),.slice pl n cl,.int .i64 u,.int .i64 v,.int .i64 z,.int .i64 0,.int .i64 0,.int .i64 0,.int .i64 0,.int .i64 0,.int .i64 0,.int .i64 0] 93)=w4 at*
 generalize w3.heap.size=gg at*
 refine hK.out _ _ hH3 (fun _=>?_)
 clear hK K
 refine tg (i:=11) (.pointer (some ⟨gg,0,none⟩)) rfl hH3 ?_
 refine tg (i:=12) (.int .i64 0) rfl hH3 ?_
 refine wpAnyH_done (by kernel_rfl) ?_ _
 go_wp2_with fail
 exact bodyPost_ret (results_tmp2 Tryz.results20 _ _ _) rfl ⟨gg,rfl,hge,hH3,hcur⟩
def zri (sp:Nat) (pl:Option Addr) (n cl k:Nat):CS:=⟨sp,pl,n,cl,(lev k).1,(lev k).2.1,(lev k).2.2,0,0,0,0,0,0,0⟩
theorem cursorC {W W2:World} {sp:Nat} {s:SM} {k:Nat} (h:zeu W sp s) (b:Below W.heap.size W W2) (ok:SMok s) (so:zdd s) (hk:k < 6):
 Calls Tryz.prog 20 #[.pointer (some ⟨sp,0,none⟩),.string (onm k)] W2 fun e w'=>∃ g c,e=.returned (.tuple #[.pointer (some ⟨g,0,none⟩),.int .i64 0])∧Low W2.heap.size W2 w'∧W2.heap.size≤g∧(∃ pl n cl,c=zri sp pl n cl k)∧zbj W s w' g c k:=by
 obtain ⟨pv,pr,cv,cr,pp,cc,h0⟩:=h
 have h0':=(b.block _ (zac h0.h)).trans h0.h
 have kl:W2.cell? ⟨sp,2+k,none⟩=some (.slice (pp k) (s.ls k).length (cc k)):=by
  match k,hk with
  | 0,_=>exact zab h0' 2 rfl
  | 1,_=>exact zab h0' 3 rfl
  | 2,_=>exact zab h0' 4 rfl
  | 3,_=>exact zab h0' 5 rfl
  | 4,_=>exact zab h0' 6 rfl
  | 5,_=>exact zab h0' 7 rfl
 refine (zo5 sp k (s.ls k).length (cc k) _ _ _ (pp k) (onm k) W2 hk (fun w=>zvb k hk w) (fun w=>znc k hk w) kl).mono ?_
 rintro e w' ⟨g,rfl,hg,hb,hcur⟩
 refine ⟨g,zri sp (pp k) (s.ls k).length (cc k) k,rfl,hb,hg,⟨_,_,_,rfl⟩,⟨⟨pv,pr,cv,cr,pp,cc,h0⟩,rfl,h0.l k hk,?_,?_,?_,Nat.le_trans b.size hg,zak b hb.is b.size,hcur⟩,?_,ok,so,hk⟩
 ·show (lev k).1 < 3
  match k,hk with
  | 0,_ | 1,_ | 2,_ | 3,_ | 4,_ | 5,_=>decide
 ·show (lev k).2.1 < 3
  match k,hk with
  | 0,_ | 1,_ | 2,_ | 3,_ | 4,_ | 5,_=>decide
 ·show (lev k).2.2 < 3
  match k,hk with
  | 0,_ | 1,_ | 2,_ | 3,_ | 4,_ | 5,_=>decide
 ·exact ⟨Nat.zero_le _,rfl,rfl,rfl,rfl,fun q=>absurd q (by show ¬ 1≤0;omega),fun q=>absurd q (by show ¬ 2≤0;omega),fun q=>absurd q (by show ¬ 3≤0;omega)⟩
section
variable {W0 W W':World} {s:SM} {g k:Nat} {c:CS}
theorem zce.refl (c:CS):zce c c:=⟨rfl,rfl,rfl,rfl,rfl,rfl⟩
theorem CS.next_alike (c:CS) (s:SM) (k:Nat):zce c (c.next s k):=by
 unfold CS.next
 split
 ·exact c.go_alike _
 ·exact zce.refl c
theorem CS.seek_alike (c:CS) (s:SM) (k:Nat) (u:Val):zce c (c.seek s k u):=by
 unfold CS.seek
 split
 ·exact c.go_alike _
 ·exact zce.refl c
theorem CS.opn_alike (c:CS) (s:SM) (k:Nat):zce c (c.opn s k):=by
 unfold CS.opn
 split
 ·exact c.down_alike _ _
 ·exact zce.refl c
theorem zbj.next (h:zbj W0 s W g c k) (o:Only g W W') (B:Cur W' g (c.next s k)):zbj W0 s W' g (c.next s k) k:=⟨h.at_.only (c.next_alike s k) o B,h.fit.next,h.ok,h.so,h.hk⟩
theorem zbj.seek (h:zbj W0 s W g c k) (u:Val) (o:Only g W W') (B:Cur W' g (c.seek s k u)):zbj W0 s W' g (c.seek s k u) k:=⟨h.at_.only (c.seek_alike s k u) o B,h.fit.seek u,h.ok,h.so,h.hk⟩
theorem zbj.opn (h:zbj W0 s W g c k) (o:Only g W W') (B:Cur W' g (c.opn s k)):zbj W0 s W' g (c.opn s k) k:=⟨h.at_.only (c.opn_alike s k) o B,h.fit.opn,h.ok,h.so,h.hk⟩
theorem zbj.upp (h:zbj W0 s W g c k) (o:Only g W W') (B:Cur W' g c.up):zbj W0 s W' g c.up k:=⟨h.at_.only c.up_alike o B,h.fit.up,h.ok,h.so,h.hk⟩
theorem zbj.other {e:Nat} (h:zbj W0 s W g c k) (o:Only e W W') (he:W0.heap.size≤e) (hne:g≠e):zbj W0 s W' g c k:=
 ⟨⟨h.at_.S,h.at_.n,h.at_.l,h.at_.h0,h.at_.h1,h.at_.h2,h.at_.hg,zag h.at_.b o he h.at_.b.size,h.at_.B.only o hne⟩,h.fit,h.ok,h.so,h.hk⟩
end
end Go.Proofs.YtanbgdhmfjgihaaGreatDoor

/- SE -/
namespace Go.Proofs.YtanbgdhmfjgihaaGreatDoor
open Go.RowKit
theorem zp8 (p:Option Addr) (cap:Nat) (w:World):Calls Tryz.prog 75 #[.slice p 0 cap,.func (.func 76) #[] #[]] w fun e w'=>e=.returned (.slice p 0 cap)∧w'=w:=by
 go_enter Tryz.func75,Tryz.ntmps75
 go_wp2_with fail
 go_ret
 exact ⟨rfl,rfl⟩
theorem zo6 (p:Option Addr) (cap:Nat) (w:World):Calls Tryz.prog 82 #[.slice p 0 cap] w fun e w'=>e=.returned (.slice p 0 cap)∧w'=w:=by
 go_enter Tryz.func82,Tryz.ntmps82
 go_wp2_with fail
 go_ret
 exact ⟨rfl,rfl⟩
theorem zve (p:Option Addr) (cap:Nat) (fv:Value) (w:World):Calls Tryz.prog 73 #[.slice p 0 cap,fv] w fun e w'=>e=.returned (.tuple #[])∧w'=w:=AnyF.slices_SortFunc_none Tryz.sortV p cap fv w
theorem zvf (p:Option Addr) (cap:Nat) (fv:Value) (w:World):Calls Tryz.prog 79 #[.slice p 0 cap,fv] w fun e w'=>e=.returned (.tuple #[])∧w'=w:=AnyF.slices_SortFunc_none Tryz.sortR p cap fv w
theorem zvg (p:Option Addr) (cap:Nat) (fv:Value) (w:World):Calls Tryz.prog 83 #[.slice p 0 cap,fv] w fun e w'=>e=.returned (.tuple #[])∧w'=w:=by
 have L:=Tryz.sortN
 exact AnyF.slices_SortFunc_none (ρ:=Tryz.sortN_ren) { L with } p cap fv w
theorem zlh (p:Option Addr) (cap:Nat) (w:World):Calls Tryz.prog 40 #[.slice p 0 cap] w fun e w'=>e=.returned (.slice none 0 0)∧Below w.heap.size w w':=by
 have h1:=fun W=>zve none 0 (.func (.func 74) #[] #[]) W
 have h2:=fun W=>zp8 none 0 W
 go_enter Tryz.func40,Tryz.ntmps40
 go_wp2_with fail
 go_loopw [3,11] (fun s i wr=>s=.slice none 0 0∧i=.int .i64 0∧Below w.heap.size w wr) (fun _ _ _=>0)
 case atStart=>exact ⟨rfl,rfl,Below.refl _ _⟩
 case round=>
  obtain ⟨rfl,rfl,hb⟩:=hrel
  go_wp2_with (first
   |(go_at_call 73;(with_reducible refine (h1 _).mono ?_);rintro e w3 ⟨rfl,rfl⟩)
   |(go_at_call 75;(with_reducible refine (h2 _).mono ?_);rintro e w3 ⟨rfl,rfl⟩))
  go_loopw [6,30] (fun s i wq=>s=.slice none 0 0∧i=.int .i64 0∧Below w.heap.size w wq) (fun _ _ _=>0)
  case atStart=>exact ⟨rfl,rfl,hb⟩
  case round=>
   obtain ⟨rfl,rfl,hb⟩:=hrel
   go_wp2_with fail
   go_ret
   exact ⟨rfl,hb⟩
theorem zli (pv:Option Addr) (n cv:Nat) (p:Option Addr) (cap:Nat) (w:World):Calls Tryz.prog 41 #[.slice pv n cv,.slice p 0 cap] w fun e w'=>e=.returned (.slice none 0 0)∧Below w.heap.size w w':=by
 obtain ⟨W0,hW0⟩:∃ W0,W0=w.alloc (.cells #[.slice pv n cv] 37):=⟨_,rfl⟩
 have b0:Below w.heap.size w W0:=by rw [hW0];exact za0 _ _
 have h1:=fun W=>zvf none 0 (.func (.func 80) #[] #[]) W
 have h2:=fun W=>zo6 none 0 W
 have HW:=Lib.hid hW0
 clear hW0
 go_enter Tryz.func41,Tryz.ntmps41
 go_wp2_with fail
 rw [← HW.out]
 go_loopw [6,12] (fun s i wr=>s=.slice none 0 0∧i=.int .i64 0∧wr=W0) (fun _ _ _=>0)
 case atStart=>exact ⟨rfl,rfl,rfl⟩
 case round=>
  obtain ⟨rfl,rfl,rfl⟩:=hrel
  go_wp2_with (first
   |(go_at_call 79;(with_reducible refine (h1 _).mono ?_);rintro e w3 ⟨rfl,rfl⟩)
   |(go_at_call 82;(with_reducible refine (h2 _).mono ?_);rintro e w3 ⟨rfl,rfl⟩))
  go_ret
  exact ⟨rfl,b0⟩
theorem zlj (p:Option Addr) (cap:Nat) (u v z:Int) (w:World):Calls Tryz.prog 42 #[.slice p 0 cap,.agg #[.int .i64 u,.int .i64 v,.int .i64 z]] w fun e w'=>e=.returned (.slice none 0 0)∧Below w.heap.size w w':=by
 obtain ⟨W0,hW0⟩:∃ W0,W0=(w.alloc (.cells #[.slice p 0 cap] 71)).alloc (.cells #[.int .i64 u,.int .i64 v,.int .i64 z] 78):=⟨_,rfl⟩
 have b0:Below w.heap.size w W0:=by rw [hW0];exact zfl _ _ _
 have k2:W0.cell? ⟨w.heap.size,0,none⟩=some (.slice p 0 cap):=by rw [hW0];exact zab (zaw _ (zah _ _ rfl)) 0 rfl
 have h1:=fun fv W=>zvg none 0 fv W
 have HW:=Lib.hid hW0
 clear hW0
 go_enter Tryz.func42,Tryz.ntmps42
 go_upto_region 1 with fail
 rw [← HW.out]
 go_wp2_with fail
 go_loopw [5,9] (fun s i wr=>s=.slice none 0 0∧i=.int .i64 0∧wr=W0) (fun _ _ _=>0)
 case atStart=>exact ⟨rfl,rfl,rfl⟩
 case round=>
  obtain ⟨rfl,rfl,rfl⟩:=hrel
  go_wp2_with (first
   |(go_at_call 83;(with_reducible refine (h1 _ _).mono ?_);rintro e w3 ⟨rfl,rfl⟩))
  go_ret
  exact ⟨rfl,b0⟩
def kd:Val→Int | .mk k _ _ _ _ _=>k
def zbl (t:Tri3):Bool:=zbc (kd t.s) && zbd (kd t.p) && objP (kd t.o) && mayP t.s 0 && mayP t.p 0 && mayP t.o 0
theorem zd2 {b:Bool} {n:Int} {t x:ByteArray} {l:List Val} (h:zbm b n t x l.length=true):l=[]:=by
 unfold zbm at h
 simp only [Bool.and_eq_true,decide_eq_true_eq] at h
 cases l with
 | nil=>rfl
 | cons a l=>simp at h
theorem znd {u:Val} (hk:objP (kd u)=true) (hm:mayP u 0=true):zcw u:=by
 obtain ⟨k,b,n,t,x,l⟩:=u
 have hl:l=[]:=by
  unfold mayP zbg at hm
  simp only [kd,objP,Bool.or_eq_true,beq_iff_eq] at hk
  rcases hk with (((((h | h) | h) | h) | h) | h) | h <;> subst h <;> simp only [] at hm <;> simp at hm
  ·exact zd2 hm.2
  ·exact zd2 hm.2
  ·exact zd2 hm.2.2
  ·exact zd2 hm.2
  ·exact zd2 hm
  ·exact zd2 hm
  ·exact zd2 hm.2
 exact ⟨k,b,n,t,x,by rw [hl]⟩
theorem zcx {t:Tri3} (h:zbl t=true):(zcw t.s∧mayP t.s 0=true)∧(zcw t.p∧mayP t.p 0=true)∧(zcw t.o∧mayP t.o 0=true):=by
 unfold zbl at h
 simp only [Bool.and_eq_true] at h
 obtain ⟨⟨⟨⟨⟨h1,h2⟩,h3⟩,h4⟩,h5⟩,h6⟩:=h
 refine ⟨⟨znd ?_ h4,h4⟩,⟨znd ?_ h5,h5⟩,⟨znd h3 h6,h6⟩⟩
 ·unfold zbc at h1
  unfold objP
  simp only [Bool.or_eq_true] at h1 ⊢
  rcases h1 with h | h <;> simp [h]
 ·unfold zbd at h2
  unfold objP
  simp [h2]
theorem zd3 {l:List Tri3} {u:Val}:u∈flat l↔∃ t∈l,u=t.s∨u=t.p∨u=t.o:=by
 unfold flat
 simp [List.mem_flatMap,Tri3.l]
theorem zo7 {l:List Tri3} (h:∀ t∈l,zbl t=true):∀ u∈flat l,zcw u∧mayP u 0=true:=fun u hu=>by
 obtain ⟨t,ht,e⟩:=zd3.1 hu
 obtain ⟨h1,h2,h3⟩:=zcx (h t ht)
 rcases e with rfl | rfl | rfl
 ·exact h1
 ·exact h2
 ·exact h3
def Hi (base:Nat) (p:Option Addr):Prop:=∀ g o,p=some ⟨g,o,none⟩→base≤g∧o=0
theorem zp9 (base:Nat):Hi base none:=fun _ _ h=>by cases h
theorem zqa {base g:Nat} (h:base≤g):Hi base (some ⟨g,0,none⟩):=fun _ _ e=>by cases e;exact ⟨h,rfl⟩
theorem Hi.mono {b b':Nat} {p:Option Addr} (h:Hi b p) (hb:b'≤b):Hi b' p:=fun g o e=>⟨Nat.le_trans hb (h g o e).1,(h g o e).2⟩
def SVG (w:World) (l:List Tri3) (e:Ending) (w':World):Prop:=∃ vs p cap,e=.returned (.slice p vs.length cap)∧Rise vs∧(∀ u,u∈vs↔u∈flat l)∧zmd w' p vs∧Hi w.heap.size p∧vs.length≤3*l.length∧Below w.heap.size w w'
theorem zqb (l:List Tri3) (L:Value) (w:World) (hG:Gd w) (hT:Tab w) (hl:Tris w L l) (hn:l.length≤65536) (hg:∀ t∈l,zbl t=true):Calls Tryz.prog 40 #[L] w (SVG w l):=by
 obtain ⟨p,cap,rfl,h1⟩:=hl
 cases l with
 | nil=>
   refine (zlh p cap w).mono ?_
   rintro e w' ⟨rfl,hb⟩
   exact ⟨[],none,0,rfl,fun i j _ h=>absurd h (by simp),fun u=>by simp [flat],fun h=>absurd rfl h,zp9 _,Nat.zero_le _,hb⟩
 | cons t l=>
   obtain ⟨g,off,rfl,hh⟩:=h1 (by simp)
   refine (zle (t::l) g off cap w hG hT hh (by omega) (by simp) (zo7 hg)).mono ?_
   rintro e w' ⟨vs,g',cap',rfl,h1,h2,h3,h4,_,h5,h6⟩
   exact ⟨vs,_,cap',rfl,h1,h2,fun _=>⟨g',0,rfl,h3⟩,zqa h4,h5,h6⟩
def R3.lt (a b:R3):Prop:=VR.cf a.vr b.vr < 0
def SRG (w:World) (vs:List Val) (l:List Tri3) (e:Ending) (w':World):Prop:=∃ (R:List R3) (p:Option Addr) (cap:Nat),e=.returned (.slice p R.length cap)∧R.Pairwise R3.lt∧(∀ r,r∈R↔∃ t∈l,rowOf vs t=r.vr)∧zmc w' p R∧Hi w.heap.size p∧R.length≤l.length∧Below w.heap.size w w'
def VR.r3 (r:VR):R3:=⟨r.a.toNat,r.b.toNat,r.c.toNat⟩
theorem zyj (vs:List Val) (t:Tri3):(rowOf vs t).r3.vr=rowOf vs t:=by
 unfold VR.r3 R3.vr rowOf
 simp
theorem vr_r3 (r:R3):r.vr.r3=r:=by
 unfold VR.r3 R3.vr
 simp
theorem zqc (l:List Tri3) (L:Value) (vs:List Val) (pv:Option Addr) (cv:Nat) (w:World) (hG:Gd w) (hT:Tab w) (hl:Tris w L l) (hn:l.length≤65536) (hvs:zmd w pv vs) (hr:Rise vs) (hv:∀ u,u∈vs↔u∈flat l) (hvn:vs.length≤3*l.length)
 (h0:∀ g o,pv=some ⟨g,o,none⟩→o=0):Calls Tryz.prog 41 #[.slice pv vs.length cv,L] w (SRG w vs l):=by
 obtain ⟨p,cap,rfl,h1⟩:=hl
 cases l with
 | nil=>
   refine (zli pv vs.length cv p cap w).mono ?_
   rintro e w' ⟨rfl,hb⟩
   exact ⟨[],none,0,rfl,List.Pairwise.nil,fun r=>by simp,fun h=>absurd rfl h,zp9 _,Nat.zero_le _,hb⟩
 | cons t l=>
   obtain ⟨g,off,rfl,hh⟩:=h1 (by simp)
   have hne:vs≠[]:=fun e=>by
    have:=(hv t.s).2 (by rw [zc1];exact List.mem_cons_self ..)
    rw [e] at this
    exact absurd this (by simp)
   obtain ⟨gv,ov,rfl,hvh⟩:=hvs hne
   obtain rfl:=h0 gv ov rfl
   refine (zlf (t::l) vs g off cap gv cv w hG hT hh (by omega) (by simp) hvh hr (fun u hu=>(hv u).2 hu) (by omega)).mono ?_
   rintro e w' ⟨rs,g',cap',rfl,h1,h2,h3,h4,_,h5,h6⟩
   have hback:∀ r∈rs,r.r3.vr=r:=fun r hr=>by
    obtain ⟨t,_,rfl⟩:=(h2 r).1 hr
    exact zyj vs t
   refine ⟨rs.map VR.r3,_,cap',by rw [List.length_map],?_,fun r=>?_,fun _=>⟨g',0,rfl,fun j h=>?_⟩,zqa h4,by rw [List.length_map];exact h5,h6⟩
   ·rw [List.pairwise_map]
    refine h1.imp_of_mem fun {a b} ha hb h=>?_
    unfold R3.lt
    rw [hback a ha,hback b hb]
    exact h
   ·rw [List.mem_map]
    constructor
    ·rintro ⟨a,ha,rfl⟩
     rw [hback a ha]
     exact (h2 a).1 ha
    ·rintro ⟨t,ht,e⟩
     exact ⟨r.vr,(h2 _).2 ⟨t,ht,e⟩,vr_r3 r⟩
   ·rw [List.length_map] at h
    have:=h3 j h
    have hb:=hback rs[j] (List.getElem_mem h)
    rw [← hb] at this
    rw [List.getElem_map,Nat.zero_add]
    exact this
structure Nums (R:List R3) (u v z:Nat) (ns:List Nat):Prop where
 perm:ns.Perm (List.range R.length)
 sort:ns.Pairwise (fun a b=>VR.cf (prow R u v z a) (prow R u v z b)≤0)
def SNG (w:World) (R:List R3) (u v z:Nat) (e:Ending) (w':World):Prop:=∃ (ns:List Nat) (p:Option Addr) (cap:Nat),e=.returned (.slice p ns.length cap)∧Nums R u v z ns∧zfb w' p ns∧Hi w.heap.size p∧Below w.heap.size w w'∧ns.length≤cap
theorem zqd (R:List R3) (pr:Option Addr) (cr u v z:Nat) (w:World) (hu:u < 3) (hv:v < 3) (hz:z < 3) (hn:R.length < 1073741824) (hR:zmc w pr R) (h0:∀ g o,pr=some ⟨g,o,none⟩→o=0):
 Calls Tryz.prog 42 #[.slice pr R.length cr,.agg #[.int .i64 u,.int .i64 v,.int .i64 z]] w (SNG w R u v z):=by
 by_cases hne:R=[]
 ·subst hne
  refine (zlj pr cr u v z w).mono ?_
  rintro e w' ⟨rfl,hb⟩
  exact ⟨[],none,0,rfl,⟨by simp,List.Pairwise.nil⟩,fun h=>absurd rfl h,zp9 _,hb,Nat.le_refl _⟩
 ·obtain ⟨g,o,rfl,hr⟩:=hR hne
  obtain rfl:=h0 g o rfl
  refine (zlg R g cr u v z w (List.length_pos_iff.2 hne) hu hv hz hn (fun j h=>by have:=hr j h;rwa [Nat.zero_add] at this)).mono ?_
  rintro e w' ⟨ns,g',cap',rfl,h1,h2,h3,h4,h5,h6⟩
  exact ⟨ns,_,cap',rfl,⟨h1,h2⟩,fun _=>⟨g',0,rfl,fun j h=>by rw [Nat.zero_add];exact h3 j h⟩,zqa h4,h5,h6⟩
end Go.Proofs.YtanbgdhmfjgihaaGreatDoor
