/- Texts of one kind, one behind the other: each says ahead of itself what it shows. -/
import Derived.Shelf.SlSortCmp.WholeK
import Derived.Test.YtanbgdhmfjgihaaGreatDoorTao
import Derived.Lib.SlicesCompact
import Derived.Lib.SliceRun
import Derived.Test.YtanbgdhmfjgihaaGreatDoorTar
/- TS -/
namespace Go.Proofs
open Go.Shelf
def Tryz.sortV_ren:Go.Shelf.Ren:=⟨fun | 6=>73 | 15=>101 | 14=>100 | 28=>134 | 29=>135 | 20=>126 | 21=>127 | 22=>128 | 23=>129 | 24=>130 | 25=>131 | 26=>132 | 27=>133 | 46=>160 | 47=>161 | 48=>162 | 49=>163 | 50=>164 | 57=>180 | n=>n,fun | 22=>37 | 24=>39 | 25=>112 | 3=>3 | 39=>139 | 0=>0 | 53=>174 | 55=>176 | 4=>4 | 46=>168 | 45=>167 | 50=>87 | 5=>5 | 9=>9 | 66=>193 | 70=>197 | 76=>209 | 77=>210 | n=>n,fun | n=>n⟩
theorem Tryz.sortV:Go.Proofs.SlLaysF0.n6 Tryz.prog Tryz.sortV_ren:={
 mixed:=by kernel_rfl
 f6:=⟨Tryz.f73.name,by decide,Tryz.func73.trans (congrArg some (by kernel_rfl))⟩
 f14:=⟨Tryz.f100.name,by decide,Tryz.func100.trans (congrArg some (by kernel_rfl))⟩
 f15:=Tryz.func101.trans (congrArg some (by kernel_rfl))
 f20:=⟨Tryz.f126.name,by decide,Tryz.func126.trans (congrArg some (by kernel_rfl))⟩
 f21:=⟨Tryz.f127.name,by decide,Tryz.func127.trans (congrArg some (by kernel_rfl))⟩
 f22:=⟨Tryz.f128.name,by decide,Tryz.func128.trans (congrArg some (by kernel_rfl))⟩
 f23:=⟨Tryz.f129.name,by decide,Tryz.func129.trans (congrArg some (by kernel_rfl))⟩
 f24:=⟨Tryz.f130.name,by decide,Tryz.func130.trans (congrArg some (by kernel_rfl))⟩
 f25:=⟨Tryz.f131.name,by decide,Tryz.func131.trans (congrArg some (by kernel_rfl))⟩
 f26:=⟨Tryz.f132.name,by decide,Tryz.func132.trans (congrArg some (by kernel_rfl))⟩
 f27:=⟨Tryz.f133.name,by decide,Tryz.func133.trans (congrArg some (by kernel_rfl))⟩
 f28:=Tryz.func134.trans (congrArg some (by kernel_rfl))
 f29:=Tryz.func135.trans (congrArg some (by kernel_rfl))
 f46:=⟨Tryz.f160.name,by decide,Tryz.func160.trans (congrArg some (by kernel_rfl))⟩
 f47:=Tryz.func161.trans (congrArg some (by kernel_rfl))
 f48:=Tryz.func162.trans (congrArg some (by kernel_rfl))
 f49:=⟨Tryz.f163.name,by decide,Tryz.func163.trans (congrArg some (by kernel_rfl))⟩
 f50:=⟨Tryz.f164.name,by decide,Tryz.func164.trans (congrArg some (by kernel_rfl))⟩
 f57:=⟨Tryz.f180.name,by decide,Tryz.func180.trans (congrArg some (by kernel_rfl))⟩
 t0:=Tryz.underlying0
 a0:=Tryz.isAgg0
 z0:=Tryz.sizeOf0
 v0:=Tryz.zeroValue0
 t3:=Tryz.underlying3
 a3:=Tryz.isAgg3
 z3:=Tryz.sizeOf3
 v3:=Tryz.zeroValue3
 t4:=Tryz.underlying4
 a4:=Tryz.isAgg4
 z4:=Tryz.sizeOf4
 v4:=Tryz.zeroValue4
 t5:=Tryz.underlying5
 a5:=Tryz.isAgg5
 z5:=Tryz.sizeOf5
 v5:=Tryz.zeroValue5
 t9:=Tryz.underlying9
 a9:=Tryz.isAgg9
 z9:=Tryz.sizeOf9
 v9:=Tryz.zeroValue9
 t22:=Tryz.underlying37
 a22:=Tryz.isAgg37
 z22:=Tryz.sizeOf37
 v22:=Tryz.zeroValue37
 t25:=Tryz.underlying112
 a25:=Tryz.isAgg112
 z25:=Tryz.sizeOf112
 v25:=Tryz.zeroValue112
 t39:=Tryz.underlying139
 a39:=Tryz.isAgg139
 z39:=Tryz.sizeOf139
 v39:=Tryz.zeroValue139
 t45:=Tryz.underlying167
 a45:=Tryz.isAgg167
 z45:=Tryz.sizeOf167
 v45:=Tryz.zeroValue167
 t46:=Tryz.underlying168
 a46:=Tryz.isAgg168
 z46:=Tryz.sizeOf168
 v46:=Tryz.zeroValue168
 t50:=Tryz.underlying87
 a50:=Tryz.isAgg87
 z50:=Tryz.sizeOf87
 v50:=Tryz.zeroValue87
 t53:=Tryz.underlying174
 a53:=Tryz.isAgg174
 z53:=Tryz.sizeOf174
 v53:=Tryz.zeroValue174
 t55:=Tryz.underlying176
 a55:=Tryz.isAgg176
 z55:=Tryz.sizeOf176
 v55:=Tryz.zeroValue176
 t66:=Tryz.underlying193
 a66:=Tryz.isAgg193
 z66:=Tryz.sizeOf193
 v66:=Tryz.zeroValue193
 t70:=Tryz.underlying197
 a70:=Tryz.isAgg197
 z70:=Tryz.sizeOf197
 v70:=Tryz.zeroValue197
 t76:=Tryz.underlying209
 a76:=Tryz.isAgg209
 z76:=Tryz.sizeOf209
 v76:=Tryz.zeroValue209
 t77:=Tryz.underlying210
 a77:=Tryz.isAgg210
 z77:=Tryz.sizeOf210
 v77:=Tryz.zeroValue210 }
def Tryz.sortR_ren:Go.Shelf.Ren:=⟨fun | 6=>79 | 15=>101 | 14=>104 | 28=>134 | 29=>135 | 20=>138 | 21=>139 | 22=>140 | 23=>141 | 24=>142 | 25=>143 | 26=>144 | 27=>145 | 46=>172 | 47=>161 | 48=>162 | 49=>173 | 50=>174 | 57=>185 | n=>n,fun | 22=>71 | 24=>81 | 25=>118 | 3=>3 | 39=>139 | 0=>0 | 53=>174 | 55=>176 | 4=>4 | 46=>168 | 45=>167 | 50=>87 | 5=>5 | 9=>9 | 66=>193 | 70=>197 | 76=>209 | 77=>210 | n=>n,fun | n=>n⟩
theorem Tryz.sortR:Go.Proofs.SlLaysF0.n6 Tryz.prog Tryz.sortR_ren:={
 mixed:=by kernel_rfl
 f6:=⟨Tryz.f79.name,by decide,Tryz.func79.trans (congrArg some (by kernel_rfl))⟩
 f14:=⟨Tryz.f104.name,by decide,Tryz.func104.trans (congrArg some (by kernel_rfl))⟩
 f15:=Tryz.func101.trans (congrArg some (by kernel_rfl))
 f20:=⟨Tryz.f138.name,by decide,Tryz.func138.trans (congrArg some (by kernel_rfl))⟩
 f21:=⟨Tryz.f139.name,by decide,Tryz.func139.trans (congrArg some (by kernel_rfl))⟩
 f22:=⟨Tryz.f140.name,by decide,Tryz.func140.trans (congrArg some (by kernel_rfl))⟩
 f23:=⟨Tryz.f141.name,by decide,Tryz.func141.trans (congrArg some (by kernel_rfl))⟩
 f24:=⟨Tryz.f142.name,by decide,Tryz.func142.trans (congrArg some (by kernel_rfl))⟩
 f25:=⟨Tryz.f143.name,by decide,Tryz.func143.trans (congrArg some (by kernel_rfl))⟩
 f26:=⟨Tryz.f144.name,by decide,Tryz.func144.trans (congrArg some (by kernel_rfl))⟩
 f27:=⟨Tryz.f145.name,by decide,Tryz.func145.trans (congrArg some (by kernel_rfl))⟩
 f28:=Tryz.func134.trans (congrArg some (by kernel_rfl))
 f29:=Tryz.func135.trans (congrArg some (by kernel_rfl))
 f46:=⟨Tryz.f172.name,by decide,Tryz.func172.trans (congrArg some (by kernel_rfl))⟩
 f47:=Tryz.func161.trans (congrArg some (by kernel_rfl))
 f48:=Tryz.func162.trans (congrArg some (by kernel_rfl))
 f49:=⟨Tryz.f173.name,by decide,Tryz.func173.trans (congrArg some (by kernel_rfl))⟩
 f50:=⟨Tryz.f174.name,by decide,Tryz.func174.trans (congrArg some (by kernel_rfl))⟩
 f57:=⟨Tryz.f185.name,by decide,Tryz.func185.trans (congrArg some (by kernel_rfl))⟩
 t0:=Tryz.underlying0
 a0:=Tryz.isAgg0
 z0:=Tryz.sizeOf0
 v0:=Tryz.zeroValue0
 t3:=Tryz.underlying3
 a3:=Tryz.isAgg3
 z3:=Tryz.sizeOf3
 v3:=Tryz.zeroValue3
 t4:=Tryz.underlying4
 a4:=Tryz.isAgg4
 z4:=Tryz.sizeOf4
 v4:=Tryz.zeroValue4
 t5:=Tryz.underlying5
 a5:=Tryz.isAgg5
 z5:=Tryz.sizeOf5
 v5:=Tryz.zeroValue5
 t9:=Tryz.underlying9
 a9:=Tryz.isAgg9
 z9:=Tryz.sizeOf9
 v9:=Tryz.zeroValue9
 t22:=Tryz.underlying71
 a22:=Tryz.isAgg71
 z22:=Tryz.sizeOf71
 v22:=Tryz.zeroValue71
 t25:=Tryz.underlying118
 a25:=Tryz.isAgg118
 z25:=Tryz.sizeOf118
 v25:=Tryz.zeroValue118
 t39:=Tryz.underlying139
 a39:=Tryz.isAgg139
 z39:=Tryz.sizeOf139
 v39:=Tryz.zeroValue139
 t45:=Tryz.underlying167
 a45:=Tryz.isAgg167
 z45:=Tryz.sizeOf167
 v45:=Tryz.zeroValue167
 t46:=Tryz.underlying168
 a46:=Tryz.isAgg168
 z46:=Tryz.sizeOf168
 v46:=Tryz.zeroValue168
 t50:=Tryz.underlying87
 a50:=Tryz.isAgg87
 z50:=Tryz.sizeOf87
 v50:=Tryz.zeroValue87
 t53:=Tryz.underlying174
 a53:=Tryz.isAgg174
 z53:=Tryz.sizeOf174
 v53:=Tryz.zeroValue174
 t55:=Tryz.underlying176
 a55:=Tryz.isAgg176
 z55:=Tryz.sizeOf176
 v55:=Tryz.zeroValue176
 t66:=Tryz.underlying193
 a66:=Tryz.isAgg193
 z66:=Tryz.sizeOf193
 v66:=Tryz.zeroValue193
 t70:=Tryz.underlying197
 a70:=Tryz.isAgg197
 z70:=Tryz.sizeOf197
 v70:=Tryz.zeroValue197
 t76:=Tryz.underlying209
 a76:=Tryz.isAgg209
 z76:=Tryz.sizeOf209
 v76:=Tryz.zeroValue209
 t77:=Tryz.underlying210
 a77:=Tryz.isAgg210
 z77:=Tryz.sizeOf210
 v77:=Tryz.zeroValue210 }
namespace YtanbgdhmfjgihaaGreatDoor
open Go.RowKit
theorem zky {α:Type} [Inhabited α] (enc:α→List Value) (k:Nat) (w:World) (blk off m:Nat) (dk:Array α) (os:Array Obj):Only blk w (sortWorldK enc k w blk off m dk os):=by
 refine ⟨rfl,rfl,rfl,?_,fun i hi e=>?_,Nat.le_add_right _ _⟩
 ·show w.heap.size≤((w.heap.modify blk _)++os).size
  rw [Array.size_append,Array.size_modify]
  exact Nat.le_add_right _ _
 ·show ((w.heap.modify blk _)++os)[i]?=_
  rw [Array.getElem?_append_left (by rw [Array.size_modify];exact hi),Array.getElem?_modify,if_neg (by omega)]
structure VE where
 v:V6
 h0:v.len=0
 hf:Fine v.n v.t v.x 0
def VE.val (e:VE):Val:=.mk e.v.k e.v.b e.v.n e.v.t e.v.x []
def VE.enc (e:VE):List Value:=[.int .i64 e.v.k,.bool e.v.b,.int .i64 e.v.n,.string e.v.t,.string e.v.x,.slice e.v.p e.v.len e.v.cap]
def VE.cf (a b:VE):Int:=zan 1 a.val b.val
instance:Inhabited VE:=⟨⟨⟨0,false,0,⟨#[]⟩,⟨#[]⟩,none,0,0⟩,rfl,by constructor <;> decide⟩⟩
theorem VE.one (e:VE):∀ v∈e.enc,v.oneCell'=true:=by
 intro v hv
 simp only [VE.enc,List.mem_cons,List.mem_nil_iff,or_false] at hv
 rcases hv with rfl | rfl | rfl | rfl | rfl | rfl <;> rfl
theorem swoV:Go.Sort.SWO (ltOf VE.cf) where
 irrefl x:=decide_eq_false (by
  have h:=zbb 1 x.val x.val
  show ¬ zan 1 x.val x.val < 0
  omega)
 trans x y z h1 h2:=decide_eq_true (by
  have g1:zan 1 x.val y.val < 0:=of_decide_eq_true h1
  have g2:zan 1 y.val z.val < 0:=of_decide_eq_true h2
  exact (zb6 1 x.val y.val z.val).lt g1 (Int.le_of_lt g2))
 ntrans x y z h1 h2:=decide_eq_false (by
  have g1:¬ zan 1 x.val y.val < 0:=of_decide_eq_false h1
  have g2:¬ zan 1 y.val z.val < 0:=of_decide_eq_false h2
  have h:=(zb6 1 z.val y.val x.val).le
  have e1:=zbb 1 x.val y.val
  have e2:=zbb 1 y.val z.val
  have e3:=zbb 1 x.val z.val
  show ¬ zan 1 x.val z.val < 0
  omega)
end YtanbgdhmfjgihaaGreatDoor
end Go.Proofs

/- TR -/
namespace Go.Proofs.YtanbgdhmfjgihaaGreatDoor
open Go.RowKit
theorem ze5 (a b:Int) (w:World):Calls Tryz.prog 85 #[.int .i64 a,.int .i64 b] w fun e w'=>e=.returned (.int .i64 (cmpZ a b))∧w'=w:=by
 by_cases h:a < b
 ·have e:cmpZ a b=-1:=by unfold cmpZ;rw [if_pos h]
  rw [e]
  clear e
  go_enter Tryz.func85,Tryz.ntmps85
  go_wp2
  go_ret
  exact ⟨rfl,rfl⟩
 ·by_cases h2:b < a
  ·have e:cmpZ a b=1:=by unfold cmpZ;rw [if_neg h,if_pos h2]
   rw [e]
   clear e
   go_enter Tryz.func85,Tryz.ntmps85
   go_wp2
   go_ret
   exact ⟨rfl,rfl⟩
  ·have e:cmpZ a b=0:=by unfold cmpZ;rw [if_neg h,if_neg h2]
   rw [e]
   obtain rfl:a=b:=by omega
   clear e h2 h
   go_enter Tryz.func85,Tryz.ntmps85
   go_wp2
   go_ret
   exact ⟨rfl,rfl⟩
def rowI (a0 a1 a2 b0 b1 b2:Int):Int:=lexI (cmpZ a0 b0) (lexI (cmpZ a1 b1) (cmpZ a2 b2))
set_option maxHeartbeats 3200000 in
theorem cmpRow (a0 a1 a2 b0 b1 b2:Int) (g g2:Nat) (w:World) (h0:w.cell? ⟨g,0,none⟩=some (.int .i64 a0)) (h1:w.cell? ⟨g,1,none⟩=some (.int .i64 a1)) (h2:w.cell? ⟨g,2,none⟩=some (.int .i64 a2))
 (k0:w.cell? ⟨g2,0,none⟩=some (.int .i64 b0)) (k1:w.cell? ⟨g2,1,none⟩=some (.int .i64 b1)) (k2:w.cell? ⟨g2,2,none⟩=some (.int .i64 b2)):
 Calls Tryz.prog 81 #[.slice (some ⟨g,0,none⟩) 3 3,.slice (some ⟨g2,0,none⟩) 3 3] w fun e w'=>e=.returned (.int .i64 (rowI a0 a1 a2 b0 b1 b2))∧w'=w:=by
 unfold rowI
 have hc0:=fun W=>ze5 a0 b0 W
 have hc1:=fun W=>ze5 a1 b1 W
 have hc2:=fun W=>ze5 a2 b2 W
 generalize cmpZ a0 b0=c0 at hc0 ⊢
 generalize cmpZ a1 b1=c1 at hc1 ⊢
 generalize cmpZ a2 b2=c2 at hc2 ⊢
 obtain ⟨r,hr⟩:∃ r,r=lexI c0 (lexI c1 c2):=⟨_,rfl⟩
 rw [← hr]
 have HR:=Lib.hid hr
 clear hr
 go_enter Tryz.func81,Tryz.ntmps81
 go_wp2_with fail
 go_loopw [11] (fun i wr=>wr=w∧∃ j:Nat,i=.int .i64 j∧(j=0∨(j=1∧c0=0)∨(j=2∧c0=0∧c1=0)∨(j=3∧c0=0∧c1=0∧c2=0))) (fun i _=>3 - (intOf i).toNat)
 case atStart=>exact ⟨rfl,0,rfl,.inl rfl⟩
 case round=>
  obtain ⟨rfl,j,rfl,rfl | ⟨rfl,z0⟩ | ⟨rfl,z0,z1⟩ | ⟨rfl,z0,z1,z2⟩⟩:=hrel
  ·by_cases hz:c0=0
   ·have e2:(c0 != 0)=false:=by simp [hz]
    go_wp2_with (go_at_call 85;(with_reducible refine (hc0 _).mono ?_);rintro e w3 ⟨rfl,rfl⟩)
    go_roundw
    case rel=>exact ⟨trivial,1,by go_num,.inr (.inl ⟨rfl,hz⟩)⟩
    case measure=>simp [intOf]
   ·have e2:(c0 != 0)=true:=by simpa using hz
    go_wp2_with (go_at_call 85;(with_reducible refine (hc0 _).mono ?_);rintro e w3 ⟨rfl,rfl⟩)
    go_ret
    exact ⟨by rw [HR.out,lexI,if_neg hz];rfl,rfl⟩
  ·by_cases hz:c1=0
   ·have e2:(c1 != 0)=false:=by simp [hz]
    go_wp2_with (go_at_call 85;(with_reducible refine (hc1 _).mono ?_);rintro e w3 ⟨rfl,rfl⟩)
    go_roundw
    case rel=>exact ⟨trivial,2,by go_num,.inr (.inr (.inl ⟨rfl,z0,hz⟩))⟩
    case measure=>simp [intOf]
   ·have e2:(c1 != 0)=true:=by simpa using hz
    go_wp2_with (go_at_call 85;(with_reducible refine (hc1 _).mono ?_);rintro e w3 ⟨rfl,rfl⟩)
    go_ret
    exact ⟨by rw [HR.out,lexI,if_pos z0,lexI,if_neg hz];rfl,rfl⟩
  ·by_cases hz:c2=0
   ·have e2:(c2 != 0)=false:=by simp [hz]
    go_wp2_with (go_at_call 85;(with_reducible refine (hc2 _).mono ?_);rintro e w3 ⟨rfl,rfl⟩)
    go_roundw
    case rel=>exact ⟨trivial,3,by go_num,.inr (.inr (.inr ⟨rfl,z0,z1,hz⟩))⟩
    case measure=>simp [intOf]
   ·have e2:(c2 != 0)=true:=by simpa using hz
    go_wp2_with (go_at_call 85;(with_reducible refine (hc2 _).mono ?_);rintro e w3 ⟨rfl,rfl⟩)
    go_ret
    exact ⟨by rw [HR.out,lexI,if_pos z0,lexI,if_pos z1];rfl,rfl⟩
  ·go_wp2_with fail
   go_ret
   exact ⟨by rw [HR.out,lexI,if_pos z0,lexI,if_pos z1,z2];rfl,rfl⟩
structure VR where
 a:Int
 b:Int
 c:Int
deriving Inhabited
def VR.enc (r:VR):List Value:=[.int .i64 r.a,.int .i64 r.b,.int .i64 r.c]
def VR.cf (r s:VR):Int:=rowI r.a r.b r.c s.a s.b s.c
theorem VR.one (r:VR):∀ v∈r.enc,v.oneCell'=true:=by
 intro v hv
 simp only [VR.enc,List.mem_cons,List.mem_nil_iff,or_false] at hv
 rcases hv with rfl | rfl | rfl <;> rfl
set_option maxHeartbeats 1600000 in
theorem zw4 (r s:VR) (w:World):Calls Tryz.prog 80 #[.agg #[.int .i64 r.a,.int .i64 r.b,.int .i64 r.c],.agg #[.int .i64 s.a,.int .i64 s.b,.int .i64 s.c]] w fun e w'=>e=.returned (.int .i64 (VR.cf r s))∧Low w.heap.size w w':=by
 obtain ⟨w1,hw1⟩:∃ w1,w1=(w.alloc (.cells #[.int .i64 r.a,.int .i64 r.b,.int .i64 r.c] 81)).alloc (.cells #[.int .i64 s.a,.int .i64 s.b,.int .i64 s.c] 81):=⟨_,rfl⟩
 have A:w1.heap[w.heap.size]?=some (.cells #[.int .i64 r.a,.int .i64 r.b,.int .i64 r.c] 81):=by rw [hw1];exact zaw _ (zah _ _ rfl)
 have B:w1.heap[w.heap.size+1]?=some (.cells #[.int .i64 s.a,.int .i64 s.b,.int .i64 s.c] 81):=by rw [hw1];exact zah _ _ (by simp)
 have b0:Low w.heap.size w w1:=by rw [hw1];exact low2 _ _ _
 have hc:=fun n=>cmpRow r.a r.b r.c s.a s.b s.c w.heap.size (w.heap.size+1) (w1.drewN n) (zab (w:=w1.drewN n) A 0 rfl) (zab (w:=w1.drewN n) A 1 rfl) (zab (w:=w1.drewN n) A 2 rfl) (zab (w:=w1.drewN n) B 0 rfl) (zab (w:=w1.drewN n) B 1 rfl) (zab (w:=w1.drewN n) B 2 rfl)
 unfold VR.cf
 generalize rowI r.a r.b r.c s.a s.b s.c=z at hc ⊢
 have HW:=Lib.hid hw1
 clear hw1
 go_enter Tryz.func80,Tryz.ntmps80
 go_upto_region 1 with fail
 rw [← HW.out]
 refine wp_region_held_drew (S:=fun W=>W=w1.drewN 1) (by kernel_rfl) rfl (fun hHeld=>?_)
 refine tg (i:=0) (.slice (some ⟨w.heap.size,0,none⟩) 3 3) rfl hHeld ?_
 refine tg (i:=1) (.slice (some ⟨w.heap.size+1,0,none⟩) 3 3) rfl hHeld ?_
 refine tr 2 rfl (fun K hK=>?_)
 rw [if_pos (by rfl)]
 go_simp
 clear hHeld
 refine (hc 1).mono ?_
 rintro e w3 ⟨rfl,rfl⟩
 refine hK.out _ _ rfl (fun hHeld=>?_)
 clear hK K
 try simp only [putS]
 refine tg (i:=3) (.int .i64 z) rfl hHeld ?_
 refine wpAnyH_done (by kernel_rfl) ?_ _
 go_wp2_with fail
 go_ret
 exact ⟨rfl,zbx b0 1⟩
theorem zde (a b c a' b' c':Int):rowI a' b' c' a b c=-rowI a b c a' b' c':=by
 unfold rowI
 rw [zcb a a',zcb b b',zcb c c',zcl,zcl]
theorem zm6 (r s t:VR):Tri (VR.cf r s) (VR.cf s t) (VR.cf r t):=(zdy _ _ _).lex ((zdy _ _ _).lex (zdy _ _ _))
theorem swoR:Go.Sort.SWO (ltOf VR.cf) where
 irrefl x:=decide_eq_false (by
  have h:=zde x.a x.b x.c x.a x.b x.c
  show ¬ rowI x.a x.b x.c x.a x.b x.c < 0
  omega)
 trans x y z h1 h2:=decide_eq_true ((zm6 x y z).lt (of_decide_eq_true h1) (Int.le_of_lt (of_decide_eq_true h2)))
 ntrans x y z h1 h2:=decide_eq_false (by
  have g1:¬ VR.cf x y < 0:=of_decide_eq_false h1
  have g2:¬ VR.cf y z < 0:=of_decide_eq_false h2
  have h:=(zm6 z y x).le
  have e1:VR.cf y x=-VR.cf x y:=zde _ _ _ _ _ _
  have e2:VR.cf z y=-VR.cf y z:=zde _ _ _ _ _ _
  have e3:VR.cf z x=-VR.cf x z:=zde _ _ _ _ _ _
  omega)
theorem zw5 (w:World) (blk off cap:Nat) (d:Array VR) (hblk:blk < w.heap.size) (hH:Go.Sort.HoldsK VR.enc 3 w blk off d) (hsz:d.size < 4611686018427387904):
 Calls Tryz.prog 79 #[.slice (some ⟨blk,off,none⟩) d.size cap,.func (.func 80) #[] #[]] w fun e w'=>
  e=.returned (.tuple #[])∧∃ d' n os,Go.Sort.PermIn 0 d.size d d'∧Go.Sort.SortedIn (ltOf VR.cf) 0 d.size d'∧w'=sortWorldK VR.enc 3 w blk off n d' os:=by
 have eg:∀ args w,(callFunc 80 args).run Tryz.prog w=.ok (.enter 80 args) w:=enters_of Tryz.func80 (by kernel_rfl) rfl
 have hl:CmpLays Tryz.prog 80 #[] VR.enc 3 VR.cf blk off d.size w:=fun m os dk hs x y=>(zw4 x y _).mono fun e w' ⟨he,hb⟩=>⟨he,hb.grows⟩
 exact AnyQ.slices_SortFunc Tryz.sortR 3 Tryz.isAgg81 Tryz.sizeOf81 VR.enc (fun _=>rfl) VR.one VR.cf swoR 80 #[] blk off cap d w eg hl hH hblk hsz
end Go.Proofs.YtanbgdhmfjgihaaGreatDoor

/- CA -/
namespace Go.Proofs.YtanbgdhmfjgihaaGreatDoor
open Go.RowKit
def zcr {α:Type} [Inhabited α] (enc:α→List Value) (k:Nat) (w:World) (blk off:Nat) (d:Array α):Prop:=
 ∀ j,j < d.size→w.rangeAt blk (off+j*k) (enc d[j]!)∧w.there blk (off+j*k) k
section
variable {α:Type} [Inhabited α] {enc:α→List Value} {k blk off:Nat} {d:Array α} {w w':World}
theorem zcr.of_holds (h:Go.Sort.HoldsK enc k w blk off d) (hk:∀ x,(enc x).length=k):zcr enc k w blk off d:=fun j hj=>by
 refine ⟨fun i v hv=>?_,fun i hi=>?_⟩
 ·have hi:i < k:=by rw [← hk d[j]!];exact (List.getElem?_eq_some_iff.1 hv).1
  rw [(h.cell hj hi).1]
  obtain ⟨h1,h2⟩:=List.getElem?_eq_some_iff.1 hv
  rw [getElem!_pos _ i h1,h2]
 ·have:=h.cell hj hi
  exact ⟨by rw [this.1];rfl,this.2⟩
theorem zcr.keep (h:zcr enc k w blk off d) (hc:∀ o,w'.cell? ⟨blk,o,none⟩=w.cell? ⟨blk,o,none⟩) (hf:∀ o,w'.frozen? ⟨blk,o,none⟩=w.frozen? ⟨blk,o,none⟩):zcr enc k w' blk off d:=fun j hj=>
 ⟨fun i v hv=>(hc _).trans ((h j hj).1 i v hv),fun i hi=>⟨by rw [hc];exact ((h j hj).2 i hi).1,by rw [hf];exact ((h j hj).2 i hi).2⟩⟩
theorem zcr.low (h:zcr enc k w blk off d) (hb:blk < w.heap.size) (b:Low w.heap.size w w'):zcr enc k w' blk off d:=
 h.keep (fun o=>b.cell (p:=⟨blk,o,none⟩) hb) (fun o=>b.frozen (p:=⟨blk,o,none⟩) hb)
theorem zcr.below (h:zcr enc k w blk off d) (hb:blk < w.heap.size) (b:Below w.heap.size w w'):zcr enc k w' blk off d:=
 h.keep (fun o=>b.cell (p:=⟨blk,o,none⟩) hb) (fun o=>b.frozen (p:=⟨blk,o,none⟩) hb)
theorem zcr.set (h:zcr enc k w blk off d) (hk:∀ x,(enc x).length=k) (j:Nat) (hj:j < d.size) (u:α):zcr enc k (w.setCells blk (off+j*k) (enc u)) blk off (d.setIfInBounds j u):=fun i hi=>by
 have hi':i < d.size:=by simpa using hi
 have hth:(w.setCells blk (off+j*k) (enc u)).there blk (off+i*k) k:=World.there_setCells (h i hi').2 _ _ _
 refine ⟨?_,hth⟩
 by_cases e:i=j
 ·subst e
  rw [getElem!_pos _ i hi,Array.getElem_setIfInBounds_self]
  exact World.rangeAt_setCells_same w blk (off+i*k) (enc u) (by rw [hk];exact (h i hi').2)
 ·rw [getElem!_pos _ i hi,Array.getElem_setIfInBounds_ne (by simpa using hi) (by omega),← getElem!_pos d i hi']
  refine World.rangeAt_setCells_apart (h i hi').1 blk (off+j*k) (enc u) (.inr ?_)
  rw [hk,hk]
  rcases Nat.lt_or_ge i j with q | q
  ·left
   have:=Nat.mul_le_mul_right k (show i+1≤j by omega)
   rw [Nat.add_mul] at this
   omega
  ·right
   have:=Nat.mul_le_mul_right k (show j+1≤i by omega)
   rw [Nat.add_mul] at this
   omega
theorem zcr.tail (h:zcr enc k w blk off d) (hk:∀ x,(enc x).length=k) (n:Nat) (hn:n≤d.size) (vs:List Value):zcr enc k (w.setCells blk (off+n*k) vs) blk off (d.take n):=fun i hi=>by
 have hi':i < n:=by simp at hi;omega
 have e:(d.take n)[i]! =d[i]!:=by
  rw [getElem!_pos _ i hi,getElem!_pos d i (by omega)]
  simp
 rw [e]
 have hh:=h i (by omega)
 refine ⟨World.rangeAt_setCells_apart hh.1 blk (off+n*k) vs (.inr (.inl ?_)),World.there_setCells hh.2 _ _ _⟩
 rw [hk]
 have:=Nat.mul_le_mul_right k (show i+1≤n by omega)
 rw [Nat.add_mul] at this
 omega
theorem zba (b:Nat):(vs:List Value)→(o:Nat)→(x:World)→Only b x (x.setCells b o vs)
 | [],_,x=>Only.refl b x
 | v::r,o,x=>((Only.refl b x).setCell o none v).trans (zba b r (o+1) _)
theorem zhc {n:Nat} (P:Program) (w:World) (t e ty:TypeId) (z:Value) (ht:P.underlying t=some (.slice e)) (hv:∀ w,(zeroValue e).run P w=.ok z w) (h1:∀ v∈(Builtin.zeroCells z.cells n).toList,v.oneCell'=true) (b o c:Nat) (hn:0 < n)
 (hc:w.there b o (n*z.cells.size)):
 (Builtin.clear_ #[t] ty #[.slice (some ⟨b,o,none⟩) n c]).run P w=.ok (.tuple #[]) (w.setCells b o (Builtin.zeroCells z.cells n).toList):=by
 have hlen:(Builtin.zeroCells z.cells n).toList.length=n*z.cells.size:=by simp [Builtin.zeroCells]
 have hst:=run_storeCells_cells (P:=P) b o (Builtin.zeroCells z.cells n).toList 0 w (fun j hj=>by have:=(hc j (by omega)).1;simpa using this) (fun j hj=>by have:=(hc j (by omega)).2;simpa using this) h1
 simp only [Nat.add_zero] at hst
 obtain ⟨m,rfl⟩:∃ m,n=m+1:=⟨n - 1,by omega⟩
 simp [Builtin.clear_,run_underlying ht,hv,hst]
theorem zcr.there (h:zcr enc k w blk off d) (hk:0 < k) (n:Nat) (hn:n≤d.size):w.there blk (off+n*k) ((d.size - n)*k):=fun i hi=>by
 have q:i / k < d.size - n:=Nat.div_lt_of_lt_mul (by rw [Nat.mul_comm];exact hi)
 have:=(h (n+i / k) (by omega)).2 (i % k) (Nat.mod_lt _ hk)
 rwa [show off+(n+i / k)*k+i % k=off+n*k+i by
  have:=Nat.div_add_mod i k
  rw [Nat.add_mul,Nat.mul_comm (i / k) k]
  omega] at this
end
end Go.Proofs.YtanbgdhmfjgihaaGreatDoor

/- CB -/
namespace Go.Proofs.YtanbgdhmfjgihaaGreatDoor
open Go.RowKit
noncomputable local instance:DecidableEq Val:=fun _ _=>Classical.propDecidable _
theorem VE.same_eq (a b:VE):zb8 a.val b.val=true↔a.val=b.val:=by
 unfold VE.val
 rw [zb8]
 constructor
 ·intro h
  simp only [Bool.and_eq_true,beq_iff_eq] at h
  obtain ⟨h1,h2,h3,h4,h5,_⟩:=h
  have e4:a.v.t=b.v.t:=zbs (by rw [← za7,← za7];exact h4)
  have e5:a.v.x=b.v.x:=zbs (by rw [← za7,← za7];exact h5)
  rw [h1,h2,h3,e4,e5]
 ·intro h
  injection h with h1 h2 h3 h4 h5 _
  rw [h1,h2,h3,h4,h5]
  simp [za8]
theorem VE.len6 (x:VE):x.enc.length=6:=rfl
theorem zye (a b:VE) (w:World):Calls Tryz.prog 76 #[.agg #[.int .i64 a.v.k,.bool a.v.b,.int .i64 a.v.n,.string a.v.t,.string a.v.x,.slice a.v.p a.v.len a.v.cap],.agg #[.int .i64 b.v.k,.bool b.v.b,.int .i64 b.v.n,.string b.v.t,.string b.v.x,.slice b.v.p b.v.len b.v.cap]] w fun e w'=>e=.returned (.bool (zb8 a.val b.val))∧Low w.heap.size w w':=by
 obtain ⟨⟨k,b',n,t,z,p,len,cap⟩,h0,hf⟩:=a
 obtain ⟨⟨k2,b2,n2,t2,z2,p2,len2,cap2⟩,h02,hf2⟩:=b
 simp only at h0 h02
 subst h0 h02
 exact zt5 _ w k b' n t z [] p cap _ k2 b2 n2 t2 z2 [] p2 cap2 rfl rfl (by simp) ⟨_,_,rfl⟩ ⟨_,_,rfl⟩
def zcd (d:Array VE):Array Val:=d.map VE.val
theorem zhu (d:Array VE):(zcd d).size=d.size:=by unfold zcd;simp
instance:Inhabited Val:=⟨.mk 0 false 0 ⟨#[]⟩ ⟨#[]⟩ []⟩
theorem zb4 (d:Array VE) (i:Nat) (h:i < d.size):(zcd d)[i]! =d[i]!.val:=by
 rw [getElem!_pos _ i (by rw [zhu];exact h),getElem!_pos d i h]
 unfold zcd
 simp
theorem zu5 (d:Array VE) (i:Nat) (u:VE):zcd (d.setIfInBounds i u)=(zcd d).setIfInBounds i u.val:=by
 unfold zcd
 rw [Array.map_setIfInBounds]
theorem zo0 {g:Nat} {x y z:World} (h:Only g x y) (k:Low y.heap.size y z):Only g x z:=h.trans (Only.of_low k)
theorem zm7 {ops:Array Oper} {rest:List Oper} {o:Oper} {a:Act} {w:World} {Q:Exit→Act→World→Prop} (x:Operand) (g off:Nat) (e:VE) (h6:w.rangeAt g off e.enc)
 (hgd:o.guard=none) (ho:o.op=.load 39 x) (hx:a.eval x=.pointer (some ⟨g,off,none⟩))
 (h:wpList Tryz.prog ops Q rest (a.put o.dst (.agg e.enc.toArray)) w):wpList Tryz.prog ops Q (o::rest) a w:=
 wpList_load_mid hgd 39 x ho g off hx e.enc _ h6 Tryz.underlying39 rfl zas h
theorem zlc {ops:Array Oper} {rest:List Oper} {o:Oper} {a:Act} {w:World} {Q:Exit→Act→World→Prop} (x y:Operand) (g off:Nat) (e:VE) (hth:w.there g off 6)
 (hgd:o.guard=none) (ho:o.op=.store 39 x y) (hx:a.eval x=.pointer (some ⟨g,off,none⟩)) (hy:a.eval y=.agg e.enc.toArray)
 (h:wpList Tryz.prog ops Q rest (a.put o.dst undef) (w.setCells g off e.enc)):wpList Tryz.prog ops Q (o::rest) a w:=
 wpList_store_mid hgd 39 x y ho g off e.enc.toArray hx hy hth zas (all_oneCell_toArray e.one) h
theorem zero39 (w:World):(zeroValue 39).run Tryz.prog w=.ok (.agg #[.int .i64 0,.bool false,.int .i64 0,.string ⟨#[]⟩,.string ⟨#[]⟩,.slice none 0 0]) w:=Tryz.zeroValue39 w
set_option maxHeartbeats 6400000 in
set_option maxRecDepth 20000 in
theorem zw6 (blk off cap:Nat) (d:Array VE) (w:World) (hE:zcr VE.enc 6 w blk off d) (hblk:blk < w.heap.size) (hsz:d.size < 1099511627776) (hcap:d.size≤cap):
 Calls Tryz.prog 75 #[.slice (some ⟨blk,off,none⟩) d.size cap,.func (.func 76) #[] #[]] w fun e w'=>∃ (dk:Array VE),e=.returned (.slice (some ⟨blk,off,none⟩) dk.size cap)∧dk.toList.map VE.val=Go.Lib.compactUpTo (zcd d) d.size∧zcr VE.enc 6 w' blk off dk∧Only blk w w':=by
 have all:(∀ j,j < d.size→Go.Lib.keeps (zcd d) j=true)→d.toList.map VE.val=Go.Lib.compactUpTo (zcd d) d.size:=fun h=>by
  have:=Go.Lib.compactUpTo_all (zcd d) d.size h
  rw [this,← zhu d,Go.Lib.range_map_get]
  unfold zcd
  simp
 have ALL:=Lib.hid all
 have HE:=Lib.hid hE
 clear all hE
 by_cases h2:d.size < 2
 ·go_enter Tryz.func75,Tryz.ntmps75
  go_wp2_with fail
  go_ret
  exact ⟨d,rfl,ALL.out fun j hj=>Go.Lib.keeps_lt_one _ j (by omega),HE.out,Only.refl _ _⟩
 ·go_enter Tryz.func75,Tryz.ntmps75
  go_wp2_with fail
  go_loopg [5] d.size (fun gg s5 wr=>∃ i:Nat,s5=.int .i64 ((i:Int)+1)∧i+1≤d.size∧d.size - (i+1)≤gg∧Low w.heap.size w wr∧Hid (∀ j,j < i+1→Go.Lib.keeps (zcd d) j=true))
  case atStart=>exact ⟨0,rfl,by omega,by omega,Low.refl _ _,Lib.hid (Go.Lib.keeps_lt_one _)⟩
  case round=>
   obtain ⟨i,rfl,hi,hgg,bw,hall⟩:=hrel
   by_cases hlt:i+1 < d.size
   ·have E:=HE.out.low hblk bw
    obtain ⟨ea,hea⟩:∃ x,x=d[i+1]!:=⟨_,rfl⟩
    obtain ⟨eb,heb⟩:∃ x,x=d[i]!:=⟨_,rfl⟩
    have ra:=(E (i+1) hlt).1
    have rb:=(E i (by omega)).1
    rw [← hea] at ra
    rw [← heb] at rb
    have RA:Hid (∀ W,Low wr.heap.size wr W→W.rangeAt blk (off+(i+1)*6) ea.enc):=Lib.hid fun W h=>zae ra h.is
    have RB:Hid (∀ W,Low wr.heap.size wr W→W.rangeAt blk (off+i*6) eb.enc):=Lib.hid fun W h=>zae rb h.is
    obtain ⟨r,hr⟩:∃ r,r=zb8 ea.val eb.val:=⟨_,rfl⟩
    have HC:Hid (∀ W,Calls Tryz.prog 76 #[.agg ea.enc.toArray,.agg eb.enc.toArray] W fun e w'=>e=.returned (.bool r)∧Low W.heap.size W w'):=Lib.hid fun W=>by rw [hr];exact zye ea eb W
    have KR:Hid (r=true↔(zcd d)[i+1]! =(zcd d)[i]!):=Lib.hid (by rw [zb4 d _ hlt,zb4 d _ (by omega),← hea,← heb,hr];exact VE.same_eq ea eb)
    clear E ra rb hea heb hr
    have hlti:(i:Int)+1 < d.size:=by omega
    have t1:((i:Int)+1).toNat=i+1:=by omega
    have t2:¬ (i:Int)+1 < 0:=by omega
    have t3:IntKind.i64.wrap (i:Int)=i:=IntWalk.i64_in _ (by omega)
    have t4:(i:Int) < d.size:=by omega
    go_upto_region 6 with fail
    refine wp_region_held_drew (S:=fun W=>Low wr.heap.size wr W) (by kernel_rfl) (Low.refl _ _).drew (fun hHeld=>?_)
    refine tg (i:=0) (.func (.func 76) #[] #[]) rfl hHeld ?_
    refine tg (i:=1) (.slice (some ⟨blk,off,none⟩) d.size cap) rfl hHeld ?_
    refine tg (i:=2) (.int .i64 ((i:Int)+1)) rfl hHeld ?_
    refine tg (i:=3) (.pointer (some ⟨blk,off+(i+1)*6,none⟩)) rfl hHeld ?_
    refine tk (i:=4) rfl (yieldsIf_load_mid (by rfl) 39 (.tmp 21) rfl blk (off+(i+1)*6) rfl ea.enc _ (fun w h=>RA.out w h) Tryz.underlying39 rfl zas) hHeld ?_
    refine tg (i:=5) (.slice (some ⟨blk,off,none⟩) d.size cap) rfl hHeld ?_
    refine tg (i:=6) (.int .i64 ((i:Int)+1)) rfl hHeld ?_
    refine tg (i:=7) (.int .i64 i) rfl hHeld ?_
    refine tg (i:=8) (.pointer (some ⟨blk,off+i*6,none⟩)) rfl hHeld ?_
    refine tk (i:=9) rfl (yieldsIf_load_mid (by rfl) 39 (.tmp 26) rfl blk (off+i*6) rfl eb.enc _ (fun w h=>RB.out w h) Tryz.underlying39 rfl zas) hHeld ?_
    refine tr 10 rfl (fun K hK=>?_)
    rw [if_pos (by rfl)]
    go_simp
    refine (HC.out _).mono ?_
    rintro e0 w3 ⟨rfl,hb3⟩
    have hH2:=zad hHeld hb3 hHeld.size
    clear hb3 hHeld
    refine hK.out _ _ hH2 (fun hH2=>?_)
    clear hK K
    try simp only [putS]
    refine wpAnyH_done (by kernel_rfl) ?_ _
    replace bw:=bw.trans (hH2.mono bw.size)
    cases r with
    | false=>
       go_wp2_with fail
       go_roundg (d.size - (i+1+1))
       case measure=>omega
       case rel=>
        refine ⟨i+1,by go_num,by omega,Nat.le_refl _,bw,Lib.hid fun j hj=>?_⟩
        by_cases e:j=i+1
        ·subst e
         exact Go.Lib.keeps_pos (fun h=>absurd (KR.out.2 h) (by decide))
        ·exact hall.out j (by omega)
    | true=>
       have hst:=Go.Lib.CompInv.start (d:=zcd d) (k0:=i+1) hall.out (Go.Lib.keeps_neg (by omega) (KR.out.1 rfl))
       have HST:=Lib.hid hst
       clear hst KR
       have hcap3:(i:Int)+1≤cap:=by omega
       have hle3:(i:Int)+1≤d.size:=by omega
       have E3:=HE.out.low hblk bw
       have bo:Only blk w w3:=Only.of_low bw
       go_wp2_with fail
       go_loopg [5,7] d.size (fun gg s5 s7 wr=>∃ (kk c:Nat) (dk:Array VE),s5=.int .i64 kk∧s7=.int .i64 ((c:Int)+1)∧i+1+(c+1)≤d.size∧d.size - (i+1+(c+1))≤gg∧Only blk w wr∧dk.size=d.size∧Hid (zcr VE.enc 6 wr blk off dk)∧Hid (Go.Lib.CompInv (zcd d) (i+1+(c+1)) kk (zcd dk)))
       case atStart=>exact ⟨i+1,0,d,by go_num,rfl,by omega,by omega,bo,rfl,Lib.hid E3,HST⟩
       case round=>
        clear E3 bo bw hall
        obtain ⟨kk,c,dk,rfl,rfl,hle,hgg2,bo,hds,hE,hI⟩:=hrel
        have hkk:=hI.out.lt
        by_cases hlt2:i+1+(c+1) < d.size
        ·obtain ⟨ec,hec⟩:∃ x,x=dk[i+1+(c+1)]!:=⟨_,rfl⟩
         obtain ⟨ed,hed⟩:∃ x,x=dk[i+1+c]!:=⟨_,rfl⟩
         have ra:=(hE.out (i+1+(c+1)) (by omega)).1
         have rb:=(hE.out (i+1+c) (by omega)).1
         rw [← hec,show off+(i+1+(c+1))*6=off+(i+1)*6+(c+1)*6 by omega] at ra
         rw [← hed,show off+(i+1+c)*6=off+(i+1)*6+c*6 by omega] at rb
         have RA:Hid (∀ W,Low wr.heap.size wr W→W.rangeAt blk (off+(i+1)*6+(c+1)*6) ec.enc):=Lib.hid fun W h=>zae ra h.is
         have RB:Hid (∀ W,Low wr.heap.size wr W→W.rangeAt blk (off+(i+1)*6+c*6) ed.enc):=Lib.hid fun W h=>zae rb h.is
         obtain ⟨r,hr⟩:∃ r,r=zb8 ec.val ed.val:=⟨_,rfl⟩
         have HC:Hid (∀ W,Calls Tryz.prog 76 #[.agg ec.enc.toArray,.agg ed.enc.toArray] W fun e w'=>e=.returned (.bool r)∧Low W.heap.size W w'):=Lib.hid fun W=>by rw [hr];exact zye ec ed W
         have hv1:=hI.out.high (i+1+(c+1)) (by omega)
         have hv2:=hI.out.high (i+1+c) (by omega)
         rw [zb4 dk _ (by omega),← hec] at hv1
         rw [zb4 dk _ (by omega),← hed] at hv2
         have KR:Hid (r=true↔(zcd d)[i+1+(c+1)]! =(zcd d)[i+1+c]!):=Lib.hid (by rw [← hv1,← hv2,hr];exact VE.same_eq ec ed)
         have HV1:=Lib.hid hv1
         have hblk2:blk < wr.heap.size:=Nat.lt_of_lt_of_le hblk bo.size
         clear ra rb hec hed hr hv1 hv2
         have hlti2:(c:Int)+1 < (d.size - (i+1):Nat):=by omega
         have t5:((c:Int)+1).toNat=c+1:=by omega
         have t6:¬ (c:Int)+1 < 0:=by omega
         have t7:IntKind.i64.wrap (c:Int)=c:=IntWalk.i64_in _ (by omega)
         have t8:(c:Int) < (d.size - (i+1):Nat):=by omega
         go_upto_region 11 with fail
         refine wp_region_held_drew (S:=fun W=>Low wr.heap.size wr W) (by kernel_rfl) (Low.refl _ _).drew (fun hHeld=>?_)
         refine tg (i:=0) (.func (.func 76) #[] #[]) rfl hHeld ?_
         refine tg (i:=1) (.slice (some ⟨blk,off+(i+1)*6,none⟩) (d.size - (i+1)) (cap - (i+1))) rfl hHeld ?_
         refine tg (i:=2) (.int .i64 ((c:Int)+1)) rfl hHeld ?_
         refine tg (i:=3) (.pointer (some ⟨blk,off+(i+1)*6+(c+1)*6,none⟩)) rfl hHeld ?_
         refine tk (i:=4) rfl (yieldsIf_load_mid (by rfl) 39 (.tmp 41) rfl blk (off+(i+1)*6+(c+1)*6) rfl ec.enc _ (fun w h=>RA.out w h) Tryz.underlying39 rfl zas) hHeld ?_
         refine tg (i:=5) (.slice (some ⟨blk,off+(i+1)*6,none⟩) (d.size - (i+1)) (cap - (i+1))) rfl hHeld ?_
         refine tg (i:=6) (.int .i64 ((c:Int)+1)) rfl hHeld ?_
         refine tg (i:=7) (.int .i64 c) rfl hHeld ?_
         refine tg (i:=8) (.pointer (some ⟨blk,off+(i+1)*6+c*6,none⟩)) rfl hHeld ?_
         refine tk (i:=9) rfl (yieldsIf_load_mid (by rfl) 39 (.tmp 46) rfl blk (off+(i+1)*6+c*6) rfl ed.enc _ (fun w h=>RB.out w h) Tryz.underlying39 rfl zas) hHeld ?_
         refine tr 10 rfl (fun K hK=>?_)
         rw [if_pos (by rfl)]
         go_simp
         refine (HC.out _).mono ?_
         rintro e0 w3 ⟨rfl,hb3⟩
         have hH2:=zad hHeld hb3 hHeld.size
         clear hb3 hHeld
         refine hK.out _ _ hH2 (fun hH2=>?_)
         clear hK K
         try simp only [putS]
         refine tg (i:=11) (.bool (!r)) rfl hH2 ?_
         refine wpAnyH_done (by kernel_rfl) ?_ _
         cases r with
         | true=>
           go_wp2_with fail
           go_roundg (d.size - (i+1+(c+1+1)))
           case measure=>omega
           case rel=>exact ⟨kk,c+1,dk,rfl,by go_num,by omega,Nat.le_refl _,zo0 bo hH2,hds,Lib.hid (hE.out.low hblk2 hH2),Lib.hid (hI.out.skip (Go.Lib.keeps_neg (by omega) (KR.out.1 (by first | rfl | trivial))))⟩
         | false=>
           have E3:=hE.out.low hblk2 hH2
           have rc:=RA.out _ hH2
           have hth:=(E3 kk (by omega)).2
           have E4:=E3.set VE.len6 kk (by omega) ec
           have bo2:=(zo0 bo hH2).trans (zba blk ec.enc (off+kk*6) w3)
           have I4:=hI.out.keep (by rw [zhu];exact hlt2) (Go.Lib.keeps_pos (fun h=>absurd (KR.out.2 h) (by decide)))
           rw [← HV1.out,← zu5] at I4
           have hkk3:(kk:Int) < d.size:=by omega
           have HE4:=Lib.hid E4
           have HI4:=Lib.hid I4
           clear E4 I4 E3 hE hI bo HV1 KR RB HC
           go_wp2_with (first
            |((with_reducible refine zm7 (.tmp 54) blk (off+(i+1)*6+(c+1)*6) ec rc ?_ ?_ ?_ ?_);rfl;rfl;rfl)
            |((with_reducible refine zlc (.tmp 56) (.tmp 55) blk (off+kk*6) ec hth ?_ ?_ ?_ ?_ ?_);rfl;rfl;rfl;rfl;clear hth rc;generalize w3.setCells blk (off+kk*6) ec.enc=w4 at *))
           go_roundg (d.size - (i+1+(c+1+1)))
           case measure=>omega
           case rel=>exact ⟨kk+1,c+1,dk.setIfInBounds kk ec,by go_num,by go_num,by omega,Nat.le_refl _,bo2,by simpa using hds,HE4,HI4⟩
        ·have hend:i+1+(c+1)=d.size:=by omega
         have hnl:¬ (c:Int)+1 < (d.size - (i+1):Nat):=by omega
         have hth:=hE.out.there (by decide) kk (by omega)
         rw [hds] at hth
         have hcl:∀ ty,(Builtin.clear_ #[37] ty #[.slice (some ⟨blk,off+kk*6,none⟩) (d.size - kk) (cap - kk)]).run Tryz.prog wr=.ok (.tuple #[]) (wr.setCells blk (off+kk*6) (Builtin.zeroCells #[.int .i64 0,.bool false,.int .i64 0,.string ⟨#[]⟩,.string ⟨#[]⟩,.slice none 0 0] (d.size - kk)).toList):=fun ty=>
          zhc Tryz.prog wr 37 39 ty _ Tryz.underlying37 zero39 (by
           intro v hv
           simp only [Builtin.zeroCells,Array.toList_map,List.mem_map,Array.toList_range,List.mem_range] at hv
           obtain ⟨q,_,rfl⟩:=hv
           have hq:q % 6 < 6:=Nat.mod_lt _ (by decide)
           show (#[Value.int .i64 0,.bool false,.int .i64 0,.string ⟨#[]⟩,.string ⟨#[]⟩,.slice none 0 0][q % 6]!).oneCell'=true
           generalize q % 6=z at hq
           match z,hq with
           | 0,_ | 1,_ | 2,_ | 3,_ | 4,_ | 5,_=>rfl) blk (off+kk*6) (cap - kk) (by omega) hth
         have E4:=hE.out.tail VE.len6 kk (by omega) (Builtin.zeroCells #[.int .i64 0,.bool false,.int .i64 0,.string ⟨#[]⟩,.string ⟨#[]⟩,.slice none 0 0] (d.size - kk)).toList
         have bo2:=bo.trans (zba blk (Builtin.zeroCells #[.int .i64 0,.bool false,.int .i64 0,.string ⟨#[]⟩,.string ⟨#[]⟩,.slice none 0 0] (d.size - kk)).toList (off+kk*6) wr)
         have hsz2:(dk.take kk).size=kk:=by simp;omega
         have hres:(dk.take kk).toList.map VE.val=Go.Lib.compactUpTo (zcd d) d.size:=by
          have hI':=hI.out
          rw [hend] at hI'
          refine List.ext_getElem (by simp [hI'.len];omega) fun j h1 h2=>?_
          have hj:j < kk:=by rw [← hI'.len];exact h2
          have:=hI'.low j hj
          rw [List.getElem?_eq_getElem h2,zb4 dk j (by omega)] at this
          rw [Option.some.inj this,List.getElem_map,Array.getElem_toList,getElem!_pos dk j (by omega)]
          congr 1
          simp
         have HF:=Lib.hid (And.intro hres E4)
         have hkc:kk≤cap:=by omega
         have hkd:kk≤d.size:=by omega
         have hkc3:(kk:Int)≤cap:=by omega
         have hkd3:(kk:Int)≤d.size:=by omega
         clear hres E4 hE hI hth bo
         generalize (Builtin.zeroCells #[.int .i64 0,.bool false,.int .i64 0,.string ⟨#[]⟩,.string ⟨#[]⟩,.slice none 0 0] (d.size - kk)).toList=zs at*
         go_wp2_with fail
         go_ret
         exact ⟨dk.take kk,by rw [hsz2];rfl,HF.out.1,HF.out.2,bo2⟩
   ·have hend:i+1=d.size:=by omega
    have hn:¬ (i:Int)+1 < d.size:=by omega
    go_wp2_with fail
    go_ret
    exact ⟨d,rfl,ALL.out fun j hj=>hall.out j (by omega),HE.out.low hblk bw,Only.of_low bw⟩
end Go.Proofs.YtanbgdhmfjgihaaGreatDoor

/- SA -/
namespace Go.Proofs.YtanbgdhmfjgihaaGreatDoor
open Go.RowKit
section
variable {α:Type} [Inhabited α] [DecidableEq α]
theorem zfj (d:Array α) (m:Nat):(j:Nat)→j < m→d[j]!∈Go.Lib.compactUpTo d m
 | 0,h=>by
   unfold Go.Lib.compactUpTo
   rw [List.mem_map]
   exact ⟨0,by rw [List.mem_filter];exact ⟨List.mem_range.2 h,Go.Lib.keeps_lt_one d 0 (by omega)⟩,rfl⟩
 | j+1,h=>by
   by_cases e:d[j+1]! =d[j]!
   ·rw [e];exact zfj d m j (by omega)
   ·unfold Go.Lib.compactUpTo
    rw [List.mem_map]
    exact ⟨j+1,by rw [List.mem_filter];exact ⟨List.mem_range.2 h,Go.Lib.keeps_pos e⟩,rfl⟩
theorem zme (d:Array α) (m:Nat) (x:α) (h:x∈Go.Lib.compactUpTo d m):∃ j,j < m∧x=d[j]!:=by
 unfold Go.Lib.compactUpTo at h
 rw [List.mem_map] at h
 obtain ⟨j,hj,rfl⟩:=h
 rw [List.mem_filter] at hj
 exact ⟨j,List.mem_range.1 hj.1,rfl⟩
theorem zh5 (R:α→α→Prop) (d:Array α) (m:Nat) (h:∀ i j,i < j→j < m→d[j]!≠d[j - 1]!→R d[i]! d[j]!):(Go.Lib.compactUpTo d m).Pairwise R:=by
 unfold Go.Lib.compactUpTo
 rw [List.pairwise_map,List.pairwise_filter]
 refine (List.pairwise_lt_range (n:=m)).imp_of_mem ?_
 intro i j _ hj hij _ hk
 refine h i j hij (List.mem_range.1 hj) ?_
 unfold Go.Lib.keeps at hk
 have:=of_decide_eq_true hk
 rcases this with e | e
 ·omega
 ·exact e
end
theorem zkz {α:Type} [Inhabited α] {dv:DecidableEq α} (d:Array α) (m:Nat):(Go.Lib.compactUpTo d m).length≤m:=by
 unfold Go.Lib.compactUpTo
 rw [List.length_map]
 exact Nat.le_trans (List.length_filter_le _ _) (by simp)
theorem zcv {α:Type} [Inhabited α] {d d':Array α} (h:Go.Sort.PermIn 0 d.size d d'):d'.size=d.size∧d'.toList.Perm d.toList:=by
 obtain ⟨h1,_,h3⟩:=h
 have e:d'.extract 0 d.size=d':=by rw [← h1];simp
 have e2:d.extract 0 d.size=d:=by simp
 rw [e,e2] at h3
 exact ⟨h1,h3⟩
def Rise (l:List Val):Prop:=∀ (i j:Nat) (_:i < j) (h:j < l.length),zan 1 (l[i]'(by omega)) l[j] < 0
theorem Rise.of_pair {l:List Val} (h:l.Pairwise fun a b=>zan 1 a b < 0):Rise l:=fun i j hij hj=>List.pairwise_iff_getElem.1 h i j (by omega) hj hij
theorem Rise.pair {l:List Val} (h:Rise l):l.Pairwise fun a b=>zan 1 a b < 0:=List.pairwise_iff_getElem.2 fun i j _ hj hij=>h i j hij hj
theorem zb5 (a:Val):zan 1 a a=0:=by
 have:=zbb 1 a a
 omega
theorem Rise.lt {l:List Val} (h:Rise l) (i m:Nat) (hi:i < l.length) (hm:m < l.length):zan 1 l[i] l[m] < 0↔i < m:=by
 rcases Nat.lt_trichotomy i m with q | q | q
 ·exact ⟨fun _=>q,fun _=>h i m q hm⟩
 ·subst q
  rw [zb5]
  omega
 ·have g:=h m i q hi
  have e:=zbb 1 l[i] l[m]
  omega
theorem Rise.inj {l:List Val} (h:Rise l) (i m:Nat) (hi:i < l.length) (hm:m < l.length) (e:l[i]=l[m]):i=m:=by
 have e1:=(h.lt i m hi hm)
 have e2:=(h.lt m i hm hi)
 rw [e,zb5] at e1
 rw [e,zb5] at e2
 omega
theorem Rise.ext {l m:List Val} (hl:Rise l) (hm:Rise m) (h:∀ u,u∈l↔u∈m):l=m:=by
 have key:∀ (l m:List Val),l.Pairwise (fun a b=>zan 1 a b < 0)→m.Pairwise (fun a b=>zan 1 a b < 0)→(∀ u,u∈l↔u∈m)→l=m:=by
  intro l
  induction l with
  | nil=>
    intro m _ _ h
    cases m with
    | nil=>rfl
    | cons b m=>exact absurd ((h b).2 (List.mem_cons_self ..)) (by simp)
  | cons a l ih=>
    intro m hl hm h
    cases m with
    | nil=>exact absurd ((h a).1 (List.mem_cons_self ..)) (by simp)
    | cons b m=>
      rw [List.pairwise_cons] at hl hm
      have hab:a=b:=by
       rcases List.mem_cons.1 ((h a).1 (List.mem_cons_self ..)) with e | e
       ·exact e
       ·rcases List.mem_cons.1 ((h b).2 (List.mem_cons_self ..)) with e2 | e2
        ·exact e2.symm
        ·have q1:=hm.1 a e
         have q2:=hl.1 b e2
         have q3:=zbb 1 a b
         omega
      subst hab
      congr 1
      refine ih m hl.2 hm.2 fun u=>?_
      constructor
      ·intro hu
       rcases List.mem_cons.1 ((h u).1 (List.mem_cons_of_mem _ hu)) with e | e
       ·subst e
        have:=hl.1 u hu
        rw [zb5] at this
        omega
       ·exact e
      ·intro hu
       rcases List.mem_cons.1 ((h u).2 (List.mem_cons_of_mem _ hu)) with e | e
       ·subst e
        have:=hm.1 u hu
        rw [zb5] at this
        omega
       ·exact e
 exact key l m hl.pair hm.pair h
theorem zo1 {dv:DecidableEq Val} {d d':Array VE} (hp:Go.Sort.PermIn 0 d.size d d') (hs:Go.Sort.SortedIn (Go.Proofs.ltOf VE.cf) 0 d.size d') (hm:∀ u∈d.toList.map VE.val,mayP u 0=true):
 Rise (Go.Lib.compactUpTo (zcd d') d'.size)∧∀ u,u∈Go.Lib.compactUpTo (zcd d') d'.size↔u∈d.toList.map VE.val:=by
 obtain ⟨hz,hq⟩:=zcv hp
 have hin:∀ j,j < d'.size→(zcd d')[j]!∈d.toList.map VE.val:=fun j hj=>by
  rw [zb4 d' j hj]
  refine List.mem_map.2 ⟨d'[j]!,?_,rfl⟩
  rw [← hq.mem_iff,getElem!_pos d' j hj]
  exact Array.getElem_mem_toList hj
 have hle:∀ i j,i < j→j < d'.size→zan 1 (zcd d')[i]! (zcd d')[j]!≤0:=fun i j hij hj=>by
  rw [zb4 d' j hj,zb4 d' i (by omega)]
  have q:¬ zan 1 d'[j]!.val d'[i]!.val < 0:=of_decide_eq_false (hs i j (Nat.zero_le _) hij (by omega))
  have e:=zbb 1 d'[i]!.val d'[j]!.val
  omega
 constructor
 ·refine Rise.of_pair (zh5 _ _ _ fun i j hij hj hne=>?_)
  have hstep:zan 1 (zcd d')[j - 1]! (zcd d')[j]! < 0:=by
   have q:=hle (j - 1) j (by omega) hj
   by_cases z:zan 1 (zcd d')[j - 1]! (zcd d')[j]! =0
   ·have hsame:=zc5 1 _ _ 0 0 (hm _ (hin (j - 1) (by omega))) (hm _ (hin j hj)) z
    rw [zb4 d' j hj,zb4 d' (j - 1) (by omega)] at hsame hne
    exact absurd ((VE.same_eq _ _).1 hsame).symm hne
   ·omega
  by_cases e:i=j - 1
  ·subst e;exact hstep
  ·exact (zb6 1 _ _ _).tl (hle i (j - 1) (by omega) (by omega)) hstep
 ·intro u
  constructor
  ·intro hu
   obtain ⟨j,hj,rfl⟩:=zme _ _ _ hu
   exact hin j hj
  ·intro hu
   obtain ⟨e,he,rfl⟩:=List.mem_map.1 hu
   have he2:e∈d'.toList:=hq.mem_iff.2 he
   obtain ⟨j,hj,rfl⟩:=List.getElem_of_mem he2
   have hj':j < d'.size:=by simpa using hj
   have:=zfj (zcd d') d'.size j hj'
   rwa [zb4 d' j hj',getElem!_pos d' j hj',← Array.getElem_toList] at this
end Go.Proofs.YtanbgdhmfjgihaaGreatDoor
