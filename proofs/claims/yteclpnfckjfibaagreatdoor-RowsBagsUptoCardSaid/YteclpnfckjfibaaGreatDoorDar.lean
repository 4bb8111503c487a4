/- Texts of one kind, one behind the other: each says ahead of itself what it shows. -/
import Derived.Test.YteclpnfckjfibaaGreatDoorDal
import Derived.Test.YteclpnfckjfibaaGreatDoorDac
import Derived.Test.YteclpnfckjfibaaGreatDoorDad
import Derived.Shelf.Small.Strs
namespace Go.Proofs.YteclpnfckjfibaaGreatDoor
open Go.RowKit
set_option maxHeartbeats 12800000
set_option maxRecDepth 20000
theorem z4b (lang k:Int) (b:Bool) (n:Int) (t x:ByteArray) (p:Option Addr) (len cap:Nat) (w:World):
 Calls Tryz.prog 205 #[.int .i64 lang,.agg #[.int .i64 k,.bool b,.int .i64 n,.string t,.string x,.slice p len cap]] w fun e w'=>e=.returned (.int .i64 (zbq lang k))∧Low w.heap.size w w':=by
 have S:=zaj (k:=k) (b:=b) (n:=n) (t:=t) (x:=x) (p:=p) (len:=len) (cap:=cap) w rfl
 have b0:=low1 w (.cells #[.int .i64 k,.bool b,.int .i64 n,.string t,.string x,.slice p len cap] 48)
 by_cases h0:k=0
 ·subst h0
  by_cases hl:lang=1
  ·subst hl
   rw [show zbq 1 0=0 from rfl]
   go_enter Tryz.func205,Tryz.ntmps205
   go_wp2_with (first
    |((with_reducible refine zac (.tmp 3) w.heap.size S ?_ ?_ ?_ ?_);rfl;rfl;rfl)
    |(go_at_call 156;(with_reducible refine (zau 0 b n t x _ 164 rfl _).mono ?_);rintro e w2 ⟨rfl,hb2⟩;have b2:=zak b0 hb2 b0.size;clear hb2)
    |(simp only [zje,Result.andThen_ok]))
   go_ret
   exact ⟨rfl,b2⟩
  ·rw [show zbq lang 0=10 by unfold zbq;rw [if_pos rfl,if_neg hl]]
   go_enter Tryz.func205,Tryz.ntmps205
   go_wp2_with (first
    |((with_reducible refine zac (.tmp 3) w.heap.size S ?_ ?_ ?_ ?_);rfl;rfl;rfl)
    |(go_at_call 156;(with_reducible refine (zau 0 b n t x _ 164 rfl _).mono ?_);rintro e w2 ⟨rfl,hb2⟩;have b2:=zak b0 hb2 b0.size;clear hb2)
    |(simp only [zje,Result.andThen_ok]))
   go_ret
   exact ⟨rfl,b2⟩
 by_cases h1:k=1
 ·subst h1
  rw [show zbq lang 1=8 from rfl]
  go_enter Tryz.func205,Tryz.ntmps205
  go_wp2_with (first
   |((with_reducible refine zac (.tmp 3) w.heap.size S ?_ ?_ ?_ ?_);rfl;rfl;rfl)
   |(go_at_call 156;(with_reducible refine (zau 1 b n t x _ 165 rfl _).mono ?_);rintro e w2 ⟨rfl,hb2⟩;have b2:=zak b0 hb2 b0.size;clear hb2)
   |(simp only [zjj,zgh,zgj,zgk,zjk,zjl,zjm,zjn,zgm,Result.andThen_ok]))
  go_ret
  exact ⟨rfl,b2⟩
 by_cases h2:k=2
 ·subst h2
  rw [show zbq lang 2=9 from rfl]
  go_enter Tryz.func205,Tryz.ntmps205
  go_wp2_with (first
   |((with_reducible refine zac (.tmp 3) w.heap.size S ?_ ?_ ?_ ?_);rfl;rfl;rfl)
   |(go_at_call 156;(with_reducible refine (zau 2 b n t x _ 166 rfl _).mono ?_);rintro e w2 ⟨rfl,hb2⟩;have b2:=zak b0 hb2 b0.size;clear hb2)
   |(simp only [znd,zjo,zjp,zjq,zjr,zjs,zne,znf,zng,znh,zjt,Result.andThen_ok]))
  go_ret
  exact ⟨rfl,b2⟩
 by_cases h3:k=3
 ·subst h3
  rw [show zbq lang 3=9 from rfl]
  go_enter Tryz.func205,Tryz.ntmps205
  go_wp2_with (first
   |((with_reducible refine zac (.tmp 3) w.heap.size S ?_ ?_ ?_ ?_);rfl;rfl;rfl)
   |(go_at_call 156;(with_reducible refine (zau 3 b n t x _ 169 rfl _).mono ?_);rintro e w2 ⟨rfl,hb2⟩;have b2:=zak b0 hb2 b0.size;clear hb2)
   |(simp only [zj4,zgz,zg0,zg1,zg2,zg3,zj5,zj6,zj7,zj8,zg4,Result.andThen_ok]))
  go_ret
  exact ⟨rfl,b2⟩
 by_cases h4:k=4
 ·subst h4
  rw [show zbq lang 4=7 from rfl]
  go_enter Tryz.func205,Tryz.ntmps205
  go_wp2_with (first
   |((with_reducible refine zac (.tmp 3) w.heap.size S ?_ ?_ ?_ ?_);rfl;rfl;rfl)
   |(go_at_call 156;(with_reducible refine (zau 4 b n t x _ 170 rfl _).mono ?_);rintro e w2 ⟨rfl,hb2⟩;have b2:=zak b0 hb2 b0.size;clear hb2)
   |(simp only [zj9,zg7,zg8,zka,zkb,zkc,zkd,zha,Result.andThen_ok]))
  go_ret
  exact ⟨rfl,b2⟩
 by_cases h5:k=5
 ·subst h5
  rw [show zbq lang 5=1 from rfl]
  go_enter Tryz.func205,Tryz.ntmps205
  go_wp2_with (first
   |((with_reducible refine zac (.tmp 3) w.heap.size S ?_ ?_ ?_ ?_);rfl;rfl;rfl)
   |(go_at_call 156;(with_reducible refine (zau 5 b n t x _ 174 rfl _).mono ?_);rintro e w2 ⟨rfl,hb2⟩;have b2:=zak b0 hb2 b0.size;clear hb2)
   |(simp only [zhs,zff,Result.andThen_ok]))
  go_ret
  exact ⟨rfl,b2⟩
 by_cases h6:k=6
 ·subst h6
  rw [show zbq lang 6=2 from rfl]
  go_enter Tryz.func205,Tryz.ntmps205
  go_wp2_with (first
   |((with_reducible refine zac (.tmp 3) w.heap.size S ?_ ?_ ?_ ?_);rfl;rfl;rfl)
   |(go_at_call 156;(with_reducible refine (zau 6 b n t x _ 167 rfl _).mono ?_);rintro e w2 ⟨rfl,hb2⟩;have b2:=zak b0 hb2 b0.size;clear hb2)
   |(simp only [zju,zgp,zgs,Result.andThen_ok]))
  go_ret
  exact ⟨rfl,b2⟩
 by_cases h7:k=7
 ·subst h7
  rw [show zbq lang 7=3 from rfl]
  go_enter Tryz.func205,Tryz.ntmps205
  go_wp2_with (first
   |((with_reducible refine zac (.tmp 3) w.heap.size S ?_ ?_ ?_ ?_);rfl;rfl;rfl)
   |(go_at_call 156;(with_reducible refine (zau 7 b n t x _ 168 rfl _).mono ?_);rintro e w2 ⟨rfl,hb2⟩;have b2:=zak b0 hb2 b0.size;clear hb2)
   |(simp only [zjz,zgv,zgw,zgy,Result.andThen_ok]))
  go_ret
  exact ⟨rfl,b2⟩
 by_cases h8:k=8
 ·subst h8
  rw [show zbq lang 8=5 from rfl]
  go_enter Tryz.func205,Tryz.ntmps205
  go_wp2_with (first
   |((with_reducible refine zac (.tmp 3) w.heap.size S ?_ ?_ ?_ ?_);rfl;rfl;rfl)
   |(go_at_call 156;(with_reducible refine (zau 8 b n t x _ 171 rfl _).mono ?_);rintro e w2 ⟨rfl,hb2⟩;have b2:=zak b0 hb2 b0.size;clear hb2)
   |(simp only [zke,zhd,zhe,zkg,zkh,zhg,Result.andThen_ok]))
  go_ret
  exact ⟨rfl,b2⟩
 by_cases h9:k=9
 ·subst h9
  rw [show zbq lang 9=4 from rfl]
  go_enter Tryz.func205,Tryz.ntmps205
  go_wp2_with (first
   |((with_reducible refine zac (.tmp 3) w.heap.size S ?_ ?_ ?_ ?_);rfl;rfl;rfl)
   |(go_at_call 156;(with_reducible refine (zau 9 b n t x _ 172 rfl _).mono ?_);rintro e w2 ⟨rfl,hb2⟩;have b2:=zak b0 hb2 b0.size;clear hb2)
   |(simp only [zkj,zhj,zhk,zkm,zhm,Result.andThen_ok]))
  go_ret
  exact ⟨rfl,b2⟩
 by_cases h10:k=10
 ·subst h10
  rw [show zbq lang 10=6 from rfl]
  go_enter Tryz.func205,Tryz.ntmps205
  go_wp2_with (first
   |((with_reducible refine zac (.tmp 3) w.heap.size S ?_ ?_ ?_ ?_);rfl;rfl;rfl)
   |(go_at_call 156;(with_reducible refine (zau 10 b n t x _ 173 rfl _).mono ?_);rintro e w2 ⟨rfl,hb2⟩;have b2:=zak b0 hb2 b0.size;clear hb2)
   |(simp only [zhn,ze6,ze7,zhp,zhq,zhr,ze9,Result.andThen_ok]))
  go_ret
  exact ⟨rfl,b2⟩
 have hk:zlq k=200:=by unfold zlq;simp [h0,h1,h2,h3,h4,h5,h6,h7,h8,h9,h10]
 rw [show zbq lang k=11 by unfold zbq;simp [h0,h1,h2,h3,h4,h5,h6,h7,h8,h9,h10]]
 go_enter Tryz.func205,Tryz.ntmps205
 go_wp2_with (first
  |((with_reducible refine zac (.tmp 3) w.heap.size S ?_ ?_ ?_ ?_);rfl;rfl;rfl)
  |(go_at_call 156;(with_reducible refine (zau k b n t x _ 200 hk.symm _).mono ?_);rintro e w2 ⟨rfl,hb2⟩;have b2:=zak b0 hb2 b0.size;clear hb2)
  |(simp only [zni,zko,zkp,zkq,zkr,zks,znj,znk,znl,znm,zkt,Result.andThen_ok]))
 go_ret
 exact ⟨rfl,b2⟩
theorem zse (a b:Bool) (w:World):Calls Tryz.prog 230 #[.bool a,.bool b] w fun e w'=>e=.returned (.int .i64 (zqj a b))∧w'=w:=by
 cases a <;> cases b
 all_goals
  go_enter Tryz.func230,Tryz.ntmps230
  go_wp2_with fail
  go_ret
  exact ⟨rfl,rfl⟩
theorem zic:(l m:List UInt8)→Lib.compareBytes l m=zal l m
 | [],[]=>by rfl
 | [],_::_=>by unfold Lib.compareBytes zal;rfl
 | _::_,[]=>by unfold Lib.compareBytes zal;rfl
 | a::x,b::y=>by
   unfold Lib.compareBytes
   rw [zic x y]
   unfold zal
   rw [show Op.bytesLess (a::x) (b::y)=(decide (a < b) || (a == b && Op.bytesLess x y)) from rfl,show Op.bytesLess (b::y) (a::x)=(decide (b < a) || (b == a && Op.bytesLess y x)) from rfl]
   by_cases h:a < b
   ·simp [h]
   ·by_cases g:b < a
    ·have e:a≠b:=by
      intro e
      subst e
      exact h g
     simp [h,g,e]
    ·have e:a=b:=by
      rw [UInt8.lt_iff_toNat_lt] at h g
      exact UInt8.toNat_inj.1 (by omega)
     subst e
     simp [h]
def Tryz.lays106_ren:Go.Shelf.Ren:=⟨fun | 106=>233 | 213=>259 | 265=>275 | n=>n,fun | n=>n,fun | n=>n⟩
theorem Tryz.lays106:Go.Proofs.Lays.n106 Tryz.prog Tryz.lays106_ren:={
 mixed:=by kernel_rfl
 f106:=Tryz.func233.trans (congrArg some (by kernel_rfl))
 f213:=Tryz.func259.trans (congrArg some (by kernel_rfl))
 f265:=Tryz.func275.trans (congrArg some (by kernel_rfl))
 t3:=Tryz.underlying3
 a3:=Tryz.isAgg3
 z3:=Tryz.sizeOf3
 v3:=Tryz.zeroValue3
 t9:=Tryz.underlying9
 a9:=Tryz.isAgg9
 z9:=Tryz.sizeOf9
 v9:=Tryz.zeroValue9 }
theorem zc5 (a b:ByteArray) (w:World):Calls Tryz.prog 233 #[.string a,.string b] w fun e w'=>e=.returned (.int .i64 (zal a.toList b.toList))∧w'=w:=by
 rw [zk3,zk3,← zic]
 exact Any.strings_Compare Tryz.lays106 a b w
theorem orAt (c d:Int) (g:Nat) (w:World) (h0:w.cell? ⟨g,0,none⟩=some (.int .i64 c)) (h1:w.cell? ⟨g,1,none⟩=some (.int .i64 d)):
 Calls Tryz.prog 232 #[.slice (some ⟨g,0,none⟩) 2 2] w fun e w'=>e=.returned (.int .i64 (lexI c d))∧w'=w:=by
 obtain ⟨r,hr⟩:∃ r,r=lexI c d:=⟨_,rfl⟩
 rw [← hr]
 have HR:=Lib.hid hr
 clear hr
 go_enter Tryz.func232,Tryz.ntmps232
 go_wp2_with fail
 go_loopw [8] (fun i wr=>wr=w∧∃ j:Nat,i=.int .i64 j∧(j=0∨(j=1∧c=0)∨(j=2∧c=0∧d=0))) (fun i _=>2 - (intOf i).toNat)
 case atStart=>exact ⟨rfl,0,rfl,.inl rfl⟩
 case round=>
  obtain ⟨rfl,j,rfl,rfl | ⟨rfl,hc⟩ | ⟨rfl,hc,hd⟩⟩:=hrel
  ·by_cases hc:c=0
   ·have e2:(c != 0)=false:=by simp [hc]
    go_wp2_with fail
    go_roundw
    case rel=>exact ⟨trivial,1,by go_num,.inr (.inl ⟨rfl,hc⟩)⟩
    case measure=>simp [intOf]
   ·have e2:(c != 0)=true:=by simpa using hc
    go_wp2_with fail
    go_ret
    exact ⟨by rw [HR.out,lexI,if_neg hc];rfl,rfl⟩
  ·by_cases hd:d=0
   ·have e2:(d != 0)=false:=by simp [hd]
    go_wp2_with fail
    go_roundw
    case rel=>exact ⟨trivial,2,by go_num,.inr (.inr ⟨rfl,hc,hd⟩)⟩
    case measure=>simp [intOf]
   ·have e2:(d != 0)=true:=by simpa using hd
    go_wp2_with fail
    go_ret
    exact ⟨by rw [HR.out,lexI,if_pos hc];rfl,rfl⟩
  ·go_wp2_with fail
   go_ret
   exact ⟨by rw [HR.out,lexI,if_pos hc,hd];rfl,rfl⟩
theorem zz8 (k:Int) (b:Bool) (n:Int) (t x:ByteArray) (p:Option Addr) (len cap:Nat) (k2:Int) (b2:Bool) (n2:Int) (t2 x2:ByteArray) (p2:Option Addr) (len2 cap2:Nat) (w:World) (hG:Gd w) (hT:Tab w) (hf:Fine n t x len) (hf2:Fine n2 t2 x2 len2) (hk:k=2∨k=3) (hk2:k2=2∨k2=3):
 Calls Tryz.prog 231 #[.agg #[.int .i64 k,.bool b,.int .i64 n,.string t,.string x,.slice p len cap],.agg #[.int .i64 k2,.bool b2,.int .i64 n2,.string t2,.string x2,.slice p2 len2 cap2]] w fun e w'=>e=.returned (.int .i64 (lexI (cmpZ (numV k n t) (numV k2 n2 t2)) (lexI (cmpZ k k2) (if k=3 then zal t.toList t2.toList else 0))))∧Low w.heap.size w w':=by
 obtain ⟨W0,hW0⟩:∃ W0,W0=(w.alloc (.cells #[.int .i64 k,.bool b,.int .i64 n,.string t,.string x,.slice p len cap] 48)).alloc (.cells #[.int .i64 k2,.bool b2,.int .i64 n2,.string t2,.string x2,.slice p2 len2 cap2] 48):=⟨_,rfl⟩
 have S4:Six W0 w.heap.size k b n t x p len cap:=by rw [hW0];exact (zaj _ rfl).alloc _
 have S5:Six W0 (w.heap.size+1) k2 b2 n2 t2 x2 p2 len2 cap2:=by rw [hW0];exact zaj _ (by simp)
 have b0:Low w.heap.size w W0:=by rw [hW0];exact low2 _ _ _
 have hN:=fun W (h:Low w.heap.size w W)=>zxx k b n t x p len cap k2 b2 n2 t2 x2 p2 len2 cap2 W (hG.below h.is) (hT.below h.is) hf hf2
 have hB2:=fun W=>znc 2 k b n t x (.slice p len cap) k2 b2 n2 t2 x2 (.slice p2 len2 cap2) W
 have hB3:=fun W=>znc 3 k b n t x (.slice p len cap) k2 b2 n2 t2 x2 (.slice p2 len2 cap2) W
 have hS:=fun W=>zc5 t t2 W
 have H0:=Lib.hid hW0
 clear hf hf2 hG hT hW0
 generalize cmpZ (numV k n t) (numV k2 n2 t2)=c at hN ⊢
 generalize zal t.toList t2.toList=s at hS ⊢
 obtain ⟨r2,hr2⟩:∃ r,r=(k == 2 && k2 == 2):=⟨_,rfl⟩
 obtain ⟨r3,hr3⟩:∃ r,r=(k == 3 && k2 == 3):=⟨_,rfl⟩
 rw [← hr2] at hB2
 rw [← hr3] at hB3
 by_cases hc:c=0
 ·subst hc
  rw [zdu]
  rcases hk with rfl | rfl <;> rcases hk2 with rfl | rfl
  ·obtain rfl:r2=true:=hr2
   obtain rfl:r3=false:=hr3
   rw [show lexI (cmpZ 2 2) (if (2:Int)=3 then s else 0)=0 from rfl]
   go_enter Tryz.func231,Tryz.ntmps231
   go_wp2_with (first
    |(rw [← H0.out];(with_reducible refine zac (.tmp 2) w.heap.size S4 ?_ ?_ ?_ ?_);rfl;rfl;rfl)
    |((with_reducible refine zac (.tmp 2) w.heap.size S4 ?_ ?_ ?_ ?_);rfl;rfl;rfl)
    |((with_reducible refine zac (.tmp 3) (w.heap.size+1) S5 ?_ ?_ ?_ ?_);rfl;rfl;rfl)
    |((with_reducible refine zas (.tmp 2) w.heap.size S4 ?_ ?_ ?_ ?_);rfl;rfl;rfl)
    |((with_reducible refine zas (.tmp 3) (w.heap.size+1) S5 ?_ ?_ ?_ ?_);rfl;rfl;rfl)
    |(go_at_call 257;(with_reducible refine (hN _ b0).mono ?_);rintro e w' ⟨rfl,hb⟩;replace S4:=S4.below hb.is;replace S5:=S5.below hb.is;replace b0:=zak b0 hb b0.size;have f3:=S4.c3;have g3:=S5.c3;have f0:=S4.c0;clear hb)
    |(go_at_call 258;(with_reducible refine (hB2 _).mono ?_);rintro e w' ⟨rfl,hb⟩;replace S4:=S4.below hb.is;replace S5:=S5.below hb.is;replace b0:=zak b0 hb b0.size;have f3:=S4.c3;have g3:=S5.c3;have f0:=S4.c0;clear hb)
    |(go_at_call 258;(with_reducible refine (hB3 _).mono ?_);rintro e w' ⟨rfl,hb⟩;replace S4:=S4.below hb.is;replace S5:=S5.below hb.is;replace b0:=zak b0 hb b0.size;have f3:=S4.c3;have g3:=S5.c3;have f0:=S4.c0;clear hb)
    |(go_at_call 233;(with_reducible refine (hS _).mono ?_);rintro e w' ⟨rfl,rfl⟩))
   go_ret
   exact ⟨rfl,b0⟩
  ·obtain rfl:r2=false:=hr2
   obtain rfl:r3=false:=hr3
   rw [show lexI (cmpZ 2 3) (if (2:Int)=3 then s else 0)=-1 from rfl]
   go_enter Tryz.func231,Tryz.ntmps231
   go_wp2_with (first
    |(rw [← H0.out];(with_reducible refine zac (.tmp 2) w.heap.size S4 ?_ ?_ ?_ ?_);rfl;rfl;rfl)
    |((with_reducible refine zac (.tmp 2) w.heap.size S4 ?_ ?_ ?_ ?_);rfl;rfl;rfl)
    |((with_reducible refine zac (.tmp 3) (w.heap.size+1) S5 ?_ ?_ ?_ ?_);rfl;rfl;rfl)
    |((with_reducible refine zas (.tmp 2) w.heap.size S4 ?_ ?_ ?_ ?_);rfl;rfl;rfl)
    |((with_reducible refine zas (.tmp 3) (w.heap.size+1) S5 ?_ ?_ ?_ ?_);rfl;rfl;rfl)
    |(go_at_call 257;(with_reducible refine (hN _ b0).mono ?_);rintro e w' ⟨rfl,hb⟩;replace S4:=S4.below hb.is;replace S5:=S5.below hb.is;replace b0:=zak b0 hb b0.size;have f3:=S4.c3;have g3:=S5.c3;have f0:=S4.c0;clear hb)
    |(go_at_call 258;(with_reducible refine (hB2 _).mono ?_);rintro e w' ⟨rfl,hb⟩;replace S4:=S4.below hb.is;replace S5:=S5.below hb.is;replace b0:=zak b0 hb b0.size;have f3:=S4.c3;have g3:=S5.c3;have f0:=S4.c0;clear hb)
    |(go_at_call 258;(with_reducible refine (hB3 _).mono ?_);rintro e w' ⟨rfl,hb⟩;replace S4:=S4.below hb.is;replace S5:=S5.below hb.is;replace b0:=zak b0 hb b0.size;have f3:=S4.c3;have g3:=S5.c3;have f0:=S4.c0;clear hb)
    |(go_at_call 233;(with_reducible refine (hS _).mono ?_);rintro e w' ⟨rfl,rfl⟩))
   go_ret
   exact ⟨rfl,b0⟩
  ·obtain rfl:r2=false:=hr2
   obtain rfl:r3=false:=hr3
   rw [show lexI (cmpZ 3 2) (if (3:Int)=3 then s else 0)=1 from rfl]
   go_enter Tryz.func231,Tryz.ntmps231
   go_wp2_with (first
    |(rw [← H0.out];(with_reducible refine zac (.tmp 2) w.heap.size S4 ?_ ?_ ?_ ?_);rfl;rfl;rfl)
    |((with_reducible refine zac (.tmp 2) w.heap.size S4 ?_ ?_ ?_ ?_);rfl;rfl;rfl)
    |((with_reducible refine zac (.tmp 3) (w.heap.size+1) S5 ?_ ?_ ?_ ?_);rfl;rfl;rfl)
    |((with_reducible refine zas (.tmp 2) w.heap.size S4 ?_ ?_ ?_ ?_);rfl;rfl;rfl)
    |((with_reducible refine zas (.tmp 3) (w.heap.size+1) S5 ?_ ?_ ?_ ?_);rfl;rfl;rfl)
    |(go_at_call 257;(with_reducible refine (hN _ b0).mono ?_);rintro e w' ⟨rfl,hb⟩;replace S4:=S4.below hb.is;replace S5:=S5.below hb.is;replace b0:=zak b0 hb b0.size;have f3:=S4.c3;have g3:=S5.c3;have f0:=S4.c0;clear hb)
    |(go_at_call 258;(with_reducible refine (hB2 _).mono ?_);rintro e w' ⟨rfl,hb⟩;replace S4:=S4.below hb.is;replace S5:=S5.below hb.is;replace b0:=zak b0 hb b0.size;have f3:=S4.c3;have g3:=S5.c3;have f0:=S4.c0;clear hb)
    |(go_at_call 258;(with_reducible refine (hB3 _).mono ?_);rintro e w' ⟨rfl,hb⟩;replace S4:=S4.below hb.is;replace S5:=S5.below hb.is;replace b0:=zak b0 hb b0.size;have f3:=S4.c3;have g3:=S5.c3;have f0:=S4.c0;clear hb)
    |(go_at_call 233;(with_reducible refine (hS _).mono ?_);rintro e w' ⟨rfl,rfl⟩))
   go_ret
   exact ⟨rfl,b0⟩
  ·obtain rfl:r2=false:=hr2
   obtain rfl:r3=true:=hr3
   rw [show lexI (cmpZ 3 3) (if (3:Int)=3 then s else 0)=s from rfl]
   go_enter Tryz.func231,Tryz.ntmps231
   go_wp2_with (first
    |(rw [← H0.out];(with_reducible refine zac (.tmp 2) w.heap.size S4 ?_ ?_ ?_ ?_);rfl;rfl;rfl)
    |((with_reducible refine zac (.tmp 2) w.heap.size S4 ?_ ?_ ?_ ?_);rfl;rfl;rfl)
    |((with_reducible refine zac (.tmp 3) (w.heap.size+1) S5 ?_ ?_ ?_ ?_);rfl;rfl;rfl)
    |((with_reducible refine zas (.tmp 2) w.heap.size S4 ?_ ?_ ?_ ?_);rfl;rfl;rfl)
    |((with_reducible refine zas (.tmp 3) (w.heap.size+1) S5 ?_ ?_ ?_ ?_);rfl;rfl;rfl)
    |(go_at_call 257;(with_reducible refine (hN _ b0).mono ?_);rintro e w' ⟨rfl,hb⟩;replace S4:=S4.below hb.is;replace S5:=S5.below hb.is;replace b0:=zak b0 hb b0.size;have f3:=S4.c3;have g3:=S5.c3;have f0:=S4.c0;clear hb)
    |(go_at_call 258;(with_reducible refine (hB2 _).mono ?_);rintro e w' ⟨rfl,hb⟩;replace S4:=S4.below hb.is;replace S5:=S5.below hb.is;replace b0:=zak b0 hb b0.size;have f3:=S4.c3;have g3:=S5.c3;have f0:=S4.c0;clear hb)
    |(go_at_call 258;(with_reducible refine (hB3 _).mono ?_);rintro e w' ⟨rfl,hb⟩;replace S4:=S4.below hb.is;replace S5:=S5.below hb.is;replace b0:=zak b0 hb b0.size;have f3:=S4.c3;have g3:=S5.c3;have f0:=S4.c0;clear hb)
    |(go_at_call 233;(with_reducible refine (hS _).mono ?_);rintro e w' ⟨rfl,rfl⟩))
   go_ret
   exact ⟨rfl,b0⟩
 ·rw [show lexI c (lexI (cmpZ k k2) (if k=3 then s else 0))=c from if_neg hc]
  have hc2:(c != 0)=true:=by simpa using hc
  clear hk hk2 hr2 hr3 hc
  go_enter Tryz.func231,Tryz.ntmps231
  go_wp2_with (first
   |(rw [← H0.out];(with_reducible refine zac (.tmp 2) w.heap.size S4 ?_ ?_ ?_ ?_);rfl;rfl;rfl)
   |((with_reducible refine zac (.tmp 2) w.heap.size S4 ?_ ?_ ?_ ?_);rfl;rfl;rfl)
   |((with_reducible refine zac (.tmp 3) (w.heap.size+1) S5 ?_ ?_ ?_ ?_);rfl;rfl;rfl)
   |((with_reducible refine zas (.tmp 2) w.heap.size S4 ?_ ?_ ?_ ?_);rfl;rfl;rfl)
   |((with_reducible refine zas (.tmp 3) (w.heap.size+1) S5 ?_ ?_ ?_ ?_);rfl;rfl;rfl)
   |(go_at_call 257;(with_reducible refine (hN _ b0).mono ?_);rintro e w' ⟨rfl,hb⟩;replace S4:=S4.below hb.is;replace S5:=S5.below hb.is;replace b0:=zak b0 hb b0.size;have f3:=S4.c3;have g3:=S5.c3;have f0:=S4.c0;clear hb)
   |(go_at_call 258;(with_reducible refine (hB2 _).mono ?_);rintro e w' ⟨rfl,hb⟩;replace S4:=S4.below hb.is;replace S5:=S5.below hb.is;replace b0:=zak b0 hb b0.size;have f3:=S4.c3;have g3:=S5.c3;have f0:=S4.c0;clear hb)
   |(go_at_call 258;(with_reducible refine (hB3 _).mono ?_);rintro e w' ⟨rfl,hb⟩;replace S4:=S4.below hb.is;replace S5:=S5.below hb.is;replace b0:=zak b0 hb b0.size;have f3:=S4.c3;have g3:=S5.c3;have f0:=S4.c0;clear hb)
   |(go_at_call 233;(with_reducible refine (hS _).mono ?_);rintro e w' ⟨rfl,rfl⟩))
  go_ret
  exact ⟨rfl,b0⟩
def zop (v:Val):Prop:=∀ (lang:Int) (W:World) (k:Int) (b:Bool) (n:Int) (t x:ByteArray) (q:List Val) (p:Option Addr) (cap:Nat) (v2:Val) (k2:Int) (b2:Bool) (n2:Int) (t2 x2:ByteArray) (q2:List Val) (p2:Option Addr) (cap2:Nat),
 v=.mk k b n t x q→v2=.mk k2 b2 n2 t2 x2 q2→Gd W→Tab W→Fine n t x q.length→Fine n2 t2 x2 q2.length→Held W (.slice p q.length cap) q→Held W (.slice p2 q2.length cap2) q2→
 Calls Tryz.prog 165 #[.int .i64 lang,.agg #[.int .i64 k,.bool b,.int .i64 n,.string t,.string x,.slice p q.length cap],.agg #[.int .i64 k2,.bool b2,.int .i64 n2,.string t2,.string x2,.slice p2 q2.length cap2]] W
  fun e w'=>e=.returned (.int .i64 (zd8 lang v v2))∧Low W.heap.size W w'
theorem zpn (lang:Int) (l l2:List Val) (j:Nat) (h:j < l.length) (h2:j < l2.length):za5 lang (l.drop j) (l2.drop j)=lexI (zd8 lang l[j] l2[j]) (za5 lang (l.drop (j+1)) (l2.drop (j+1))):=by
 rw [List.drop_eq_getElem_cons h,List.drop_eq_getElem_cons h2,za5]
theorem zpo (lang:Int) (l l2:List Val) (j:Nat) (h:j < l.length) (h2:l2.length≤j):za5 lang (l.drop j) (l2.drop j)=1:=by
 rw [List.drop_eq_getElem_cons h,List.drop_eq_nil_of_le h2,za5]
theorem zog (lang:Int) (l l2:List Val) (h2:l.length < l2.length):za5 lang (l.drop l.length) (l2.drop l.length)=-1:=by
 rw [List.drop_eq_nil_of_le (Nat.le_refl _),List.drop_eq_getElem_cons h2,za5]
theorem zsf (lang:Int) (l l2:List Val) (h2:l2.length≤l.length):za5 lang (l.drop l.length) (l2.drop l.length)=0:=by
 rw [List.drop_eq_nil_of_le (Nat.le_refl _),List.drop_eq_nil_of_le h2,za5]
theorem zws {v:Val} (h:zop v) (lang:Int) (gl:Nat) (W:World) (k:Int) (b:Bool) (n:Int) (t x:ByteArray) (q:List Val) (p:Option Addr) (cap:Nat) (v2:Val) (k2:Int) (b2:Bool) (n2:Int) (t2 x2:ByteArray) (q2:List Val) (p2:Option Addr) (cap2:Nat)
 (e1:v=.mk k b n t x q) (e2:v2=.mk k2 b2 n2 t2 x2 q2) (hG:Gd W) (hT:Tab W) (hf:Fine n t x q.length) (hf2:Fine n2 t2 x2 q2.length) (hl:Held W (.slice p q.length cap) q) (hl2:Held W (.slice p2 q2.length cap2) q2) (hcl:W.cell? ⟨gl,0,none⟩=some (.int .i64 lang)):
 Calls Tryz.prog 228 #[.agg #[.int .i64 k,.bool b,.int .i64 n,.string t,.string x,.slice p q.length cap],.agg #[.int .i64 k2,.bool b2,.int .i64 n2,.string t2,.string x2,.slice p2 q2.length cap2],.pointer (some ⟨gl,0,none⟩)] W
  fun e w'=>e=.returned (.int .i64 (zd8 lang v v2))∧Low W.heap.size W w':=by
 obtain ⟨W0,hW0⟩:∃ W0,W0=(W.alloc (.cells #[.int .i64 k,.bool b,.int .i64 n,.string t,.string x,.slice p q.length cap] 48)).alloc (.cells #[.int .i64 k2,.bool b2,.int .i64 n2,.string t2,.string x2,.slice p2 q2.length cap2] 48):=⟨_,rfl⟩
 have S4:Six W0 W.heap.size k b n t x p q.length cap:=by rw [hW0];exact (zaj _ rfl).alloc _
 have S5:Six W0 (W.heap.size+1) k2 b2 n2 t2 x2 p2 q2.length cap2:=by rw [hW0];exact zaj _ (by simp)
 have b0:Low W.heap.size W W0:=by rw [hW0];exact low2 _ _ _
 have hc0:W0.cell? ⟨gl,0,none⟩=some (.int .i64 lang):=(b0.cell (p:=⟨gl,0,none⟩) (World.block_lt_of_cell? W _ hcl)).trans hcl
 have hc:=h lang W0 k b n t x q p cap v2 k2 b2 n2 t2 x2 q2 p2 cap2 e1 e2 (hG.below b0.is) (hT.below b0.is) hf hf2 (Held.below q hl b0.is) (Held.below q2 hl2 b0.is)
 have hc00:=hc0
 rw [hW0] at hc00
 have z0:=b0.size
 have H0:=Lib.hid hW0
 clear hl hl2 hf hf2 hG hT hW0 e1 e2 h hcl
 generalize zd8 lang v v2=r at hc ⊢
 go_enter Tryz.func228,Tryz.ntmps228
 go_wp2_with (first
  |(rw [← H0.out];(with_reducible refine zac (.tmp 3) W.heap.size S4 ?_ ?_ ?_ ?_);rfl;rfl;rfl)
  |((with_reducible refine zac (.tmp 3) W.heap.size S4 ?_ ?_ ?_ ?_);rfl;rfl;rfl)
  |((with_reducible refine zac (.tmp 4) (W.heap.size+1) S5 ?_ ?_ ?_ ?_);rfl;rfl;rfl)
  |(go_at_call 165;(with_reducible refine hc.mono ?_);rintro e w3 ⟨rfl,hb3⟩;replace b0:=zak b0 hb3 z0))
 go_ret
 exact ⟨rfl,b0⟩
theorem zpp (lang:Int) (p p2:Option Addr) (l2:List Val) (cap cap2:Nat) (F:Value) (w:World):
 Calls Tryz.prog 107 #[.slice p 0 cap,.slice p2 l2.length cap2,F] w fun e w'=>e=.returned (.int .i64 (za5 lang [] l2))∧Low w.heap.size w w':=by
 cases l2 with
 | nil=>
   rw [show za5 lang [] []=0 from by unfold za5;rfl,List.length_nil]
   go_enter Tryz.func107,Tryz.ntmps107
   go_wp2_with fail
   go_loopw [13] (fun i wr=>i=.int .i64 0∧wr=w) (fun _ _=>0)
   case atStart=>exact ⟨rfl,rfl⟩
   case round=>
    obtain ⟨rfl,rfl⟩:=hrel
    go_wp2_with fail
    go_ret
    exact ⟨rfl,Low.refl _ _⟩
 | cons v r=>
   rw [show za5 lang [] (v::r)=-1 from by unfold za5;rfl,List.length_cons]
   go_enter Tryz.func107,Tryz.ntmps107
   go_wp2_with fail
   go_loopw [13] (fun i wr=>i=.int .i64 0∧wr=w) (fun _ _=>0)
   case atStart=>exact ⟨rfl,rfl⟩
   case round=>
    obtain ⟨rfl,rfl⟩:=hrel
    go_wp2_with fail
    go_ret
    exact ⟨rfl,Low.refl _ _⟩
theorem zoh (lang:Int) (gl:Nat) (l l2:List Val) (g off cap:Nat) (P2:Option Addr) (g2 off2 cap2:Nat) (w:World) (hG:Gd w) (hT:Tab w) (hcl:w.cell? ⟨gl,0,none⟩=some (.int .i64 lang)) (hl:zbp w g off l) (hl2:zbp w g2 off2 l2)
 (hP2:0 < l2.length→P2=some ⟨g2,off2,none⟩) (hn:l.length≤2097152) (hn2:l2.length≤2097152) (each:∀ v∈l,zop v):
 Calls Tryz.prog 107 #[.slice (some ⟨g,off,none⟩) l.length cap,.slice P2 l2.length cap2,.func (.func 228) #[] #[.pointer (some ⟨gl,0,none⟩)]] w fun e w'=>e=.returned (.int .i64 (za5 lang l l2))∧Low w.heap.size w w':=by
 have HH:=Lib.hid hl
 have HH2:=Lib.hid hl2
 have HE:=Lib.hid each
 have HP:=Lib.hid hP2
 clear hl hl2 each hP2
 go_enter Tryz.func107,Tryz.ntmps107
 go_wp2_with fail
 go_loopw [13] (fun i wr=>∃ j:Nat,j≤l.length∧i=.int .i64 j∧Low w.heap.size w wr∧Hid (za5 lang l l2=za5 lang (l.drop j) (l2.drop j))) (fun i _=>l.length - (intOf i).toNat)
 case atStart=>exact ⟨0,Nat.zero_le _,rfl,Low.refl _ _,Lib.hid (by rw [List.drop_zero,List.drop_zero])⟩
 case round=>
  obtain ⟨j,hj,rfl,hb,HA⟩:=hrel
  by_cases hlt:j < l.length
  ·obtain ⟨k,b,n,t,x,q,p,cp,o1⟩:=((zbp.at_ l off HH.out j hlt).below _ hb.is).opens
   have hs:w.heap.size≤wr.heap.size:=hb.size
   by_cases hlt2:j < l2.length
   ·obtain rfl:=HP.out (by omega)
    obtain ⟨k2,b2,n2,t2,x2,q2,p2,cp2,o2⟩:=((zbp.at_ l2 off2 HH2.out j hlt2).below _ hb.is).opens
    obtain ⟨c1,hc1⟩:∃ c1,c1=Obj.cells #[.int .i64 k,.bool b,.int .i64 n,.string t,.string x,.slice p q.length cp] 48:=⟨_,rfl⟩
    obtain ⟨c2,hc2⟩:∃ c2,c2=Obj.cells #[.int .i64 k2,.bool b2,.int .i64 n2,.string t2,.string x2,.slice p2 q2.length cp2] 48:=⟨_,rfl⟩
    have bb:=low2 wr c1 c2
    have b0:Low w.heap.size w ((wr.alloc c1).alloc c2):=(hb.alloc hs _).alloc (by simp;omega) _
    have hcl2:((wr.alloc c1).alloc c2).cell? ⟨gl,0,none⟩=some (.int .i64 lang):=(b0.cell (p:=⟨gl,0,none⟩) (World.block_lt_of_cell? w _ hcl)).trans hcl
    have hc:=zws (HE.out l[j] (List.getElem_mem hlt)) lang gl ((wr.alloc c1).alloc c2) k b n t x q p cp l2[j] k2 b2 n2 t2 x2 q2 p2 cp2 o1.e o2.e (hG.below b0.is) (hT.below b0.is) o1.hf o2.hf (Held.below q o1.hl bb.is) (Held.below q2 o2.hl bb.is) hcl2
    obtain ⟨r,hr⟩:∃ r,r=zd8 lang l[j] l2[j]:=⟨_,rfl⟩
    rw [← hr] at hc
    have hA:=HA.out
    rw [zpn lang l l2 j hlt hlt2,← hr] at hA
    have l0:Six ((wr.alloc c1).alloc c2) wr.heap.size k b n t x p q.length cp:=by rw [hc1];exact (zaj _ rfl).alloc _
    have l1:Six ((wr.alloc c1).alloc c2) (wr.heap.size+1) k2 b2 n2 t2 x2 p2 q2.length cp2:=by rw [hc2];exact zaj _ (by simp)
    have z0:w.heap.size≤((wr.alloc c1).alloc c2).heap.size:=b0.size
    have O1:=Lib.hid o1
    have O2:=Lib.hid (o2.below (low1 wr c1).is)
    clear o1 o2 bb hr HA hcl2
    by_cases hr0:r=0
    ·subst hr0
     rw [zdu] at hA
     have HA:=Lib.hid hA
     clear hA
     subst hc1 hc2
     go_wp2_with (first
      |((with_reducible refine zax (.tmp 16) g (off+j*6) k b n t x (.slice p q.length cp) O1.out.c0 O1.out.c1 O1.out.c2 O1.out.c3 O1.out.c4 O1.out.c5 ?_ ?_ ?_ ?_);rfl;rfl;rfl)
      |((with_reducible refine zax (.tmp 24) g2 (off2+j*6) k2 b2 n2 t2 x2 (.slice p2 q2.length cp2) O2.out.c0 O2.out.c1 O2.out.c2 O2.out.c3 O2.out.c4 O2.out.c5 ?_ ?_ ?_ ?_);rfl;rfl;rfl)
      |((with_reducible refine zac (.tmp 8) wr.heap.size l0 ?_ ?_ ?_ ?_);rfl;rfl;rfl)
      |((with_reducible refine zac (.tmp 9) (wr.heap.size+1) l1 ?_ ?_ ?_ ?_);rfl;rfl;rfl)
      |(go_at_call 228;(with_reducible refine hc.mono ?_);rintro e w3 ⟨rfl,hb3⟩;have b3:=zak b0 hb3 z0))
     go_roundw
     case rel=>exact ⟨j+1,by omega,by go_num,b3,HA⟩
     case measure=>simp [intOf];omega
    ·have e:lexI r (za5 lang (l.drop (j+1)) (l2.drop (j+1)))=r:=by unfold lexI;rw [if_neg hr0]
     rw [e] at hA
     have HA:=Lib.hid hA
     have e2:(r != 0)=true:=by simpa using hr0
     clear hA e
     subst hc1 hc2
     go_wp2_with (first
      |((with_reducible refine zax (.tmp 16) g (off+j*6) k b n t x (.slice p q.length cp) O1.out.c0 O1.out.c1 O1.out.c2 O1.out.c3 O1.out.c4 O1.out.c5 ?_ ?_ ?_ ?_);rfl;rfl;rfl)
      |((with_reducible refine zax (.tmp 24) g2 (off2+j*6) k2 b2 n2 t2 x2 (.slice p2 q2.length cp2) O2.out.c0 O2.out.c1 O2.out.c2 O2.out.c3 O2.out.c4 O2.out.c5 ?_ ?_ ?_ ?_);rfl;rfl;rfl)
      |((with_reducible refine zac (.tmp 8) wr.heap.size l0 ?_ ?_ ?_ ?_);rfl;rfl;rfl)
      |((with_reducible refine zac (.tmp 9) (wr.heap.size+1) l1 ?_ ?_ ?_ ?_);rfl;rfl;rfl)
      |(go_at_call 228;(with_reducible refine hc.mono ?_);rintro e w3 ⟨rfl,hb3⟩;have b3:=zak b0 hb3 z0))
     go_ret
     exact ⟨by rw [HA.out];rfl,b3⟩
   ·have hA:=HA.out
    rw [zpo lang l l2 j hlt (by omega)] at hA
    have HA2:=Lib.hid hA
    have O1:=Lib.hid o1
    have b0:Low w.heap.size w (wr.alloc (.cells #[.int .i64 k,.bool b,.int .i64 n,.string t,.string x,.slice p q.length cp] 48)):=hb.alloc hs _
    clear hA HA o1
    go_wp2_with (first
     |((with_reducible refine zax (.tmp 16) g (off+j*6) k b n t x (.slice p q.length cp) O1.out.c0 O1.out.c1 O1.out.c2 O1.out.c3 O1.out.c4 O1.out.c5 ?_ ?_ ?_ ?_);rfl;rfl;rfl))
    go_ret
    exact ⟨by rw [HA2.out];rfl,b0⟩
  ·obtain rfl:j=l.length:=by omega
   have hA:=HA.out
   by_cases hs:l.length < l2.length
   ·rw [zog lang l l2 hs] at hA
    have HA2:=Lib.hid hA
    clear hA HA
    go_wp2_with fail
    go_ret
    exact ⟨by rw [HA2.out];rfl,hb⟩
   ·rw [zsf lang l l2 (by omega)] at hA
    have HA2:=Lib.hid hA
    clear hA HA
    go_wp2_with fail
    go_ret
    exact ⟨by rw [HA2.out];rfl,hb⟩
theorem zz9 (lang:Int) (gl:Nat) (l l2:List Val) (p p2:Option Addr) (cap cap2:Nat) (w:World) (hG:Gd w) (hT:Tab w) (hcl:w.cell? ⟨gl,0,none⟩=some (.int .i64 lang)) (hl:Held w (.slice p l.length cap) l) (hl2:Held w (.slice p2 l2.length cap2) l2) (hn:l.length≤2097152) (hn2:l2.length≤2097152) (each:∀ v∈l,zop v):
 Calls Tryz.prog 107 #[.slice p l.length cap,.slice p2 l2.length cap2,.func (.func 228) #[] #[.pointer (some ⟨gl,0,none⟩)]] w fun e w'=>e=.returned (.int .i64 (za5 lang l l2))∧Low w.heap.size w w':=by
 cases l with
 | nil=>exact zpp lang p p2 l2 cap cap2 _ w
 | cons v r=>
   obtain ⟨g,off,rfl,hh⟩:=hl.form
   cases l2 with
   | nil=>exact zoh lang gl (v::r) [] g off cap p2 0 0 cap2 w hG hT hcl hh (by unfold zbp;trivial) (fun h=>absurd h (by simp)) hn hn2 each
   | cons v2 r2=>
     obtain ⟨g2,off2,rfl,hh2⟩:=hl2.form
     exact zoh lang gl (v::r) (v2::r2) g off cap _ g2 off2 cap2 w hG hT hcl hh hh2 (fun _=>rfl) hn hn2 each
theorem ztq (lang k:Int) (b:Bool) (n:Int) (t x:ByteArray) (q:List Val) (p:Option Addr) (cap:Nat) (k2:Int) (b2:Bool) (n2:Int) (t2 x2:ByteArray) (q2:List Val) (p2:Option Addr) (cap2:Nat) (w:World) (hk0:k=0):
 Calls Tryz.prog 206 #[.int .i64 lang,.agg #[.int .i64 k,.bool b,.int .i64 n,.string t,.string x,.slice p q.length cap],.agg #[.int .i64 k2,.bool b2,.int .i64 n2,.string t2,.string x2,.slice p2 q2.length cap2]] w fun e w'=>e=.returned (.int .i64 (lexI (zal t.toList t2.toList) (zal x.toList x2.toList)))∧Low w.heap.size w w':=by
 obtain ⟨W0,hW0⟩:∃ W0,W0=((w.alloc (.cells #[.int .i64 lang] 3)).alloc (.cells #[.int .i64 k,.bool b,.int .i64 n,.string t,.string x,.slice p q.length cap] 48)).alloc (.cells #[.int .i64 k2,.bool b2,.int .i64 n2,.string t2,.string x2,.slice p2 q2.length cap2] 48):=⟨_,rfl⟩
 have S4:Six W0 (w.heap.size+1) k b n t x p q.length cap:=by rw [hW0];exact (zaj _ (by simp)).alloc _
 have S5:Six W0 (w.heap.size+2) k2 b2 n2 t2 x2 p2 q2.length cap2:=by rw [hW0];exact zaj _ (by simp)
 have b0:Low w.heap.size w W0:=by rw [hW0];exact low3 _ _ _ _
 have c0:W0.cell? ⟨w.heap.size,0,none⟩=some (.int .i64 lang):=by
  rw [hW0]
  have e:(w.alloc (.cells #[.int .i64 lang] 3)).cell? ⟨w.heap.size,0,none⟩=some (.int .i64 lang):=zad (zaf _ _ rfl) _ rfl
  exact ((low2 _ _ _).cell (p:=⟨w.heap.size,0,none⟩) (by simp)).trans e
 have H0:=Lib.hid hW0
 clear hW0
 subst hk0
 go_enter Tryz.func206,Tryz.ntmps206
 go_wp2_with (first
  |(rw [← H0.out];(with_reducible refine zac (.tmp 4) (w.heap.size+1) S4 ?_ ?_ ?_ ?_);rfl;rfl;rfl)
  |((with_reducible refine zac (.tmp 4) (w.heap.size+1) S4 ?_ ?_ ?_ ?_);rfl;rfl;rfl)
  |((with_reducible refine zac (.tmp 5) (w.heap.size+2) S5 ?_ ?_ ?_ ?_);rfl;rfl;rfl)
  |(go_at_call 156;(with_reducible refine (zau 0 b n t x _ 164 rfl _).mono ?_);rintro e w' ⟨rfl,hb⟩;replace S4:=S4.below hb.is;replace S5:=S5.below hb.is;replace c0:=(hb.cell (p:=⟨w.heap.size,0,none⟩) (World.block_lt_of_cell? _ _ c0)).trans c0;replace b0:=zak b0 hb b0.size;have f1:=S4.c1;have f2:=S4.c2;have f5:=S4.c5;have g1:=S5.c1;have g2:=S5.c2;have g5:=S5.c5;clear hb)
  |(simp only [zgg,zgd,zge,zgb,zgc,zgf,Result.andThen_ok]))
 obtain ⟨N,hN⟩:∃ N,N=w'.heap.size:=⟨_,rfl⟩
 refine wp_region_held_drew (S:=fun w'=>Six w' (w.heap.size+1) 0 b n t x p q.length cap∧Six w' (w.heap.size+2) k2 b2 n2 t2 x2 p2 q2.length cap2∧Low w.heap.size w w'∧Hid (N < w'.heap.size→w'.cell? ⟨N,0,none⟩=some (.int .i64 (zal t.toList t2.toList))∧w'.cell? ⟨N,1,none⟩=some (.int .i64 (zal x.toList x2.toList)))) (by kernel_rfl) ⟨S4,S5,b0.drew,Lib.hid fun h=>absurd h (by rw [hN];exact Nat.lt_irrefl _)⟩ (fun hHeld=>?_)
 refine tg (i:=0) (.pointer (some ⟨w.heap.size+1,3,none⟩)) rfl hHeld ?_
 refine tk (i:=1) (v:=.string t) rfl (Or.inl ⟨by rfl,fun W h=>by have c0:=h.1.c3;go_simp⟩) hHeld ?_
 refine tg (i:=2) (.pointer (some ⟨w.heap.size+2,3,none⟩)) rfl hHeld ?_
 refine tk (i:=3) (v:=.string t2) rfl (Or.inl ⟨by rfl,fun W h=>by have c0:=h.2.1.c3;go_simp⟩) hHeld ?_
 refine tg (i:=5) (.pointer (some ⟨w.heap.size+1,4,none⟩)) rfl hHeld ?_
 refine tk (i:=6) (v:=.string x) rfl (Or.inl ⟨by rfl,fun W h=>by have c0:=h.1.c4;go_simp⟩) hHeld ?_
 refine tg (i:=7) (.pointer (some ⟨w.heap.size+2,4,none⟩)) rfl hHeld ?_
 refine tk (i:=8) (v:=.string x2) rfl (Or.inl ⟨by rfl,fun W h=>by have c0:=h.2.1.c4;go_simp⟩) hHeld ?_
 obtain ⟨u1,u2,u3,u4⟩:=hHeld
 refine tr 4 rfl (fun K hK=>?_)
 rw [if_pos (by rfl)]
 go_simp
 refine (zc5 t t2 _).mono ?_
 rintro e w3 ⟨rfl,rfl⟩
 refine hK.out _ _ ⟨u1,u2,u3,u4⟩ (fun hHeld=>?_)
 clear hK K u1 u2 u3 u4
 try simp only [putS]
 obtain ⟨u1,u2,u3,u4⟩:=hHeld
 refine tr 9 rfl (fun K hK=>?_)
 rw [if_pos (by rfl)]
 go_simp
 refine (zc5 x x2 _).mono ?_
 rintro e w3 ⟨rfl,rfl⟩
 refine hK.out _ _ ⟨u1,u2,u3,u4⟩ (fun hHeld=>?_)
 clear hK K u1 u2 u3 u4
 try simp only [putS]
 obtain ⟨u1,u2,u3,u4⟩:=hHeld
 refine tr 10 rfl (fun K hK=>?_)
 go_simp
 rw [← hN]
 have x4:Six (w'.alloc (Obj.cells #[.int .i64 (zal t.toList t2.toList),.int .i64 (zal x.toList x2.toList)] 3)) (w.heap.size+1) 0 b n t x p q.length cap:=S4.alloc _
 have x5:Six (w'.alloc (Obj.cells #[.int .i64 (zal t.toList t2.toList),.int .i64 (zal x.toList x2.toList)] 3)) (w.heap.size+2) k2 b2 n2 t2 x2 p2 q2.length cap2:=S5.alloc _
 have xb:Low w.heap.size w (w'.alloc (Obj.cells #[.int .i64 (zal t.toList t2.toList),.int .i64 (zal x.toList x2.toList)] 3)).drew:=(b0.alloc b0.size _).drew
 have y0:(w'.alloc (Obj.cells #[.int .i64 (zal t.toList t2.toList),.int .i64 (zal x.toList x2.toList)] 3)).cell? ⟨N,0,none⟩=some (.int .i64 (zal t.toList t2.toList)):=zad (zaf w' _ hN.symm) 0 rfl
 have y1:(w'.alloc (Obj.cells #[.int .i64 (zal t.toList t2.toList),.int .i64 (zal x.toList x2.toList)] 3)).cell? ⟨N,1,none⟩=some (.int .i64 (zal x.toList x2.toList)):=zad (zaf w' _ hN.symm) 1 rfl
 have ys:N < (w'.alloc (Obj.cells #[.int .i64 (zal t.toList t2.toList),.int .i64 (zal x.toList x2.toList)] 3)).drew.heap.size:=by rw [hN];show w'.heap.size < (w'.alloc _).heap.size;simp
 generalize (w'.alloc (Obj.cells #[.int .i64 (zal t.toList t2.toList),.int .i64 (zal x.toList x2.toList)] 3))=V at x4 x5 xb y0 y1 ys ⊢
 clear u1 u2 u3 u4
 refine hK.out _ _ ⟨x4,x5,xb,Lib.hid fun _=>⟨y0,y1⟩⟩ (fun hHeld=>?_)
 clear hK K
 try simp only [putS]
 obtain ⟨u1,u2,u3,u4⟩:=hHeld
 obtain ⟨v0,v1⟩:=u4.out ys
 refine tr 11 rfl (fun K hK=>?_)
 rw [if_pos (by rfl)]
 go_simp
 rw [hN] at v0 v1
 with_reducible refine (orAt _ _ _ _ v0 v1).mono ?_
 rintro e w3 ⟨rfl,rfl⟩
 refine hK.out _ _ ⟨u1,u2,u3,u4⟩ (fun hHeld=>?_)
 clear hK K u1 u2 u4 v0 v1
 try simp only [putS]
 refine tr 12 rfl (fun K hK=>?_)
 go_simp
 refine hK.out _ _ hHeld (fun _=>?_)
 clear hK K hHeld
 try simp only [putS]
 refine wpAnyH_done (by kernel_rfl) ?_ _
 go_wp2_with fail
 go_ret
 exact ⟨rfl,u3⟩
theorem ztr (lang k:Int) (b:Bool) (n:Int) (t x:ByteArray) (q:List Val) (p:Option Addr) (cap:Nat) (k2:Int) (b2:Bool) (n2:Int) (t2 x2:ByteArray) (q2:List Val) (p2:Option Addr) (cap2:Nat) (w:World) (hk0:k=4):
 Calls Tryz.prog 206 #[.int .i64 lang,.agg #[.int .i64 k,.bool b,.int .i64 n,.string t,.string x,.slice p q.length cap],.agg #[.int .i64 k2,.bool b2,.int .i64 n2,.string t2,.string x2,.slice p2 q2.length cap2]] w fun e w'=>e=.returned (.int .i64 (lexI (zal t.toList t2.toList) (zal x.toList x2.toList)))∧Low w.heap.size w w':=by
 obtain ⟨W0,hW0⟩:∃ W0,W0=((w.alloc (.cells #[.int .i64 lang] 3)).alloc (.cells #[.int .i64 k,.bool b,.int .i64 n,.string t,.string x,.slice p q.length cap] 48)).alloc (.cells #[.int .i64 k2,.bool b2,.int .i64 n2,.string t2,.string x2,.slice p2 q2.length cap2] 48):=⟨_,rfl⟩
 have S4:Six W0 (w.heap.size+1) k b n t x p q.length cap:=by rw [hW0];exact (zaj _ (by simp)).alloc _
 have S5:Six W0 (w.heap.size+2) k2 b2 n2 t2 x2 p2 q2.length cap2:=by rw [hW0];exact zaj _ (by simp)
 have b0:Low w.heap.size w W0:=by rw [hW0];exact low3 _ _ _ _
 have c0:W0.cell? ⟨w.heap.size,0,none⟩=some (.int .i64 lang):=by
  rw [hW0]
  have e:(w.alloc (.cells #[.int .i64 lang] 3)).cell? ⟨w.heap.size,0,none⟩=some (.int .i64 lang):=zad (zaf _ _ rfl) _ rfl
  exact ((low2 _ _ _).cell (p:=⟨w.heap.size,0,none⟩) (by simp)).trans e
 have H0:=Lib.hid hW0
 clear hW0
 subst hk0
 go_enter Tryz.func206,Tryz.ntmps206
 go_wp2_with (first
  |(rw [← H0.out];(with_reducible refine zac (.tmp 4) (w.heap.size+1) S4 ?_ ?_ ?_ ?_);rfl;rfl;rfl)
  |((with_reducible refine zac (.tmp 4) (w.heap.size+1) S4 ?_ ?_ ?_ ?_);rfl;rfl;rfl)
  |((with_reducible refine zac (.tmp 5) (w.heap.size+2) S5 ?_ ?_ ?_ ?_);rfl;rfl;rfl)
  |(go_at_call 156;(with_reducible refine (zau 4 b n t x _ 170 rfl _).mono ?_);rintro e w' ⟨rfl,hb⟩;replace S4:=S4.below hb.is;replace S5:=S5.below hb.is;replace c0:=(hb.cell (p:=⟨w.heap.size,0,none⟩) (World.block_lt_of_cell? _ _ c0)).trans c0;replace b0:=zak b0 hb b0.size;have f1:=S4.c1;have f2:=S4.c2;have f5:=S4.c5;have g1:=S5.c1;have g2:=S5.c2;have g5:=S5.c5;clear hb)
  |(simp only [zha,zg7,zg8,zg5,zg6,zg9,Result.andThen_ok]))
 obtain ⟨N,hN⟩:∃ N,N=w'.heap.size:=⟨_,rfl⟩
 refine wp_region_held_drew (S:=fun w'=>Six w' (w.heap.size+1) 4 b n t x p q.length cap∧Six w' (w.heap.size+2) k2 b2 n2 t2 x2 p2 q2.length cap2∧Low w.heap.size w w'∧Hid (N < w'.heap.size→w'.cell? ⟨N,0,none⟩=some (.int .i64 (zal t.toList t2.toList))∧w'.cell? ⟨N,1,none⟩=some (.int .i64 (zal x.toList x2.toList)))) (by kernel_rfl) ⟨S4,S5,b0.drew,Lib.hid fun h=>absurd h (by rw [hN];exact Nat.lt_irrefl _)⟩ (fun hHeld=>?_)
 refine tg (i:=0) (.pointer (some ⟨w.heap.size+1,3,none⟩)) rfl hHeld ?_
 refine tk (i:=1) (v:=.string t) rfl (Or.inl ⟨by rfl,fun W h=>by have c0:=h.1.c3;go_simp⟩) hHeld ?_
 refine tg (i:=2) (.pointer (some ⟨w.heap.size+2,3,none⟩)) rfl hHeld ?_
 refine tk (i:=3) (v:=.string t2) rfl (Or.inl ⟨by rfl,fun W h=>by have c0:=h.2.1.c3;go_simp⟩) hHeld ?_
 refine tg (i:=5) (.pointer (some ⟨w.heap.size+1,4,none⟩)) rfl hHeld ?_
 refine tk (i:=6) (v:=.string x) rfl (Or.inl ⟨by rfl,fun W h=>by have c0:=h.1.c4;go_simp⟩) hHeld ?_
 refine tg (i:=7) (.pointer (some ⟨w.heap.size+2,4,none⟩)) rfl hHeld ?_
 refine tk (i:=8) (v:=.string x2) rfl (Or.inl ⟨by rfl,fun W h=>by have c0:=h.2.1.c4;go_simp⟩) hHeld ?_
 obtain ⟨u1,u2,u3,u4⟩:=hHeld
 refine tr 4 rfl (fun K hK=>?_)
 rw [if_pos (by rfl)]
 go_simp
 refine (zc5 t t2 _).mono ?_
 rintro e w3 ⟨rfl,rfl⟩
 refine hK.out _ _ ⟨u1,u2,u3,u4⟩ (fun hHeld=>?_)
 clear hK K u1 u2 u3 u4
 try simp only [putS]
 obtain ⟨u1,u2,u3,u4⟩:=hHeld
 refine tr 9 rfl (fun K hK=>?_)
 rw [if_pos (by rfl)]
 go_simp
 refine (zc5 x x2 _).mono ?_
 rintro e w3 ⟨rfl,rfl⟩
 refine hK.out _ _ ⟨u1,u2,u3,u4⟩ (fun hHeld=>?_)
 clear hK K u1 u2 u3 u4
 try simp only [putS]
 obtain ⟨u1,u2,u3,u4⟩:=hHeld
 refine tr 10 rfl (fun K hK=>?_)
 go_simp
 rw [← hN]
 have x4:Six (w'.alloc (Obj.cells #[.int .i64 (zal t.toList t2.toList),.int .i64 (zal x.toList x2.toList)] 3)) (w.heap.size+1) 4 b n t x p q.length cap:=S4.alloc _
 have x5:Six (w'.alloc (Obj.cells #[.int .i64 (zal t.toList t2.toList),.int .i64 (zal x.toList x2.toList)] 3)) (w.heap.size+2) k2 b2 n2 t2 x2 p2 q2.length cap2:=S5.alloc _
 have xb:Low w.heap.size w (w'.alloc (Obj.cells #[.int .i64 (zal t.toList t2.toList),.int .i64 (zal x.toList x2.toList)] 3)).drew:=(b0.alloc b0.size _).drew
 have y0:(w'.alloc (Obj.cells #[.int .i64 (zal t.toList t2.toList),.int .i64 (zal x.toList x2.toList)] 3)).cell? ⟨N,0,none⟩=some (.int .i64 (zal t.toList t2.toList)):=zad (zaf w' _ hN.symm) 0 rfl
 have y1:(w'.alloc (Obj.cells #[.int .i64 (zal t.toList t2.toList),.int .i64 (zal x.toList x2.toList)] 3)).cell? ⟨N,1,none⟩=some (.int .i64 (zal x.toList x2.toList)):=zad (zaf w' _ hN.symm) 1 rfl
 have ys:N < (w'.alloc (Obj.cells #[.int .i64 (zal t.toList t2.toList),.int .i64 (zal x.toList x2.toList)] 3)).drew.heap.size:=by rw [hN];show w'.heap.size < (w'.alloc _).heap.size;simp
 generalize (w'.alloc (Obj.cells #[.int .i64 (zal t.toList t2.toList),.int .i64 (zal x.toList x2.toList)] 3))=V at x4 x5 xb y0 y1 ys ⊢
 clear u1 u2 u3 u4
 refine hK.out _ _ ⟨x4,x5,xb,Lib.hid fun _=>⟨y0,y1⟩⟩ (fun hHeld=>?_)
 clear hK K
 try simp only [putS]
 obtain ⟨u1,u2,u3,u4⟩:=hHeld
 obtain ⟨v0,v1⟩:=u4.out ys
 refine tr 11 rfl (fun K hK=>?_)
 rw [if_pos (by rfl)]
 go_simp
 rw [hN] at v0 v1
 with_reducible refine (orAt _ _ _ _ v0 v1).mono ?_
 rintro e w3 ⟨rfl,rfl⟩
 refine hK.out _ _ ⟨u1,u2,u3,u4⟩ (fun hHeld=>?_)
 clear hK K u1 u2 u4 v0 v1
 try simp only [putS]
 refine tr 12 rfl (fun K hK=>?_)
 go_simp
 refine hK.out _ _ hHeld (fun _=>?_)
 clear hK K hHeld
 try simp only [putS]
 refine wpAnyH_done (by kernel_rfl) ?_ _
 go_wp2_with fail
 go_ret
 exact ⟨rfl,u3⟩
theorem zts (lang k:Int) (b:Bool) (n:Int) (t x:ByteArray) (q:List Val) (p:Option Addr) (cap:Nat) (k2:Int) (b2:Bool) (n2:Int) (t2 x2:ByteArray) (q2:List Val) (p2:Option Addr) (cap2:Nat) (w:World) (hk0:k=8):
 Calls Tryz.prog 206 #[.int .i64 lang,.agg #[.int .i64 k,.bool b,.int .i64 n,.string t,.string x,.slice p q.length cap],.agg #[.int .i64 k2,.bool b2,.int .i64 n2,.string t2,.string x2,.slice p2 q2.length cap2]] w fun e w'=>e=.returned (.int .i64 (lexI (zal t.toList t2.toList) (zal x.toList x2.toList)))∧Low w.heap.size w w':=by
 obtain ⟨W0,hW0⟩:∃ W0,W0=((w.alloc (.cells #[.int .i64 lang] 3)).alloc (.cells #[.int .i64 k,.bool b,.int .i64 n,.string t,.string x,.slice p q.length cap] 48)).alloc (.cells #[.int .i64 k2,.bool b2,.int .i64 n2,.string t2,.string x2,.slice p2 q2.length cap2] 48):=⟨_,rfl⟩
 have S4:Six W0 (w.heap.size+1) k b n t x p q.length cap:=by rw [hW0];exact (zaj _ (by simp)).alloc _
 have S5:Six W0 (w.heap.size+2) k2 b2 n2 t2 x2 p2 q2.length cap2:=by rw [hW0];exact zaj _ (by simp)
 have b0:Low w.heap.size w W0:=by rw [hW0];exact low3 _ _ _ _
 have c0:W0.cell? ⟨w.heap.size,0,none⟩=some (.int .i64 lang):=by
  rw [hW0]
  have e:(w.alloc (.cells #[.int .i64 lang] 3)).cell? ⟨w.heap.size,0,none⟩=some (.int .i64 lang):=zad (zaf _ _ rfl) _ rfl
  exact ((low2 _ _ _).cell (p:=⟨w.heap.size,0,none⟩) (by simp)).trans e
 have H0:=Lib.hid hW0
 clear hW0
 subst hk0
 go_enter Tryz.func206,Tryz.ntmps206
 go_wp2_with (first
  |(rw [← H0.out];(with_reducible refine zac (.tmp 4) (w.heap.size+1) S4 ?_ ?_ ?_ ?_);rfl;rfl;rfl)
  |((with_reducible refine zac (.tmp 4) (w.heap.size+1) S4 ?_ ?_ ?_ ?_);rfl;rfl;rfl)
  |((with_reducible refine zac (.tmp 5) (w.heap.size+2) S5 ?_ ?_ ?_ ?_);rfl;rfl;rfl)
  |(go_at_call 156;(with_reducible refine (zau 8 b n t x _ 171 rfl _).mono ?_);rintro e w' ⟨rfl,hb⟩;replace S4:=S4.below hb.is;replace S5:=S5.below hb.is;replace c0:=(hb.cell (p:=⟨w.heap.size,0,none⟩) (World.block_lt_of_cell? _ _ c0)).trans c0;replace b0:=zak b0 hb b0.size;have f1:=S4.c1;have f2:=S4.c2;have f5:=S4.c5;have g1:=S5.c1;have g2:=S5.c2;have g5:=S5.c5;clear hb)
  |(simp only [zhg,zhd,zhe,zhb,zhc,zhf,Result.andThen_ok]))
 obtain ⟨N,hN⟩:∃ N,N=w'.heap.size:=⟨_,rfl⟩
 refine wp_region_held_drew (S:=fun w'=>Six w' (w.heap.size+1) 8 b n t x p q.length cap∧Six w' (w.heap.size+2) k2 b2 n2 t2 x2 p2 q2.length cap2∧Low w.heap.size w w'∧Hid (N < w'.heap.size→w'.cell? ⟨N,0,none⟩=some (.int .i64 (zal t.toList t2.toList))∧w'.cell? ⟨N,1,none⟩=some (.int .i64 (zal x.toList x2.toList)))) (by kernel_rfl) ⟨S4,S5,b0.drew,Lib.hid fun h=>absurd h (by rw [hN];exact Nat.lt_irrefl _)⟩ (fun hHeld=>?_)
 refine tg (i:=0) (.pointer (some ⟨w.heap.size+1,3,none⟩)) rfl hHeld ?_
 refine tk (i:=1) (v:=.string t) rfl (Or.inl ⟨by rfl,fun W h=>by have c0:=h.1.c3;go_simp⟩) hHeld ?_
 refine tg (i:=2) (.pointer (some ⟨w.heap.size+2,3,none⟩)) rfl hHeld ?_
 refine tk (i:=3) (v:=.string t2) rfl (Or.inl ⟨by rfl,fun W h=>by have c0:=h.2.1.c3;go_simp⟩) hHeld ?_
 refine tg (i:=5) (.pointer (some ⟨w.heap.size+1,4,none⟩)) rfl hHeld ?_
 refine tk (i:=6) (v:=.string x) rfl (Or.inl ⟨by rfl,fun W h=>by have c0:=h.1.c4;go_simp⟩) hHeld ?_
 refine tg (i:=7) (.pointer (some ⟨w.heap.size+2,4,none⟩)) rfl hHeld ?_
 refine tk (i:=8) (v:=.string x2) rfl (Or.inl ⟨by rfl,fun W h=>by have c0:=h.2.1.c4;go_simp⟩) hHeld ?_
 obtain ⟨u1,u2,u3,u4⟩:=hHeld
 refine tr 4 rfl (fun K hK=>?_)
 rw [if_pos (by rfl)]
 go_simp
 refine (zc5 t t2 _).mono ?_
 rintro e w3 ⟨rfl,rfl⟩
 refine hK.out _ _ ⟨u1,u2,u3,u4⟩ (fun hHeld=>?_)
 clear hK K u1 u2 u3 u4
 try simp only [putS]
 obtain ⟨u1,u2,u3,u4⟩:=hHeld
 refine tr 9 rfl (fun K hK=>?_)
 rw [if_pos (by rfl)]
 go_simp
 refine (zc5 x x2 _).mono ?_
 rintro e w3 ⟨rfl,rfl⟩
 refine hK.out _ _ ⟨u1,u2,u3,u4⟩ (fun hHeld=>?_)
 clear hK K u1 u2 u3 u4
 try simp only [putS]
 obtain ⟨u1,u2,u3,u4⟩:=hHeld
 refine tr 10 rfl (fun K hK=>?_)
 go_simp
 rw [← hN]
 have x4:Six (w'.alloc (Obj.cells #[.int .i64 (zal t.toList t2.toList),.int .i64 (zal x.toList x2.toList)] 3)) (w.heap.size+1) 8 b n t x p q.length cap:=S4.alloc _
 have x5:Six (w'.alloc (Obj.cells #[.int .i64 (zal t.toList t2.toList),.int .i64 (zal x.toList x2.toList)] 3)) (w.heap.size+2) k2 b2 n2 t2 x2 p2 q2.length cap2:=S5.alloc _
 have xb:Low w.heap.size w (w'.alloc (Obj.cells #[.int .i64 (zal t.toList t2.toList),.int .i64 (zal x.toList x2.toList)] 3)).drew:=(b0.alloc b0.size _).drew
 have y0:(w'.alloc (Obj.cells #[.int .i64 (zal t.toList t2.toList),.int .i64 (zal x.toList x2.toList)] 3)).cell? ⟨N,0,none⟩=some (.int .i64 (zal t.toList t2.toList)):=zad (zaf w' _ hN.symm) 0 rfl
 have y1:(w'.alloc (Obj.cells #[.int .i64 (zal t.toList t2.toList),.int .i64 (zal x.toList x2.toList)] 3)).cell? ⟨N,1,none⟩=some (.int .i64 (zal x.toList x2.toList)):=zad (zaf w' _ hN.symm) 1 rfl
 have ys:N < (w'.alloc (Obj.cells #[.int .i64 (zal t.toList t2.toList),.int .i64 (zal x.toList x2.toList)] 3)).drew.heap.size:=by rw [hN];show w'.heap.size < (w'.alloc _).heap.size;simp
 generalize (w'.alloc (Obj.cells #[.int .i64 (zal t.toList t2.toList),.int .i64 (zal x.toList x2.toList)] 3))=V at x4 x5 xb y0 y1 ys ⊢
 clear u1 u2 u3 u4
 refine hK.out _ _ ⟨x4,x5,xb,Lib.hid fun _=>⟨y0,y1⟩⟩ (fun hHeld=>?_)
 clear hK K
 try simp only [putS]
 obtain ⟨u1,u2,u3,u4⟩:=hHeld
 obtain ⟨v0,v1⟩:=u4.out ys
 refine tr 11 rfl (fun K hK=>?_)
 rw [if_pos (by rfl)]
 go_simp
 rw [hN] at v0 v1
 with_reducible refine (orAt _ _ _ _ v0 v1).mono ?_
 rintro e w3 ⟨rfl,rfl⟩
 refine hK.out _ _ ⟨u1,u2,u3,u4⟩ (fun hHeld=>?_)
 clear hK K u1 u2 u4 v0 v1
 try simp only [putS]
 refine tr 12 rfl (fun K hK=>?_)
 go_simp
 refine hK.out _ _ hHeld (fun _=>?_)
 clear hK K hHeld
 try simp only [putS]
 refine wpAnyH_done (by kernel_rfl) ?_ _
 go_wp2_with fail
 go_ret
 exact ⟨rfl,u3⟩
theorem ztt (lang k:Int) (b:Bool) (n:Int) (t x:ByteArray) (q:List Val) (p:Option Addr) (cap:Nat) (k2:Int) (b2:Bool) (n2:Int) (t2 x2:ByteArray) (q2:List Val) (p2:Option Addr) (cap2:Nat) (w:World) (hk0:k=9):
 Calls Tryz.prog 206 #[.int .i64 lang,.agg #[.int .i64 k,.bool b,.int .i64 n,.string t,.string x,.slice p q.length cap],.agg #[.int .i64 k2,.bool b2,.int .i64 n2,.string t2,.string x2,.slice p2 q2.length cap2]] w fun e w'=>e=.returned (.int .i64 (lexI (zal t.toList t2.toList) (zal x.toList x2.toList)))∧Low w.heap.size w w':=by
 obtain ⟨W0,hW0⟩:∃ W0,W0=((w.alloc (.cells #[.int .i64 lang] 3)).alloc (.cells #[.int .i64 k,.bool b,.int .i64 n,.string t,.string x,.slice p q.length cap] 48)).alloc (.cells #[.int .i64 k2,.bool b2,.int .i64 n2,.string t2,.string x2,.slice p2 q2.length cap2] 48):=⟨_,rfl⟩
 have S4:Six W0 (w.heap.size+1) k b n t x p q.length cap:=by rw [hW0];exact (zaj _ (by simp)).alloc _
 have S5:Six W0 (w.heap.size+2) k2 b2 n2 t2 x2 p2 q2.length cap2:=by rw [hW0];exact zaj _ (by simp)
 have b0:Low w.heap.size w W0:=by rw [hW0];exact low3 _ _ _ _
 have c0:W0.cell? ⟨w.heap.size,0,none⟩=some (.int .i64 lang):=by
  rw [hW0]
  have e:(w.alloc (.cells #[.int .i64 lang] 3)).cell? ⟨w.heap.size,0,none⟩=some (.int .i64 lang):=zad (zaf _ _ rfl) _ rfl
  exact ((low2 _ _ _).cell (p:=⟨w.heap.size,0,none⟩) (by simp)).trans e
 have H0:=Lib.hid hW0
 clear hW0
 subst hk0
 go_enter Tryz.func206,Tryz.ntmps206
 go_wp2_with (first
  |(rw [← H0.out];(with_reducible refine zac (.tmp 4) (w.heap.size+1) S4 ?_ ?_ ?_ ?_);rfl;rfl;rfl)
  |((with_reducible refine zac (.tmp 4) (w.heap.size+1) S4 ?_ ?_ ?_ ?_);rfl;rfl;rfl)
  |((with_reducible refine zac (.tmp 5) (w.heap.size+2) S5 ?_ ?_ ?_ ?_);rfl;rfl;rfl)
  |(go_at_call 156;(with_reducible refine (zau 9 b n t x _ 172 rfl _).mono ?_);rintro e w' ⟨rfl,hb⟩;replace S4:=S4.below hb.is;replace S5:=S5.below hb.is;replace c0:=(hb.cell (p:=⟨w.heap.size,0,none⟩) (World.block_lt_of_cell? _ _ c0)).trans c0;replace b0:=zak b0 hb b0.size;have f1:=S4.c1;have f2:=S4.c2;have f5:=S4.c5;have g1:=S5.c1;have g2:=S5.c2;have g5:=S5.c5;clear hb)
  |(simp only [zhm,zhj,zhk,zhh,zhi,zhl,Result.andThen_ok]))
 obtain ⟨N,hN⟩:∃ N,N=w'.heap.size:=⟨_,rfl⟩
 refine wp_region_held_drew (S:=fun w'=>Six w' (w.heap.size+1) 9 b n t x p q.length cap∧Six w' (w.heap.size+2) k2 b2 n2 t2 x2 p2 q2.length cap2∧Low w.heap.size w w'∧Hid (N < w'.heap.size→w'.cell? ⟨N,0,none⟩=some (.int .i64 (zal t.toList t2.toList))∧w'.cell? ⟨N,1,none⟩=some (.int .i64 (zal x.toList x2.toList)))) (by kernel_rfl) ⟨S4,S5,b0.drew,Lib.hid fun h=>absurd h (by rw [hN];exact Nat.lt_irrefl _)⟩ (fun hHeld=>?_)
 refine tg (i:=0) (.pointer (some ⟨w.heap.size+1,3,none⟩)) rfl hHeld ?_
 refine tk (i:=1) (v:=.string t) rfl (Or.inl ⟨by rfl,fun W h=>by have c0:=h.1.c3;go_simp⟩) hHeld ?_
 refine tg (i:=2) (.pointer (some ⟨w.heap.size+2,3,none⟩)) rfl hHeld ?_
 refine tk (i:=3) (v:=.string t2) rfl (Or.inl ⟨by rfl,fun W h=>by have c0:=h.2.1.c3;go_simp⟩) hHeld ?_
 refine tg (i:=5) (.pointer (some ⟨w.heap.size+1,4,none⟩)) rfl hHeld ?_
 refine tk (i:=6) (v:=.string x) rfl (Or.inl ⟨by rfl,fun W h=>by have c0:=h.1.c4;go_simp⟩) hHeld ?_
 refine tg (i:=7) (.pointer (some ⟨w.heap.size+2,4,none⟩)) rfl hHeld ?_
 refine tk (i:=8) (v:=.string x2) rfl (Or.inl ⟨by rfl,fun W h=>by have c0:=h.2.1.c4;go_simp⟩) hHeld ?_
 obtain ⟨u1,u2,u3,u4⟩:=hHeld
 refine tr 4 rfl (fun K hK=>?_)
 rw [if_pos (by rfl)]
 go_simp
 refine (zc5 t t2 _).mono ?_
 rintro e w3 ⟨rfl,rfl⟩
 refine hK.out _ _ ⟨u1,u2,u3,u4⟩ (fun hHeld=>?_)
 clear hK K u1 u2 u3 u4
 try simp only [putS]
 obtain ⟨u1,u2,u3,u4⟩:=hHeld
 refine tr 9 rfl (fun K hK=>?_)
 rw [if_pos (by rfl)]
 go_simp
 refine (zc5 x x2 _).mono ?_
 rintro e w3 ⟨rfl,rfl⟩
 refine hK.out _ _ ⟨u1,u2,u3,u4⟩ (fun hHeld=>?_)
 clear hK K u1 u2 u3 u4
 try simp only [putS]
 obtain ⟨u1,u2,u3,u4⟩:=hHeld
 refine tr 10 rfl (fun K hK=>?_)
 go_simp
 rw [← hN]
 have x4:Six (w'.alloc (Obj.cells #[.int .i64 (zal t.toList t2.toList),.int .i64 (zal x.toList x2.toList)] 3)) (w.heap.size+1) 9 b n t x p q.length cap:=S4.alloc _
 have x5:Six (w'.alloc (Obj.cells #[.int .i64 (zal t.toList t2.toList),.int .i64 (zal x.toList x2.toList)] 3)) (w.heap.size+2) k2 b2 n2 t2 x2 p2 q2.length cap2:=S5.alloc _
 have xb:Low w.heap.size w (w'.alloc (Obj.cells #[.int .i64 (zal t.toList t2.toList),.int .i64 (zal x.toList x2.toList)] 3)).drew:=(b0.alloc b0.size _).drew
 have y0:(w'.alloc (Obj.cells #[.int .i64 (zal t.toList t2.toList),.int .i64 (zal x.toList x2.toList)] 3)).cell? ⟨N,0,none⟩=some (.int .i64 (zal t.toList t2.toList)):=zad (zaf w' _ hN.symm) 0 rfl
 have y1:(w'.alloc (Obj.cells #[.int .i64 (zal t.toList t2.toList),.int .i64 (zal x.toList x2.toList)] 3)).cell? ⟨N,1,none⟩=some (.int .i64 (zal x.toList x2.toList)):=zad (zaf w' _ hN.symm) 1 rfl
 have ys:N < (w'.alloc (Obj.cells #[.int .i64 (zal t.toList t2.toList),.int .i64 (zal x.toList x2.toList)] 3)).drew.heap.size:=by rw [hN];show w'.heap.size < (w'.alloc _).heap.size;simp
 generalize (w'.alloc (Obj.cells #[.int .i64 (zal t.toList t2.toList),.int .i64 (zal x.toList x2.toList)] 3))=V at x4 x5 xb y0 y1 ys ⊢
 clear u1 u2 u3 u4
 refine hK.out _ _ ⟨x4,x5,xb,Lib.hid fun _=>⟨y0,y1⟩⟩ (fun hHeld=>?_)
 clear hK K
 try simp only [putS]
 obtain ⟨u1,u2,u3,u4⟩:=hHeld
 obtain ⟨v0,v1⟩:=u4.out ys
 refine tr 11 rfl (fun K hK=>?_)
 rw [if_pos (by rfl)]
 go_simp
 rw [hN] at v0 v1
 with_reducible refine (orAt _ _ _ _ v0 v1).mono ?_
 rintro e w3 ⟨rfl,rfl⟩
 refine hK.out _ _ ⟨u1,u2,u3,u4⟩ (fun hHeld=>?_)
 clear hK K u1 u2 u4 v0 v1
 try simp only [putS]
 refine tr 12 rfl (fun K hK=>?_)
 go_simp
 refine hK.out _ _ hHeld (fun _=>?_)
 clear hK K hHeld
 try simp only [putS]
 refine wpAnyH_done (by kernel_rfl) ?_ _
 go_wp2_with fail
 go_ret
 exact ⟨rfl,u3⟩
theorem zsg (lang k:Int) (b:Bool) (n:Int) (t x:ByteArray) (q:List Val) (p:Option Addr) (cap:Nat) (k2:Int) (b2:Bool) (n2:Int) (t2 x2:ByteArray) (q2:List Val) (p2:Option Addr) (cap2:Nat) (w:World) (hk0:k=10):
 Calls Tryz.prog 206 #[.int .i64 lang,.agg #[.int .i64 k,.bool b,.int .i64 n,.string t,.string x,.slice p q.length cap],.agg #[.int .i64 k2,.bool b2,.int .i64 n2,.string t2,.string x2,.slice p2 q2.length cap2]] w fun e w'=>e=.returned (.int .i64 (lexI (zal t.toList t2.toList) (zal x.toList x2.toList)))∧Low w.heap.size w w':=by
 obtain ⟨W0,hW0⟩:∃ W0,W0=((w.alloc (.cells #[.int .i64 lang] 3)).alloc (.cells #[.int .i64 k,.bool b,.int .i64 n,.string t,.string x,.slice p q.length cap] 48)).alloc (.cells #[.int .i64 k2,.bool b2,.int .i64 n2,.string t2,.string x2,.slice p2 q2.length cap2] 48):=⟨_,rfl⟩
 have S4:Six W0 (w.heap.size+1) k b n t x p q.length cap:=by rw [hW0];exact (zaj _ (by simp)).alloc _
 have S5:Six W0 (w.heap.size+2) k2 b2 n2 t2 x2 p2 q2.length cap2:=by rw [hW0];exact zaj _ (by simp)
 have b0:Low w.heap.size w W0:=by rw [hW0];exact low3 _ _ _ _
 have c0:W0.cell? ⟨w.heap.size,0,none⟩=some (.int .i64 lang):=by
  rw [hW0]
  have e:(w.alloc (.cells #[.int .i64 lang] 3)).cell? ⟨w.heap.size,0,none⟩=some (.int .i64 lang):=zad (zaf _ _ rfl) _ rfl
  exact ((low2 _ _ _).cell (p:=⟨w.heap.size,0,none⟩) (by simp)).trans e
 have H0:=Lib.hid hW0
 clear hW0
 subst hk0
 go_enter Tryz.func206,Tryz.ntmps206
 go_wp2_with (first
  |(rw [← H0.out];(with_reducible refine zac (.tmp 4) (w.heap.size+1) S4 ?_ ?_ ?_ ?_);rfl;rfl;rfl)
  |((with_reducible refine zac (.tmp 4) (w.heap.size+1) S4 ?_ ?_ ?_ ?_);rfl;rfl;rfl)
  |((with_reducible refine zac (.tmp 5) (w.heap.size+2) S5 ?_ ?_ ?_ ?_);rfl;rfl;rfl)
  |(go_at_call 156;(with_reducible refine (zau 10 b n t x _ 173 rfl _).mono ?_);rintro e w' ⟨rfl,hb⟩;replace S4:=S4.below hb.is;replace S5:=S5.below hb.is;replace c0:=(hb.cell (p:=⟨w.heap.size,0,none⟩) (World.block_lt_of_cell? _ _ c0)).trans c0;replace b0:=zak b0 hb b0.size;have f1:=S4.c1;have f2:=S4.c2;have f5:=S4.c5;have g1:=S5.c1;have g2:=S5.c2;have g5:=S5.c5;clear hb)
  |(simp only [ze9,ze6,ze7,ze4,ze5,ze8,Result.andThen_ok]))
 obtain ⟨N,hN⟩:∃ N,N=w'.heap.size:=⟨_,rfl⟩
 refine wp_region_held_drew (S:=fun w'=>Six w' (w.heap.size+1) 10 b n t x p q.length cap∧Six w' (w.heap.size+2) k2 b2 n2 t2 x2 p2 q2.length cap2∧Low w.heap.size w w'∧Hid (N < w'.heap.size→w'.cell? ⟨N,0,none⟩=some (.int .i64 (zal t.toList t2.toList))∧w'.cell? ⟨N,1,none⟩=some (.int .i64 (zal x.toList x2.toList)))) (by kernel_rfl) ⟨S4,S5,b0.drew,Lib.hid fun h=>absurd h (by rw [hN];exact Nat.lt_irrefl _)⟩ (fun hHeld=>?_)
 refine tg (i:=0) (.pointer (some ⟨w.heap.size+1,3,none⟩)) rfl hHeld ?_
 refine tk (i:=1) (v:=.string t) rfl (Or.inl ⟨by rfl,fun W h=>by have c0:=h.1.c3;go_simp⟩) hHeld ?_
 refine tg (i:=2) (.pointer (some ⟨w.heap.size+2,3,none⟩)) rfl hHeld ?_
 refine tk (i:=3) (v:=.string t2) rfl (Or.inl ⟨by rfl,fun W h=>by have c0:=h.2.1.c3;go_simp⟩) hHeld ?_
 refine tg (i:=5) (.pointer (some ⟨w.heap.size+1,4,none⟩)) rfl hHeld ?_
 refine tk (i:=6) (v:=.string x) rfl (Or.inl ⟨by rfl,fun W h=>by have c0:=h.1.c4;go_simp⟩) hHeld ?_
 refine tg (i:=7) (.pointer (some ⟨w.heap.size+2,4,none⟩)) rfl hHeld ?_
 refine tk (i:=8) (v:=.string x2) rfl (Or.inl ⟨by rfl,fun W h=>by have c0:=h.2.1.c4;go_simp⟩) hHeld ?_
 obtain ⟨u1,u2,u3,u4⟩:=hHeld
 refine tr 4 rfl (fun K hK=>?_)
 rw [if_pos (by rfl)]
 go_simp
 refine (zc5 t t2 _).mono ?_
 rintro e w3 ⟨rfl,rfl⟩
 refine hK.out _ _ ⟨u1,u2,u3,u4⟩ (fun hHeld=>?_)
 clear hK K u1 u2 u3 u4
 try simp only [putS]
 obtain ⟨u1,u2,u3,u4⟩:=hHeld
 refine tr 9 rfl (fun K hK=>?_)
 rw [if_pos (by rfl)]
 go_simp
 refine (zc5 x x2 _).mono ?_
 rintro e w3 ⟨rfl,rfl⟩
 refine hK.out _ _ ⟨u1,u2,u3,u4⟩ (fun hHeld=>?_)
 clear hK K u1 u2 u3 u4
 try simp only [putS]
 obtain ⟨u1,u2,u3,u4⟩:=hHeld
 refine tr 10 rfl (fun K hK=>?_)
 go_simp
 rw [← hN]
 have x4:Six (w'.alloc (Obj.cells #[.int .i64 (zal t.toList t2.toList),.int .i64 (zal x.toList x2.toList)] 3)) (w.heap.size+1) 10 b n t x p q.length cap:=S4.alloc _
 have x5:Six (w'.alloc (Obj.cells #[.int .i64 (zal t.toList t2.toList),.int .i64 (zal x.toList x2.toList)] 3)) (w.heap.size+2) k2 b2 n2 t2 x2 p2 q2.length cap2:=S5.alloc _
 have xb:Low w.heap.size w (w'.alloc (Obj.cells #[.int .i64 (zal t.toList t2.toList),.int .i64 (zal x.toList x2.toList)] 3)).drew:=(b0.alloc b0.size _).drew
 have y0:(w'.alloc (Obj.cells #[.int .i64 (zal t.toList t2.toList),.int .i64 (zal x.toList x2.toList)] 3)).cell? ⟨N,0,none⟩=some (.int .i64 (zal t.toList t2.toList)):=zad (zaf w' _ hN.symm) 0 rfl
 have y1:(w'.alloc (Obj.cells #[.int .i64 (zal t.toList t2.toList),.int .i64 (zal x.toList x2.toList)] 3)).cell? ⟨N,1,none⟩=some (.int .i64 (zal x.toList x2.toList)):=zad (zaf w' _ hN.symm) 1 rfl
 have ys:N < (w'.alloc (Obj.cells #[.int .i64 (zal t.toList t2.toList),.int .i64 (zal x.toList x2.toList)] 3)).drew.heap.size:=by rw [hN];show w'.heap.size < (w'.alloc _).heap.size;simp
 generalize (w'.alloc (Obj.cells #[.int .i64 (zal t.toList t2.toList),.int .i64 (zal x.toList x2.toList)] 3))=V at x4 x5 xb y0 y1 ys ⊢
 clear u1 u2 u3 u4
 refine hK.out _ _ ⟨x4,x5,xb,Lib.hid fun _=>⟨y0,y1⟩⟩ (fun hHeld=>?_)
 clear hK K
 try simp only [putS]
 obtain ⟨u1,u2,u3,u4⟩:=hHeld
 obtain ⟨v0,v1⟩:=u4.out ys
 refine tr 11 rfl (fun K hK=>?_)
 rw [if_pos (by rfl)]
 go_simp
 rw [hN] at v0 v1
 with_reducible refine (orAt _ _ _ _ v0 v1).mono ?_
 rintro e w3 ⟨rfl,rfl⟩
 refine hK.out _ _ ⟨u1,u2,u3,u4⟩ (fun hHeld=>?_)
 clear hK K u1 u2 u4 v0 v1
 try simp only [putS]
 refine tr 12 rfl (fun K hK=>?_)
 go_simp
 refine hK.out _ _ hHeld (fun _=>?_)
 clear hK K hHeld
 try simp only [putS]
 refine wpAnyH_done (by kernel_rfl) ?_ _
 go_wp2_with fail
 go_ret
 exact ⟨rfl,u3⟩
theorem zsh (lang k:Int) (b:Bool) (n:Int) (t x:ByteArray) (q:List Val) (p:Option Addr) (cap:Nat) (k2:Int) (b2:Bool) (n2:Int) (t2 x2:ByteArray) (q2:List Val) (p2:Option Addr) (cap2:Nat) (w:World) (hk0:zlq k=200):
 Calls Tryz.prog 206 #[.int .i64 lang,.agg #[.int .i64 k,.bool b,.int .i64 n,.string t,.string x,.slice p q.length cap],.agg #[.int .i64 k2,.bool b2,.int .i64 n2,.string t2,.string x2,.slice p2 q2.length cap2]] w fun e w'=>e=.returned (.int .i64 (lexI (zal t.toList t2.toList) (zal x.toList x2.toList)))∧Low w.heap.size w w':=by
 obtain ⟨W0,hW0⟩:∃ W0,W0=((w.alloc (.cells #[.int .i64 lang] 3)).alloc (.cells #[.int .i64 k,.bool b,.int .i64 n,.string t,.string x,.slice p q.length cap] 48)).alloc (.cells #[.int .i64 k2,.bool b2,.int .i64 n2,.string t2,.string x2,.slice p2 q2.length cap2] 48):=⟨_,rfl⟩
 have S4:Six W0 (w.heap.size+1) k b n t x p q.length cap:=by rw [hW0];exact (zaj _ (by simp)).alloc _
 have S5:Six W0 (w.heap.size+2) k2 b2 n2 t2 x2 p2 q2.length cap2:=by rw [hW0];exact zaj _ (by simp)
 have b0:Low w.heap.size w W0:=by rw [hW0];exact low3 _ _ _ _
 have c0:W0.cell? ⟨w.heap.size,0,none⟩=some (.int .i64 lang):=by
  rw [hW0]
  have e:(w.alloc (.cells #[.int .i64 lang] 3)).cell? ⟨w.heap.size,0,none⟩=some (.int .i64 lang):=zad (zaf _ _ rfl) _ rfl
  exact ((low2 _ _ _).cell (p:=⟨w.heap.size,0,none⟩) (by simp)).trans e
 have H0:=Lib.hid hW0
 clear hW0
 have hk:=hk0
 go_enter Tryz.func206,Tryz.ntmps206
 go_wp2_with (first
  |(rw [← H0.out];(with_reducible refine zac (.tmp 4) (w.heap.size+1) S4 ?_ ?_ ?_ ?_);rfl;rfl;rfl)
  |((with_reducible refine zac (.tmp 4) (w.heap.size+1) S4 ?_ ?_ ?_ ?_);rfl;rfl;rfl)
  |((with_reducible refine zac (.tmp 5) (w.heap.size+2) S5 ?_ ?_ ?_ ?_);rfl;rfl;rfl)
  |(go_at_call 156;(with_reducible refine (zau k b n t x _ 200 hk.symm _).mono ?_);rintro e w' ⟨rfl,hb⟩;replace S4:=S4.below hb.is;replace S5:=S5.below hb.is;replace c0:=(hb.cell (p:=⟨w.heap.size,0,none⟩) (World.block_lt_of_cell? _ _ c0)).trans c0;replace b0:=zak b0 hb b0.size;have f1:=S4.c1;have f2:=S4.c2;have f5:=S4.c5;have g1:=S5.c1;have g2:=S5.c2;have g5:=S5.c5;clear hb)
  |(simp only [zkt,zkq,zkr,zko,zkp,zks,Result.andThen_ok]))
 obtain ⟨N,hN⟩:∃ N,N=w'.heap.size:=⟨_,rfl⟩
 refine wp_region_held_drew (S:=fun w'=>Six w' (w.heap.size+1) k b n t x p q.length cap∧Six w' (w.heap.size+2) k2 b2 n2 t2 x2 p2 q2.length cap2∧Low w.heap.size w w'∧Hid (N < w'.heap.size→w'.cell? ⟨N,0,none⟩=some (.int .i64 (zal t.toList t2.toList))∧w'.cell? ⟨N,1,none⟩=some (.int .i64 (zal x.toList x2.toList)))) (by kernel_rfl) ⟨S4,S5,b0.drew,Lib.hid fun h=>absurd h (by rw [hN];exact Nat.lt_irrefl _)⟩ (fun hHeld=>?_)
 refine tg (i:=0) (.pointer (some ⟨w.heap.size+1,3,none⟩)) rfl hHeld ?_
 refine tk (i:=1) (v:=.string t) rfl (Or.inl ⟨by rfl,fun W h=>by have c0:=h.1.c3;go_simp⟩) hHeld ?_
 refine tg (i:=2) (.pointer (some ⟨w.heap.size+2,3,none⟩)) rfl hHeld ?_
 refine tk (i:=3) (v:=.string t2) rfl (Or.inl ⟨by rfl,fun W h=>by have c0:=h.2.1.c3;go_simp⟩) hHeld ?_
 refine tg (i:=5) (.pointer (some ⟨w.heap.size+1,4,none⟩)) rfl hHeld ?_
 refine tk (i:=6) (v:=.string x) rfl (Or.inl ⟨by rfl,fun W h=>by have c0:=h.1.c4;go_simp⟩) hHeld ?_
 refine tg (i:=7) (.pointer (some ⟨w.heap.size+2,4,none⟩)) rfl hHeld ?_
 refine tk (i:=8) (v:=.string x2) rfl (Or.inl ⟨by rfl,fun W h=>by have c0:=h.2.1.c4;go_simp⟩) hHeld ?_
 obtain ⟨u1,u2,u3,u4⟩:=hHeld
 refine tr 4 rfl (fun K hK=>?_)
 rw [if_pos (by rfl)]
 go_simp
 refine (zc5 t t2 _).mono ?_
 rintro e w3 ⟨rfl,rfl⟩
 refine hK.out _ _ ⟨u1,u2,u3,u4⟩ (fun hHeld=>?_)
 clear hK K u1 u2 u3 u4
 try simp only [putS]
 obtain ⟨u1,u2,u3,u4⟩:=hHeld
 refine tr 9 rfl (fun K hK=>?_)
 rw [if_pos (by rfl)]
 go_simp
 refine (zc5 x x2 _).mono ?_
 rintro e w3 ⟨rfl,rfl⟩
 refine hK.out _ _ ⟨u1,u2,u3,u4⟩ (fun hHeld=>?_)
 clear hK K u1 u2 u3 u4
 try simp only [putS]
 obtain ⟨u1,u2,u3,u4⟩:=hHeld
 refine tr 10 rfl (fun K hK=>?_)
 go_simp
 rw [← hN]
 have x4:Six (w'.alloc (Obj.cells #[.int .i64 (zal t.toList t2.toList),.int .i64 (zal x.toList x2.toList)] 3)) (w.heap.size+1) k b n t x p q.length cap:=S4.alloc _
 have x5:Six (w'.alloc (Obj.cells #[.int .i64 (zal t.toList t2.toList),.int .i64 (zal x.toList x2.toList)] 3)) (w.heap.size+2) k2 b2 n2 t2 x2 p2 q2.length cap2:=S5.alloc _
 have xb:Low w.heap.size w (w'.alloc (Obj.cells #[.int .i64 (zal t.toList t2.toList),.int .i64 (zal x.toList x2.toList)] 3)).drew:=(b0.alloc b0.size _).drew
 have y0:(w'.alloc (Obj.cells #[.int .i64 (zal t.toList t2.toList),.int .i64 (zal x.toList x2.toList)] 3)).cell? ⟨N,0,none⟩=some (.int .i64 (zal t.toList t2.toList)):=zad (zaf w' _ hN.symm) 0 rfl
 have y1:(w'.alloc (Obj.cells #[.int .i64 (zal t.toList t2.toList),.int .i64 (zal x.toList x2.toList)] 3)).cell? ⟨N,1,none⟩=some (.int .i64 (zal x.toList x2.toList)):=zad (zaf w' _ hN.symm) 1 rfl
 have ys:N < (w'.alloc (Obj.cells #[.int .i64 (zal t.toList t2.toList),.int .i64 (zal x.toList x2.toList)] 3)).drew.heap.size:=by rw [hN];show w'.heap.size < (w'.alloc _).heap.size;simp
 generalize (w'.alloc (Obj.cells #[.int .i64 (zal t.toList t2.toList),.int .i64 (zal x.toList x2.toList)] 3))=V at x4 x5 xb y0 y1 ys ⊢
 clear u1 u2 u3 u4
 refine hK.out _ _ ⟨x4,x5,xb,Lib.hid fun _=>⟨y0,y1⟩⟩ (fun hHeld=>?_)
 clear hK K
 try simp only [putS]
 obtain ⟨u1,u2,u3,u4⟩:=hHeld
 obtain ⟨v0,v1⟩:=u4.out ys
 refine tr 11 rfl (fun K hK=>?_)
 rw [if_pos (by rfl)]
 go_simp
 rw [hN] at v0 v1
 with_reducible refine (orAt _ _ _ _ v0 v1).mono ?_
 rintro e w3 ⟨rfl,rfl⟩
 refine hK.out _ _ ⟨u1,u2,u3,u4⟩ (fun hHeld=>?_)
 clear hK K u1 u2 u4 v0 v1
 try simp only [putS]
 refine tr 12 rfl (fun K hK=>?_)
 go_simp
 refine hK.out _ _ hHeld (fun _=>?_)
 clear hK K hHeld
 try simp only [putS]
 refine wpAnyH_done (by kernel_rfl) ?_ _
 go_wp2_with fail
 go_ret
 exact ⟨rfl,u3⟩
end Go.Proofs.YteclpnfckjfibaaGreatDoor
