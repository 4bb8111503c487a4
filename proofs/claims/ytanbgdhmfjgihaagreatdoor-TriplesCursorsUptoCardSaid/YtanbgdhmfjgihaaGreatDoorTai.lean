/- Texts of one kind, one behind the other: each says ahead of itself what it shows. -/
import Derived.Test.YtanbgdhmfjgihaaGreatDoorTah
import Derived.Test.YtanbgdhmfjgihaaGreatDoorTac
import Derived.Shelf.Small.Strs
import Derived.Test.YtanbgdhmfjgihaaGreatDoorTaf
namespace Go.Proofs.YtanbgdhmfjgihaaGreatDoor
open Go.RowKit
set_option maxHeartbeats 12800000
set_option maxRecDepth 20000
theorem zeo {c d:Int} (h:lexI c d=0):c=0∧d=0:=by
 unfold lexI at h
 split at h
 ·exact ⟨‹_›,h⟩
 ·exact absurd h ‹_›
theorem zd0 {l m:List UInt8} (h:zai l m=0):l=m:=by
 unfold zai at h
 cases h1:Op.bytesLess l m
 ·cases h2:Op.bytesLess m l
  ·exact zdp l m h1 h2
  ·rw [h1,h2] at h;simp at h
 ·rw [h1] at h;simp at h
theorem zh2 {t:ByteArray} (h:t.size=0):t=⟨#[]⟩:=by
 obtain ⟨⟨l⟩⟩:=t
 cases l with
 | nil=>rfl
 | cons a r=>exact absurd h (by simp [ByteArray.size])
theorem zbt {b:Bool} {n:Int} {t x:ByteArray} {len:Nat} (h:zbm b n t x len=true):b=false∧n=0∧t=⟨#[]⟩∧x=⟨#[]⟩∧len=0:=by
 unfold zbm at h
 simp only [Bool.and_eq_true,Bool.not_eq_true',decide_eq_true_eq] at h
 exact ⟨h.1.1.1.1,h.1.1.1.2,zh2 h.1.1.2,zh2 h.1.2,h.2⟩
theorem zl1 (n:Int) (t:ByteArray):numV 2 n t=n*10 ^ 54:=by unfold numV;rw [if_pos rfl]
theorem rank0 (lang k:Int):(zau lang k=0∨zau lang k=10)↔k=0:=by unfold zau;(repeat' split) <;> omega
theorem rank4 (lang k:Int):zau lang k=7↔k=4:=by unfold zau;(repeat' split) <;> omega
theorem rank6 (lang k:Int):zau lang k=2↔k=6:=by unfold zau;(repeat' split) <;> omega
theorem rank7 (lang k:Int):zau lang k=3↔k=7:=by unfold zau;(repeat' split) <;> omega
theorem rank8 (lang k:Int):zau lang k=5↔k=8:=by unfold zau;(repeat' split) <;> omega
theorem rank9 (lang k:Int):zau lang k=4↔k=9:=by unfold zau;(repeat' split) <;> omega
theorem zx1 (lang k:Int):zau lang k=6↔k=10:=by unfold zau;(repeat' split) <;> omega
theorem zso (lang:Int) (k:Int) (b:Bool) (n:Int) (t x:ByteArray) (len:Nat) (r:Bool) (k2:Int) (b2:Bool) (n2:Int) (t2 x2:ByteArray) (len2:Nat) (r2:Bool) (er:zau lang k=zau lang k2) (h5:¬ k=5)
 (m:zbg k b n t x len r=true) (m2:zbg k2 b2 n2 t2 x2 len2 r2=true) (hi:zbu k n b t x k2 n2 b2 t2 x2=0):k=k2∧b=b2∧n=n2∧t.toList=t2.toList∧x.toList=x2.toList∧len=0∧len2=0:=by
 by_cases h0:k=0
 ·have e:=(rank0 lang k2).1 (er ▸ (rank0 lang k).2 h0)
  subst h0 e
  unfold zbg at m m2
  rw [if_pos rfl] at m m2
  obtain ⟨rfl,rfl,rfl,rfl,rfl⟩:=zbt m
  obtain ⟨rfl,rfl,rfl,rfl,rfl⟩:=zbt m2
  exact ⟨rfl,rfl,rfl,rfl,rfl,rfl,rfl⟩
 by_cases h1:k=1
 ·have e:=(zt8 lang k2).1 (er ▸ (zt8 lang k).2 h1)
  subst h1 e
  unfold zbg at m m2
  rw [if_neg (by decide),if_pos rfl] at m m2
  obtain ⟨_,rfl,rfl,rfl,rfl⟩:=zbt m
  obtain ⟨_,rfl,rfl,rfl,rfl⟩:=zbt m2
  unfold zbu at hi
  rw [if_neg (by decide),if_pos rfl] at hi
  have eb:b=b2:=by cases b <;> cases b2 <;> first | rfl |(exact absurd hi (by decide))
  exact ⟨rfl,eb,rfl,rfl,rfl,rfl,rfl⟩
 by_cases h6:k=6∨k=7
 ·have e:k2=k:=by
   rcases h6 with h | h
   ·rw [h];exact (rank6 lang k2).1 (er ▸ (rank6 lang k).2 h)
   ·rw [h];exact (rank7 lang k2).1 (er ▸ (rank7 lang k).2 h)
  subst e
  unfold zbu at hi
  rw [if_pos h6] at hi
  obtain rfl:=zcc hi
  unfold zbg at m m2
  rw [if_neg h0,if_neg h1,if_neg (by omega),if_neg (by omega),if_neg (by omega),if_neg h5,if_pos h6,Bool.and_eq_true] at m m2
  obtain ⟨rfl,_,rfl,rfl,rfl⟩:=zbt m.2
  obtain ⟨rfl,_,rfl,rfl,rfl⟩:=zbt m2.2
  exact ⟨rfl,rfl,rfl,rfl,rfl,rfl,rfl⟩
 by_cases h2:k=2∨k=3
 ·unfold zbu at hi
  rw [if_neg h6,if_neg h1,if_pos h2] at hi
  obtain ⟨hn,hk⟩:=zeo hi
  obtain ⟨hk,ht⟩:=zeo hk
  have ek:=zcc hk
  subst ek
  by_cases h3:k=3
  ·subst h3
   rw [if_pos rfl] at ht
   have et:=zd0 ht
   unfold zbg at m m2
   rw [if_neg h0,if_neg h1,if_neg (by decide),if_pos rfl,Bool.and_eq_true] at m m2
   obtain ⟨rfl,rfl,_,rfl,rfl⟩:=zbt m.2
   obtain ⟨rfl,rfl,_,rfl,rfl⟩:=zbt m2.2
   exact ⟨rfl,rfl,rfl,et,rfl,rfl,rfl⟩
  ·obtain rfl:k=2:=by omega
   rw [zl1,zl1,zly] at hn
   obtain rfl:=zcc hn
   unfold zbg at m m2
   rw [if_neg h0,if_neg h1,if_pos rfl] at m m2
   obtain ⟨rfl,_,rfl,rfl,rfl⟩:=zbt m
   obtain ⟨rfl,_,rfl,rfl,rfl⟩:=zbt m2
   exact ⟨rfl,rfl,rfl,rfl,rfl,rfl,rfl⟩
 unfold zbu at hi
 rw [if_neg h6,if_neg h1,if_neg h2] at hi
 obtain ⟨ht,hx⟩:=zeo hi
 have et:=zd0 ht
 have ex:=zd0 hx
 have n2:¬ k=2:=fun e=>h2 (.inl e)
 have n3:¬ k=3:=fun e=>h2 (.inr e)
 have e:k2=k:=by
  by_cases a4:k=4
  ·rw [a4];exact (rank4 lang k2).1 (er ▸ (rank4 lang k).2 a4)
  by_cases a8:k=8
  ·rw [a8];exact (rank8 lang k2).1 (er ▸ (rank8 lang k).2 a8)
  by_cases a9:k=9
  ·rw [a9];exact (rank9 lang k2).1 (er ▸ (rank9 lang k).2 a9)
  by_cases a10:k=10
  ·rw [a10];exact (zx1 lang k2).1 (er ▸ (zx1 lang k).2 a10)
  unfold zbg at m
  rw [if_neg h0,if_neg h1,if_neg n2,if_neg n3,if_neg a4,if_neg h5,if_neg h6,if_neg a8,if_neg a9,if_neg a10] at m
  cases m
 subst e
 unfold zbg at m m2
 rw [if_neg h0,if_neg h1,if_neg n2,if_neg n3] at m m2
 by_cases a4:k2=4
 ·rw [if_pos a4,Bool.and_eq_true] at m m2
  obtain ⟨rfl,rfl,_,rfl,rfl⟩:=zbt m.2
  obtain ⟨rfl,rfl,_,rfl,rfl⟩:=zbt m2.2
  exact ⟨rfl,rfl,rfl,et,rfl,rfl,rfl⟩
 rw [if_neg a4,if_neg h5,if_neg h6] at m m2
 by_cases a8:k2=8
 ·rw [if_pos a8,Bool.and_eq_true] at m m2
  obtain ⟨rfl,rfl,_,rfl,rfl⟩:=zbt m.2
  obtain ⟨rfl,rfl,_,rfl,rfl⟩:=zbt m2.2
  exact ⟨rfl,rfl,rfl,et,rfl,rfl,rfl⟩
 rw [if_neg a8] at m m2
 by_cases a9:k2=9
 ·rw [if_pos a9,Bool.and_eq_true] at m m2
  obtain ⟨rfl,rfl,_,rfl,rfl⟩:=zbt m.2
  obtain ⟨rfl,rfl,_,rfl,rfl⟩:=zbt m2.2
  exact ⟨rfl,rfl,rfl,et,rfl,rfl,rfl⟩
 rw [if_neg a9] at m m2
 by_cases a10:k2=10
 ·rw [if_pos a10,Bool.and_eq_true,Bool.and_eq_true] at m m2
  obtain ⟨rfl,rfl,_,_,rfl⟩:=zbt m.2.2
  obtain ⟨rfl,rfl,_,_,rfl⟩:=zbt m2.2.2
  exact ⟨rfl,rfl,rfl,et,ex,rfl,rfl⟩
 rw [if_neg a10] at m
 cases m
mutual
theorem zc5 (lang:Int):(v v2:Val)→(d d2:Nat)→mayP v d=true→mayP v2 d2=true→zan lang v v2=0→zb8 v v2=true
 | .mk k b n t x l,.mk k2 b2 n2 t2 x2 l2,d,d2,m,m2,h=>by
   rw [zcm] at h
   obtain ⟨hr,hi⟩:=zeo h
   have er:=zcc hr
   unfold mayP at m m2
   unfold zb8
   by_cases h5:k=5
   ·have h52:=(zdz er).1.1 h5
    subst h5 h52
    rw [if_pos rfl] at hi
    unfold zbg at m m2
    simp only [show ¬ (5:Int)=0 from by decide,show ¬ (5:Int)=1 from by decide,show ¬ (5:Int)=2 from by decide,show ¬ (5:Int)=3 from by decide,show ¬ (5:Int)=4 from by decide,if_true,if_false,Bool.and_eq_true] at m m2
    obtain ⟨⟨_,me⟩,mb⟩:=m
    obtain ⟨⟨_,me2⟩,mb2⟩:=m2
    obtain ⟨rfl,rfl,rfl,rfl,_⟩:=zbt mb
    obtain ⟨rfl,rfl,rfl,rfl,_⟩:=zbt mb2
    obtain ⟨e1,e2⟩:=zn9 lang l l2 _ _ me me2 hi
    simp [e1,e2]
   ·rw [if_neg h5] at hi
    obtain ⟨rfl,rfl,rfl,et,ex,l0,l20⟩:=zso lang k b n t x l.length _ k2 b2 n2 t2 x2 l2.length _ er h5 m m2 hi
    obtain rfl:=List.length_eq_zero_iff.1 l0
    obtain rfl:=List.length_eq_zero_iff.1 l20
    simp [et,ex,za8]
theorem zn9 (lang:Int):(l l2:List Val)→(d d2:Nat)→zdv l d=true→zdv l2 d2=true→zbh lang l l2=0→l.length=l2.length∧za8 l l2=true
 | [],[],_,_,_,_,_=>by unfold za8;exact ⟨rfl,rfl⟩
 | [],_::_,_,_,_,_,h=>by unfold zbh at h;omega
 | _::_,[],_,_,_,_,h=>by unfold zbh at h;omega
 | u::r,v::s,d,d2,m,m2,h=>by
   unfold zbh at h
   unfold zdv at m m2
   rw [Bool.and_eq_true] at m m2
   obtain ⟨h1,h2⟩:=zeo h
   have a:=zc5 lang u v d d2 m.1 m2.1 h1
   obtain ⟨e1,e2⟩:=zn9 lang r s d d2 m.2 m2.2 h2
   unfold za8
   rw [a,e2]
   exact ⟨by simp [e1],rfl⟩
end
theorem zub (t:ByteArray):(n i:Nat)→(r:List UInt8)→n=t.size - i→ByteArray.toList.loop t i r=r.reverse++t.data.toList.drop i
 | 0,i,r,h=>by
   unfold ByteArray.toList.loop
   rw [if_neg (by omega)]
   have:t.data.toList.length≤i:=by rw [Array.length_toList];show t.size≤i;omega
   rw [List.drop_eq_nil_of_le this,List.append_nil]
 | n+1,i,r,h=>by
   have hi:i < t.size:=by omega
   unfold ByteArray.toList.loop
   rw [if_pos hi,zub t n (i+1) _ (by omega)]
   have hl:i < t.data.toList.length:=by rw [Array.length_toList];exact hi
   rw [List.drop_eq_getElem_cons hl,List.reverse_cons,List.append_assoc]
   have e:t.get! i=t.data.toList[i]:=by
    obtain ⟨d⟩:=t
    have h2:i < d.size:=hi
    show d[i]! =d.toList[i]
    rw [getElem!_pos d i h2]
    simp
   rw [e]
   rfl
theorem za7 (t:ByteArray):t.toList=t.data.toList:=by
 unfold ByteArray.toList
 rw [zub t _ 0 [] rfl]
 simp
theorem zps (l:List UInt8):zai l l=0:=by unfold zai;rw [zfg];rfl
theorem zx2 (lang k:Int) (b:Bool) (n:Int) (t x:ByteArray) (p:Option Addr) (len cap:Nat) (w:World):
 Calls Tryz.prog 136 #[.int .i64 lang,.agg #[.int .i64 k,.bool b,.int .i64 n,.string t,.string x,.slice p len cap]] w fun e w'=>e=.returned (.int .i64 (zau lang k))∧Low w.heap.size w w':=by
 have S:=zaf (k:=k) (b:=b) (n:=n) (t:=t) (x:=x) (p:=p) (len:=len) (cap:=cap) w rfl
 have b0:=low1 w (.cells #[.int .i64 k,.bool b,.int .i64 n,.string t,.string x,.slice p len cap] 39)
 by_cases h0:k=0
 ·subst h0
  by_cases hl:lang=1
  ·subst hl
   rw [show zau 1 0=0 from rfl]
   go_enter Tryz.func136,Tryz.ntmps136
   go_wp2_with (first
    |((with_reducible refine zaa (.tmp 3) w.heap.size S ?_ ?_ ?_ ?_);rfl;rfl;rfl)
    |(go_at_call 107;(with_reducible refine (zap 0 b n t x _ 145 rfl _).mono ?_);rintro e w2 ⟨rfl,hb2⟩;have b2:=zad b0 hb2 b0.size;clear hb2)
    |(simp only [ziq,Result.andThen_ok]))
   go_ret
   exact ⟨rfl,b2⟩
  ·rw [show zau lang 0=10 by unfold zau;rw [if_pos rfl,if_neg hl]]
   go_enter Tryz.func136,Tryz.ntmps136
   go_wp2_with (first
    |((with_reducible refine zaa (.tmp 3) w.heap.size S ?_ ?_ ?_ ?_);rfl;rfl;rfl)
    |(go_at_call 107;(with_reducible refine (zap 0 b n t x _ 145 rfl _).mono ?_);rintro e w2 ⟨rfl,hb2⟩;have b2:=zad b0 hb2 b0.size;clear hb2)
    |(simp only [ziq,Result.andThen_ok]))
   go_ret
   exact ⟨rfl,b2⟩
 by_cases h1:k=1
 ·subst h1
  rw [show zau lang 1=8 from rfl]
  go_enter Tryz.func136,Tryz.ntmps136
  go_wp2_with (first
   |((with_reducible refine zaa (.tmp 3) w.heap.size S ?_ ?_ ?_ ?_);rfl;rfl;rfl)
   |(go_at_call 107;(with_reducible refine (zap 1 b n t x _ 146 rfl _).mono ?_);rintro e w2 ⟨rfl,hb2⟩;have b2:=zad b0 hb2 b0.size;clear hb2)
   |(simp only [znl,ziv,zix,ziy,znm,znn,zno,znp,zi0,Result.andThen_ok]))
  go_ret
  exact ⟨rfl,b2⟩
 by_cases h2:k=2
 ·subst h2
  rw [show zau lang 2=9 from rfl]
  go_enter Tryz.func136,Tryz.ntmps136
  go_wp2_with (first
   |((with_reducible refine zaa (.tmp 3) w.heap.size S ?_ ?_ ?_ ?_);rfl;rfl;rfl)
   |(go_at_call 107;(with_reducible refine (zap 2 b n t x _ 147 rfl _).mono ?_);rintro e w2 ⟨rfl,hb2⟩;have b2:=zad b0 hb2 b0.size;clear hb2)
   |(simp only [znq,zi1,zi2,zi3,zi4,zi5,znr,zns,znt,znu,zi6,Result.andThen_ok]))
  go_ret
  exact ⟨rfl,b2⟩
 by_cases h3:k=3
 ·subst h3
  rw [show zau lang 3=9 from rfl]
  go_enter Tryz.func136,Tryz.ntmps136
  go_wp2_with (first
   |((with_reducible refine zaa (.tmp 3) w.heap.size S ?_ ?_ ?_ ?_);rfl;rfl;rfl)
   |(go_at_call 107;(with_reducible refine (zap 3 b n t x _ 150 rfl _).mono ?_);rintro e w2 ⟨rfl,hb2⟩;have b2:=zad b0 hb2 b0.size;clear hb2)
   |(simp only [zjh,zf6,zf7,zf8,zf9,zga,zji,zjj,zjk,zjl,zgb,Result.andThen_ok]))
  go_ret
  exact ⟨rfl,b2⟩
 by_cases h4:k=4
 ·subst h4
  rw [show zau lang 4=7 from rfl]
  go_enter Tryz.func136,Tryz.ntmps136
  go_wp2_with (first
   |((with_reducible refine zaa (.tmp 3) w.heap.size S ?_ ?_ ?_ ?_);rfl;rfl;rfl)
   |(go_at_call 107;(with_reducible refine (zap 4 b n t x _ 151 rfl _).mono ?_);rintro e w2 ⟨rfl,hb2⟩;have b2:=zad b0 hb2 b0.size;clear hb2)
   |(simp only [zjm,zge,zgf,zjn,zjo,zjp,zjq,zgh,Result.andThen_ok]))
  go_ret
  exact ⟨rfl,b2⟩
 by_cases h5:k=5
 ·subst h5
  rw [show zau lang 5=1 from rfl]
  go_enter Tryz.func136,Tryz.ntmps136
  go_wp2_with (first
   |((with_reducible refine zaa (.tmp 3) w.heap.size S ?_ ?_ ?_ ?_);rfl;rfl;rfl)
   |(go_at_call 107;(with_reducible refine (zap 5 b n t x _ 155 rfl _).mono ?_);rintro e w2 ⟨rfl,hb2⟩;have b2:=zad b0 hb2 b0.size;clear hb2)
   |(simp only [zj1,zg4,Result.andThen_ok]))
  go_ret
  exact ⟨rfl,b2⟩
 by_cases h6:k=6
 ·subst h6
  rw [show zau lang 6=2 from rfl]
  go_enter Tryz.func136,Tryz.ntmps136
  go_wp2_with (first
   |((with_reducible refine zaa (.tmp 3) w.heap.size S ?_ ?_ ?_ ?_);rfl;rfl;rfl)
   |(go_at_call 107;(with_reducible refine (zap 6 b n t x _ 148 rfl _).mono ?_);rintro e w2 ⟨rfl,hb2⟩;have b2:=zad b0 hb2 b0.size;clear hb2)
   |(simp only [zi7,zfw,zfz,Result.andThen_ok]))
  go_ret
  exact ⟨rfl,b2⟩
 by_cases h7:k=7
 ·subst h7
  rw [show zau lang 7=3 from rfl]
  go_enter Tryz.func136,Tryz.ntmps136
  go_wp2_with (first
   |((with_reducible refine zaa (.tmp 3) w.heap.size S ?_ ?_ ?_ ?_);rfl;rfl;rfl)
   |(go_at_call 107;(with_reducible refine (zap 7 b n t x _ 149 rfl _).mono ?_);rintro e w2 ⟨rfl,hb2⟩;have b2:=zad b0 hb2 b0.size;clear hb2)
   |(simp only [zjc,zf2,zf3,zf5,Result.andThen_ok]))
  go_ret
  exact ⟨rfl,b2⟩
 by_cases h8:k=8
 ·subst h8
  rw [show zau lang 8=5 from rfl]
  go_enter Tryz.func136,Tryz.ntmps136
  go_wp2_with (first
   |((with_reducible refine zaa (.tmp 3) w.heap.size S ?_ ?_ ?_ ?_);rfl;rfl;rfl)
   |(go_at_call 107;(with_reducible refine (zap 8 b n t x _ 152 rfl _).mono ?_);rintro e w2 ⟨rfl,hb2⟩;have b2:=zad b0 hb2 b0.size;clear hb2)
   |(simp only [zjr,zgk,zgl,zjt,zju,zgn,Result.andThen_ok]))
  go_ret
  exact ⟨rfl,b2⟩
 by_cases h9:k=9
 ·subst h9
  rw [show zau lang 9=4 from rfl]
  go_enter Tryz.func136,Tryz.ntmps136
  go_wp2_with (first
   |((with_reducible refine zaa (.tmp 3) w.heap.size S ?_ ?_ ?_ ?_);rfl;rfl;rfl)
   |(go_at_call 107;(with_reducible refine (zap 9 b n t x _ 153 rfl _).mono ?_);rintro e w2 ⟨rfl,hb2⟩;have b2:=zad b0 hb2 b0.size;clear hb2)
   |(simp only [zjw,zgq,zgr,zjz,zgt,Result.andThen_ok]))
  go_ret
  exact ⟨rfl,b2⟩
 by_cases h10:k=10
 ·subst h10
  rw [show zau lang 10=6 from rfl]
  go_enter Tryz.func136,Tryz.ntmps136
  go_wp2_with (first
   |((with_reducible refine zaa (.tmp 3) w.heap.size S ?_ ?_ ?_ ?_);rfl;rfl;rfl)
   |(go_at_call 107;(with_reducible refine (zap 10 b n t x _ 154 rfl _).mono ?_);rintro e w2 ⟨rfl,hb2⟩;have b2:=zad b0 hb2 b0.size;clear hb2)
   |(simp only [zgu,zeg,zeh,zgw,zgx,zgy,zej,Result.andThen_ok]))
  go_ret
  exact ⟨rfl,b2⟩
 have hk:zk6 k=188:=by unfold zk6;simp [h0,h1,h2,h3,h4,h5,h6,h7,h8,h9,h10]
 rw [show zau lang k=11 by unfold zau;simp [h0,h1,h2,h3,h4,h5,h6,h7,h8,h9,h10]]
 go_enter Tryz.func136,Tryz.ntmps136
 go_wp2_with (first
  |((with_reducible refine zaa (.tmp 3) w.heap.size S ?_ ?_ ?_ ?_);rfl;rfl;rfl)
  |(go_at_call 107;(with_reducible refine (zap k b n t x _ 188 hk.symm _).mono ?_);rintro e w2 ⟨rfl,hb2⟩;have b2:=zad b0 hb2 b0.size;clear hb2)
  |(simp only [znv,zj6,zj7,zj8,zj9,zka,znw,znx,zny,znz,zkb,Result.andThen_ok]))
 go_ret
 exact ⟨rfl,b2⟩
theorem zoa (a b:Bool) (w:World):Calls Tryz.prog 168 #[.bool a,.bool b] w fun e w'=>e=.returned (.int .i64 (zk7 a b))∧w'=w:=by
 cases a <;> cases b
 all_goals
  go_enter Tryz.func168,Tryz.ntmps168
  go_wp2_with fail
  go_ret
  exact ⟨rfl,rfl⟩
theorem zep:(l m:List UInt8)→Lib.compareBytes l m=zai l m
 | [],[]=>by rfl
 | [],_::_=>by unfold Lib.compareBytes zai;rfl
 | _::_,[]=>by unfold Lib.compareBytes zai;rfl
 | a::x,b::y=>by
   unfold Lib.compareBytes
   rw [zep x y]
   unfold zai
   rw [show Op.bytesLess (a::x) (b::y)=(decide (a < b) || (a == b && Op.bytesLess x y)) from rfl,show Op.bytesLess (b::y) (a::x)=(decide (b < a) || (b == a && Op.bytesLess y x)) from rfl]
   by_cases h:a < b
   ·simp [h]
   ·by_cases g:b < a
    ·have e:a≠b:=by
      intro e
      subst e
      exact h g
     simp [h,g,e]
    ·have e:a=b:=by
      rw [UInt8.lt_iff_toNat_lt] at h g
      exact UInt8.toNat_inj.1 (by omega)
     subst e
     simp [h]
def Tryz.lays106_ren:Go.Shelf.Ren:=⟨fun | 106=>171 | 213=>184 | 265=>195 | n=>n,fun | n=>n,fun | n=>n⟩
theorem Tryz.lays106:Go.Proofs.Lays.n106 Tryz.prog Tryz.lays106_ren:={
 mixed:=by kernel_rfl
 f106:=Tryz.func171.trans (congrArg some (by kernel_rfl))
 f213:=Tryz.func184.trans (congrArg some (by kernel_rfl))
 f265:=Tryz.func195.trans (congrArg some (by kernel_rfl))
 t3:=Tryz.underlying3
 a3:=Tryz.isAgg3
 z3:=Tryz.sizeOf3
 v3:=Tryz.zeroValue3
 t9:=Tryz.underlying9
 a9:=Tryz.isAgg9
 z9:=Tryz.sizeOf9
 v9:=Tryz.zeroValue9 }
theorem zb7 (a b:ByteArray) (w:World):Calls Tryz.prog 171 #[.string a,.string b] w fun e w'=>e=.returned (.int .i64 (zai a.toList b.toList))∧w'=w:=by
 rw [za7,za7,← zep]
 exact Any.strings_Compare Tryz.lays106 a b w
theorem orAt (c d:Int) (g:Nat) (w:World) (h0:w.cell? ⟨g,0,none⟩=some (.int .i64 c)) (h1:w.cell? ⟨g,1,none⟩=some (.int .i64 d)):
 Calls Tryz.prog 170 #[.slice (some ⟨g,0,none⟩) 2 2] w fun e w'=>e=.returned (.int .i64 (lexI c d))∧w'=w:=by
 obtain ⟨r,hr⟩:∃ r,r=lexI c d:=⟨_,rfl⟩
 rw [← hr]
 have HR:=Lib.hid hr
 clear hr
 go_enter Tryz.func170,Tryz.ntmps170
 go_wp2_with fail
 go_loopw [8] (fun i wr=>wr=w∧∃ j:Nat,i=.int .i64 j∧(j=0∨(j=1∧c=0)∨(j=2∧c=0∧d=0))) (fun i _=>2 - (intOf i).toNat)
 case atStart=>exact ⟨rfl,0,rfl,.inl rfl⟩
 case round=>
  obtain ⟨rfl,j,rfl,rfl | ⟨rfl,hc⟩ | ⟨rfl,hc,hd⟩⟩:=hrel
  ·by_cases hc:c=0
   ·have e2:(c != 0)=false:=by simp [hc]
    go_wp2_with fail
    go_roundw
    case rel=>exact ⟨trivial,1,by go_num,.inr (.inl ⟨rfl,hc⟩)⟩
    case measure=>simp [intOf]
   ·have e2:(c != 0)=true:=by simpa using hc
    go_wp2_with fail
    go_ret
    exact ⟨by rw [HR.out,lexI,if_neg hc];rfl,rfl⟩
  ·by_cases hd:d=0
   ·have e2:(d != 0)=false:=by simp [hd]
    go_wp2_with fail
    go_roundw
    case rel=>exact ⟨trivial,2,by go_num,.inr (.inr ⟨rfl,hc,hd⟩)⟩
    case measure=>simp [intOf]
   ·have e2:(d != 0)=true:=by simpa using hd
    go_wp2_with fail
    go_ret
    exact ⟨by rw [HR.out,lexI,if_pos hc];rfl,rfl⟩
  ·go_wp2_with fail
   go_ret
   exact ⟨by rw [HR.out,lexI,if_pos hc,hd];rfl,rfl⟩
theorem zuc (k:Int) (b:Bool) (n:Int) (t x:ByteArray) (p:Option Addr) (len cap:Nat) (k2:Int) (b2:Bool) (n2:Int) (t2 x2:ByteArray) (p2:Option Addr) (len2 cap2:Nat) (w:World) (hG:Gd w) (hT:Tab w) (hf:Fine n t x len) (hf2:Fine n2 t2 x2 len2) (hk:k=2∨k=3) (hk2:k2=2∨k2=3):
 Calls Tryz.prog 169 #[.agg #[.int .i64 k,.bool b,.int .i64 n,.string t,.string x,.slice p len cap],.agg #[.int .i64 k2,.bool b2,.int .i64 n2,.string t2,.string x2,.slice p2 len2 cap2]] w fun e w'=>e=.returned (.int .i64 (lexI (cmpZ (numV k n t) (numV k2 n2 t2)) (lexI (cmpZ k k2) (if k=3 then zai t.toList t2.toList else 0))))∧Low w.heap.size w w':=by
 obtain ⟨W0,hW0⟩:∃ W0,W0=(w.alloc (.cells #[.int .i64 k,.bool b,.int .i64 n,.string t,.string x,.slice p len cap] 39)).alloc (.cells #[.int .i64 k2,.bool b2,.int .i64 n2,.string t2,.string x2,.slice p2 len2 cap2] 39):=⟨_,rfl⟩
 have S4:Six W0 w.heap.size k b n t x p len cap:=by rw [hW0];exact (zaf _ rfl).alloc _
 have S5:Six W0 (w.heap.size+1) k2 b2 n2 t2 x2 p2 len2 cap2:=by rw [hW0];exact zaf _ (by simp)
 have b0:Low w.heap.size w W0:=by rw [hW0];exact low2 _ _ _
 have hN:=fun W (h:Low w.heap.size w W)=>zt6 k b n t x p len cap k2 b2 n2 t2 x2 p2 len2 cap2 W (hG.below h.is) (hT.below h.is) hf hf2
 have hB2:=fun W=>zip 2 k b n t x (.slice p len cap) k2 b2 n2 t2 x2 (.slice p2 len2 cap2) W
 have hB3:=fun W=>zip 3 k b n t x (.slice p len cap) k2 b2 n2 t2 x2 (.slice p2 len2 cap2) W
 have hS:=fun W=>zb7 t t2 W
 have H0:=Lib.hid hW0
 clear hf hf2 hG hT hW0
 generalize cmpZ (numV k n t) (numV k2 n2 t2)=c at hN ⊢
 generalize zai t.toList t2.toList=s at hS ⊢
 obtain ⟨r2,hr2⟩:∃ r,r=(k == 2 && k2 == 2):=⟨_,rfl⟩
 obtain ⟨r3,hr3⟩:∃ r,r=(k == 3 && k2 == 3):=⟨_,rfl⟩
 rw [← hr2] at hB2
 rw [← hr3] at hB3
 by_cases hc:c=0
 ·subst hc
  rw [zbi]
  rcases hk with rfl | rfl <;> rcases hk2 with rfl | rfl
  ·obtain rfl:r2=true:=hr2
   obtain rfl:r3=false:=hr3
   rw [show lexI (cmpZ 2 2) (if (2:Int)=3 then s else 0)=0 from rfl]
   go_enter Tryz.func169,Tryz.ntmps169
   go_wp2_with (first
    |(rw [← H0.out];(with_reducible refine zaa (.tmp 2) w.heap.size S4 ?_ ?_ ?_ ?_);rfl;rfl;rfl)
    |((with_reducible refine zaa (.tmp 2) w.heap.size S4 ?_ ?_ ?_ ?_);rfl;rfl;rfl)
    |((with_reducible refine zaa (.tmp 3) (w.heap.size+1) S5 ?_ ?_ ?_ ?_);rfl;rfl;rfl)
    |((with_reducible refine zaj (.tmp 2) w.heap.size S4 ?_ ?_ ?_ ?_);rfl;rfl;rfl)
    |((with_reducible refine zaj (.tmp 3) (w.heap.size+1) S5 ?_ ?_ ?_ ?_);rfl;rfl;rfl)
    |(go_at_call 182;(with_reducible refine (hN _ b0).mono ?_);rintro e w' ⟨rfl,hb⟩;replace S4:=S4.below hb.is;replace S5:=S5.below hb.is;replace b0:=zad b0 hb b0.size;have f3:=S4.c3;have g3:=S5.c3;have f0:=S4.c0;clear hb)
    |(go_at_call 183;(with_reducible refine (hB2 _).mono ?_);rintro e w' ⟨rfl,hb⟩;replace S4:=S4.below hb.is;replace S5:=S5.below hb.is;replace b0:=zad b0 hb b0.size;have f3:=S4.c3;have g3:=S5.c3;have f0:=S4.c0;clear hb)
    |(go_at_call 183;(with_reducible refine (hB3 _).mono ?_);rintro e w' ⟨rfl,hb⟩;replace S4:=S4.below hb.is;replace S5:=S5.below hb.is;replace b0:=zad b0 hb b0.size;have f3:=S4.c3;have g3:=S5.c3;have f0:=S4.c0;clear hb)
    |(go_at_call 171;(with_reducible refine (hS _).mono ?_);rintro e w' ⟨rfl,rfl⟩))
   go_ret
   exact ⟨rfl,b0⟩
  ·obtain rfl:r2=false:=hr2
   obtain rfl:r3=false:=hr3
   rw [show lexI (cmpZ 2 3) (if (2:Int)=3 then s else 0)=-1 from rfl]
   go_enter Tryz.func169,Tryz.ntmps169
   go_wp2_with (first
    |(rw [← H0.out];(with_reducible refine zaa (.tmp 2) w.heap.size S4 ?_ ?_ ?_ ?_);rfl;rfl;rfl)
    |((with_reducible refine zaa (.tmp 2) w.heap.size S4 ?_ ?_ ?_ ?_);rfl;rfl;rfl)
    |((with_reducible refine zaa (.tmp 3) (w.heap.size+1) S5 ?_ ?_ ?_ ?_);rfl;rfl;rfl)
    |((with_reducible refine zaj (.tmp 2) w.heap.size S4 ?_ ?_ ?_ ?_);rfl;rfl;rfl)
    |((with_reducible refine zaj (.tmp 3) (w.heap.size+1) S5 ?_ ?_ ?_ ?_);rfl;rfl;rfl)
    |(go_at_call 182;(with_reducible refine (hN _ b0).mono ?_);rintro e w' ⟨rfl,hb⟩;replace S4:=S4.below hb.is;replace S5:=S5.below hb.is;replace b0:=zad b0 hb b0.size;have f3:=S4.c3;have g3:=S5.c3;have f0:=S4.c0;clear hb)
    |(go_at_call 183;(with_reducible refine (hB2 _).mono ?_);rintro e w' ⟨rfl,hb⟩;replace S4:=S4.below hb.is;replace S5:=S5.below hb.is;replace b0:=zad b0 hb b0.size;have f3:=S4.c3;have g3:=S5.c3;have f0:=S4.c0;clear hb)
    |(go_at_call 183;(with_reducible refine (hB3 _).mono ?_);rintro e w' ⟨rfl,hb⟩;replace S4:=S4.below hb.is;replace S5:=S5.below hb.is;replace b0:=zad b0 hb b0.size;have f3:=S4.c3;have g3:=S5.c3;have f0:=S4.c0;clear hb)
    |(go_at_call 171;(with_reducible refine (hS _).mono ?_);rintro e w' ⟨rfl,rfl⟩))
   go_ret
   exact ⟨rfl,b0⟩
  ·obtain rfl:r2=false:=hr2
   obtain rfl:r3=false:=hr3
   rw [show lexI (cmpZ 3 2) (if (3:Int)=3 then s else 0)=1 from rfl]
   go_enter Tryz.func169,Tryz.ntmps169
   go_wp2_with (first
    |(rw [← H0.out];(with_reducible refine zaa (.tmp 2) w.heap.size S4 ?_ ?_ ?_ ?_);rfl;rfl;rfl)
    |((with_reducible refine zaa (.tmp 2) w.heap.size S4 ?_ ?_ ?_ ?_);rfl;rfl;rfl)
    |((with_reducible refine zaa (.tmp 3) (w.heap.size+1) S5 ?_ ?_ ?_ ?_);rfl;rfl;rfl)
    |((with_reducible refine zaj (.tmp 2) w.heap.size S4 ?_ ?_ ?_ ?_);rfl;rfl;rfl)
    |((with_reducible refine zaj (.tmp 3) (w.heap.size+1) S5 ?_ ?_ ?_ ?_);rfl;rfl;rfl)
    |(go_at_call 182;(with_reducible refine (hN _ b0).mono ?_);rintro e w' ⟨rfl,hb⟩;replace S4:=S4.below hb.is;replace S5:=S5.below hb.is;replace b0:=zad b0 hb b0.size;have f3:=S4.c3;have g3:=S5.c3;have f0:=S4.c0;clear hb)
    |(go_at_call 183;(with_reducible refine (hB2 _).mono ?_);rintro e w' ⟨rfl,hb⟩;replace S4:=S4.below hb.is;replace S5:=S5.below hb.is;replace b0:=zad b0 hb b0.size;have f3:=S4.c3;have g3:=S5.c3;have f0:=S4.c0;clear hb)
    |(go_at_call 183;(with_reducible refine (hB3 _).mono ?_);rintro e w' ⟨rfl,hb⟩;replace S4:=S4.below hb.is;replace S5:=S5.below hb.is;replace b0:=zad b0 hb b0.size;have f3:=S4.c3;have g3:=S5.c3;have f0:=S4.c0;clear hb)
    |(go_at_call 171;(with_reducible refine (hS _).mono ?_);rintro e w' ⟨rfl,rfl⟩))
   go_ret
   exact ⟨rfl,b0⟩
  ·obtain rfl:r2=false:=hr2
   obtain rfl:r3=true:=hr3
   rw [show lexI (cmpZ 3 3) (if (3:Int)=3 then s else 0)=s from rfl]
   go_enter Tryz.func169,Tryz.ntmps169
   go_wp2_with (first
    |(rw [← H0.out];(with_reducible refine zaa (.tmp 2) w.heap.size S4 ?_ ?_ ?_ ?_);rfl;rfl;rfl)
    |((with_reducible refine zaa (.tmp 2) w.heap.size S4 ?_ ?_ ?_ ?_);rfl;rfl;rfl)
    |((with_reducible refine zaa (.tmp 3) (w.heap.size+1) S5 ?_ ?_ ?_ ?_);rfl;rfl;rfl)
    |((with_reducible refine zaj (.tmp 2) w.heap.size S4 ?_ ?_ ?_ ?_);rfl;rfl;rfl)
    |((with_reducible refine zaj (.tmp 3) (w.heap.size+1) S5 ?_ ?_ ?_ ?_);rfl;rfl;rfl)
    |(go_at_call 182;(with_reducible refine (hN _ b0).mono ?_);rintro e w' ⟨rfl,hb⟩;replace S4:=S4.below hb.is;replace S5:=S5.below hb.is;replace b0:=zad b0 hb b0.size;have f3:=S4.c3;have g3:=S5.c3;have f0:=S4.c0;clear hb)
    |(go_at_call 183;(with_reducible refine (hB2 _).mono ?_);rintro e w' ⟨rfl,hb⟩;replace S4:=S4.below hb.is;replace S5:=S5.below hb.is;replace b0:=zad b0 hb b0.size;have f3:=S4.c3;have g3:=S5.c3;have f0:=S4.c0;clear hb)
    |(go_at_call 183;(with_reducible refine (hB3 _).mono ?_);rintro e w' ⟨rfl,hb⟩;replace S4:=S4.below hb.is;replace S5:=S5.below hb.is;replace b0:=zad b0 hb b0.size;have f3:=S4.c3;have g3:=S5.c3;have f0:=S4.c0;clear hb)
    |(go_at_call 171;(with_reducible refine (hS _).mono ?_);rintro e w' ⟨rfl,rfl⟩))
   go_ret
   exact ⟨rfl,b0⟩
 ·rw [show lexI c (lexI (cmpZ k k2) (if k=3 then s else 0))=c from if_neg hc]
  have hc2:(c != 0)=true:=by simpa using hc
  clear hk hk2 hr2 hr3 hc
  go_enter Tryz.func169,Tryz.ntmps169
  go_wp2_with (first
   |(rw [← H0.out];(with_reducible refine zaa (.tmp 2) w.heap.size S4 ?_ ?_ ?_ ?_);rfl;rfl;rfl)
   |((with_reducible refine zaa (.tmp 2) w.heap.size S4 ?_ ?_ ?_ ?_);rfl;rfl;rfl)
   |((with_reducible refine zaa (.tmp 3) (w.heap.size+1) S5 ?_ ?_ ?_ ?_);rfl;rfl;rfl)
   |((with_reducible refine zaj (.tmp 2) w.heap.size S4 ?_ ?_ ?_ ?_);rfl;rfl;rfl)
   |((with_reducible refine zaj (.tmp 3) (w.heap.size+1) S5 ?_ ?_ ?_ ?_);rfl;rfl;rfl)
   |(go_at_call 182;(with_reducible refine (hN _ b0).mono ?_);rintro e w' ⟨rfl,hb⟩;replace S4:=S4.below hb.is;replace S5:=S5.below hb.is;replace b0:=zad b0 hb b0.size;have f3:=S4.c3;have g3:=S5.c3;have f0:=S4.c0;clear hb)
   |(go_at_call 183;(with_reducible refine (hB2 _).mono ?_);rintro e w' ⟨rfl,hb⟩;replace S4:=S4.below hb.is;replace S5:=S5.below hb.is;replace b0:=zad b0 hb b0.size;have f3:=S4.c3;have g3:=S5.c3;have f0:=S4.c0;clear hb)
   |(go_at_call 183;(with_reducible refine (hB3 _).mono ?_);rintro e w' ⟨rfl,hb⟩;replace S4:=S4.below hb.is;replace S5:=S5.below hb.is;replace b0:=zad b0 hb b0.size;have f3:=S4.c3;have g3:=S5.c3;have f0:=S4.c0;clear hb)
   |(go_at_call 171;(with_reducible refine (hS _).mono ?_);rintro e w' ⟨rfl,rfl⟩))
  go_ret
  exact ⟨rfl,b0⟩
def zob (v:Val):Prop:=∀ (lang:Int) (W:World) (k:Int) (b:Bool) (n:Int) (t x:ByteArray) (q:List Val) (p:Option Addr) (cap:Nat) (v2:Val) (k2:Int) (b2:Bool) (n2:Int) (t2 x2:ByteArray) (q2:List Val) (p2:Option Addr) (cap2:Nat),
 v=.mk k b n t x q→v2=.mk k2 b2 n2 t2 x2 q2→Gd W→Tab W→Fine n t x q.length→Fine n2 t2 x2 q2.length→Held W (.slice p q.length cap) q→Held W (.slice p2 q2.length cap2) q2→
 Calls Tryz.prog 102 #[.int .i64 lang,.agg #[.int .i64 k,.bool b,.int .i64 n,.string t,.string x,.slice p q.length cap],.agg #[.int .i64 k2,.bool b2,.int .i64 n2,.string t2,.string x2,.slice p2 q2.length cap2]] W
  fun e w'=>e=.returned (.int .i64 (zan lang v v2))∧Low W.heap.size W w'
theorem zl2 (lang:Int) (l l2:List Val) (j:Nat) (h:j < l.length) (h2:j < l2.length):zbh lang (l.drop j) (l2.drop j)=lexI (zan lang l[j] l2[j]) (zbh lang (l.drop (j+1)) (l2.drop (j+1))):=by
 rw [List.drop_eq_getElem_cons h,List.drop_eq_getElem_cons h2,zbh]
theorem zl3 (lang:Int) (l l2:List Val) (j:Nat) (h:j < l.length) (h2:l2.length≤j):zbh lang (l.drop j) (l2.drop j)=1:=by
 rw [List.drop_eq_getElem_cons h,List.drop_eq_nil_of_le h2,zbh]
theorem zkn (lang:Int) (l l2:List Val) (h2:l.length < l2.length):zbh lang (l.drop l.length) (l2.drop l.length)=-1:=by
 rw [List.drop_eq_nil_of_le (Nat.le_refl _),List.drop_eq_getElem_cons h2,zbh]
theorem zoc (lang:Int) (l l2:List Val) (h2:l2.length≤l.length):zbh lang (l.drop l.length) (l2.drop l.length)=0:=by
 rw [List.drop_eq_nil_of_le (Nat.le_refl _),List.drop_eq_nil_of_le h2,zbh]
theorem zsp {v:Val} (h:zob v) (lang:Int) (gl:Nat) (W:World) (k:Int) (b:Bool) (n:Int) (t x:ByteArray) (q:List Val) (p:Option Addr) (cap:Nat) (v2:Val) (k2:Int) (b2:Bool) (n2:Int) (t2 x2:ByteArray) (q2:List Val) (p2:Option Addr) (cap2:Nat)
 (e1:v=.mk k b n t x q) (e2:v2=.mk k2 b2 n2 t2 x2 q2) (hG:Gd W) (hT:Tab W) (hf:Fine n t x q.length) (hf2:Fine n2 t2 x2 q2.length) (hl:Held W (.slice p q.length cap) q) (hl2:Held W (.slice p2 q2.length cap2) q2) (hcl:W.cell? ⟨gl,0,none⟩=some (.int .i64 lang)):
 Calls Tryz.prog 166 #[.agg #[.int .i64 k,.bool b,.int .i64 n,.string t,.string x,.slice p q.length cap],.agg #[.int .i64 k2,.bool b2,.int .i64 n2,.string t2,.string x2,.slice p2 q2.length cap2],.pointer (some ⟨gl,0,none⟩)] W
  fun e w'=>e=.returned (.int .i64 (zan lang v v2))∧Low W.heap.size W w':=by
 obtain ⟨W0,hW0⟩:∃ W0,W0=(W.alloc (.cells #[.int .i64 k,.bool b,.int .i64 n,.string t,.string x,.slice p q.length cap] 39)).alloc (.cells #[.int .i64 k2,.bool b2,.int .i64 n2,.string t2,.string x2,.slice p2 q2.length cap2] 39):=⟨_,rfl⟩
 have S4:Six W0 W.heap.size k b n t x p q.length cap:=by rw [hW0];exact (zaf _ rfl).alloc _
 have S5:Six W0 (W.heap.size+1) k2 b2 n2 t2 x2 p2 q2.length cap2:=by rw [hW0];exact zaf _ (by simp)
 have b0:Low W.heap.size W W0:=by rw [hW0];exact low2 _ _ _
 have hc0:W0.cell? ⟨gl,0,none⟩=some (.int .i64 lang):=(b0.cell (p:=⟨gl,0,none⟩) (World.block_lt_of_cell? W _ hcl)).trans hcl
 have hc:=h lang W0 k b n t x q p cap v2 k2 b2 n2 t2 x2 q2 p2 cap2 e1 e2 (hG.below b0.is) (hT.below b0.is) hf hf2 (Held.below q hl b0.is) (Held.below q2 hl2 b0.is)
 have hc00:=hc0
 rw [hW0] at hc00
 have z0:=b0.size
 have H0:=Lib.hid hW0
 clear hl hl2 hf hf2 hG hT hW0 e1 e2 h hcl
 generalize zan lang v v2=r at hc ⊢
 go_enter Tryz.func166,Tryz.ntmps166
 go_wp2_with (first
  |(rw [← H0.out];(with_reducible refine zaa (.tmp 3) W.heap.size S4 ?_ ?_ ?_ ?_);rfl;rfl;rfl)
  |((with_reducible refine zaa (.tmp 3) W.heap.size S4 ?_ ?_ ?_ ?_);rfl;rfl;rfl)
  |((with_reducible refine zaa (.tmp 4) (W.heap.size+1) S5 ?_ ?_ ?_ ?_);rfl;rfl;rfl)
  |(go_at_call 102;(with_reducible refine hc.mono ?_);rintro e w3 ⟨rfl,hb3⟩;replace b0:=zad b0 hb3 z0))
 go_ret
 exact ⟨rfl,b0⟩
theorem zsq (lang:Int) (p p2:Option Addr) (l2:List Val) (cap cap2:Nat) (F:Value) (w:World):
 Calls Tryz.prog 165 #[.slice p 0 cap,.slice p2 l2.length cap2,F] w fun e w'=>e=.returned (.int .i64 (zbh lang [] l2))∧Low w.heap.size w w':=by
 cases l2 with
 | nil=>
   rw [show zbh lang [] []=0 from by unfold zbh;rfl,List.length_nil]
   go_enter Tryz.func165,Tryz.ntmps165
   go_wp2_with fail
   go_loopw [13] (fun i wr=>i=.int .i64 0∧wr=w) (fun _ _=>0)
   case atStart=>exact ⟨rfl,rfl⟩
   case round=>
    obtain ⟨rfl,rfl⟩:=hrel
    go_wp2_with fail
    go_ret
    exact ⟨rfl,Low.refl _ _⟩
 | cons v r=>
   rw [show zbh lang [] (v::r)=-1 from by unfold zbh;rfl,List.length_cons]
   go_enter Tryz.func165,Tryz.ntmps165
   go_wp2_with fail
   go_loopw [13] (fun i wr=>i=.int .i64 0∧wr=w) (fun _ _=>0)
   case atStart=>exact ⟨rfl,rfl⟩
   case round=>
    obtain ⟨rfl,rfl⟩:=hrel
    go_wp2_with fail
    go_ret
    exact ⟨rfl,Low.refl _ _⟩
theorem zko (lang:Int) (gl:Nat) (l l2:List Val) (g off cap:Nat) (P2:Option Addr) (g2 off2 cap2:Nat) (w:World) (hG:Gd w) (hT:Tab w) (hcl:w.cell? ⟨gl,0,none⟩=some (.int .i64 lang)) (hl:zar w g off l) (hl2:zar w g2 off2 l2)
 (hP2:0 < l2.length→P2=some ⟨g2,off2,none⟩) (hn:l.length≤2097152) (hn2:l2.length≤2097152) (each:∀ v∈l,zob v):
 Calls Tryz.prog 165 #[.slice (some ⟨g,off,none⟩) l.length cap,.slice P2 l2.length cap2,.func (.func 166) #[] #[.pointer (some ⟨gl,0,none⟩)]] w fun e w'=>e=.returned (.int .i64 (zbh lang l l2))∧Low w.heap.size w w':=by
 have HH:=Lib.hid hl
 have HH2:=Lib.hid hl2
 have HE:=Lib.hid each
 have HP:=Lib.hid hP2
 clear hl hl2 each hP2
 go_enter Tryz.func165,Tryz.ntmps165
 go_wp2_with fail
 go_loopw [13] (fun i wr=>∃ j:Nat,j≤l.length∧i=.int .i64 j∧Low w.heap.size w wr∧Hid (zbh lang l l2=zbh lang (l.drop j) (l2.drop j))) (fun i _=>l.length - (intOf i).toNat)
 case atStart=>exact ⟨0,Nat.zero_le _,rfl,Low.refl _ _,Lib.hid (by rw [List.drop_zero,List.drop_zero])⟩
 case round=>
  obtain ⟨j,hj,rfl,hb,HA⟩:=hrel
  by_cases hlt:j < l.length
  ·obtain ⟨k,b,n,t,x,q,p,cp,o1⟩:=((zar.at_ l off HH.out j hlt).below _ hb.is).opens
   have hs:w.heap.size≤wr.heap.size:=hb.size
   by_cases hlt2:j < l2.length
   ·obtain rfl:=HP.out (by omega)
    obtain ⟨k2,b2,n2,t2,x2,q2,p2,cp2,o2⟩:=((zar.at_ l2 off2 HH2.out j hlt2).below _ hb.is).opens
    obtain ⟨c1,hc1⟩:∃ c1,c1=Obj.cells #[.int .i64 k,.bool b,.int .i64 n,.string t,.string x,.slice p q.length cp] 39:=⟨_,rfl⟩
    obtain ⟨c2,hc2⟩:∃ c2,c2=Obj.cells #[.int .i64 k2,.bool b2,.int .i64 n2,.string t2,.string x2,.slice p2 q2.length cp2] 39:=⟨_,rfl⟩
    have bb:=low2 wr c1 c2
    have b0:Low w.heap.size w ((wr.alloc c1).alloc c2):=(hb.alloc hs _).alloc (by simp;omega) _
    have hcl2:((wr.alloc c1).alloc c2).cell? ⟨gl,0,none⟩=some (.int .i64 lang):=(b0.cell (p:=⟨gl,0,none⟩) (World.block_lt_of_cell? w _ hcl)).trans hcl
    have hc:=zsp (HE.out l[j] (List.getElem_mem hlt)) lang gl ((wr.alloc c1).alloc c2) k b n t x q p cp l2[j] k2 b2 n2 t2 x2 q2 p2 cp2 o1.e o2.e (hG.below b0.is) (hT.below b0.is) o1.hf o2.hf (Held.below q o1.hl bb.is) (Held.below q2 o2.hl bb.is) hcl2
    obtain ⟨r,hr⟩:∃ r,r=zan lang l[j] l2[j]:=⟨_,rfl⟩
    rw [← hr] at hc
    have hA:=HA.out
    rw [zl2 lang l l2 j hlt hlt2,← hr] at hA
    have l0:Six ((wr.alloc c1).alloc c2) wr.heap.size k b n t x p q.length cp:=by rw [hc1];exact (zaf _ rfl).alloc _
    have l1:Six ((wr.alloc c1).alloc c2) (wr.heap.size+1) k2 b2 n2 t2 x2 p2 q2.length cp2:=by rw [hc2];exact zaf _ (by simp)
    have z0:w.heap.size≤((wr.alloc c1).alloc c2).heap.size:=b0.size
    have O1:=Lib.hid o1
    have O2:=Lib.hid (o2.below (low1 wr c1).is)
    clear o1 o2 bb hr HA hcl2
    by_cases hr0:r=0
    ·subst hr0
     rw [zbi] at hA
     have HA:=Lib.hid hA
     clear hA
     subst hc1 hc2
     go_wp2_with (first
      |((with_reducible refine zax (.tmp 16) g (off+j*6) k b n t x (.slice p q.length cp) O1.out.c0 O1.out.c1 O1.out.c2 O1.out.c3 O1.out.c4 O1.out.c5 ?_ ?_ ?_ ?_);rfl;rfl;rfl)
      |((with_reducible refine zax (.tmp 24) g2 (off2+j*6) k2 b2 n2 t2 x2 (.slice p2 q2.length cp2) O2.out.c0 O2.out.c1 O2.out.c2 O2.out.c3 O2.out.c4 O2.out.c5 ?_ ?_ ?_ ?_);rfl;rfl;rfl)
      |((with_reducible refine zaa (.tmp 8) wr.heap.size l0 ?_ ?_ ?_ ?_);rfl;rfl;rfl)
      |((with_reducible refine zaa (.tmp 9) (wr.heap.size+1) l1 ?_ ?_ ?_ ?_);rfl;rfl;rfl)
      |(go_at_call 166;(with_reducible refine hc.mono ?_);rintro e w3 ⟨rfl,hb3⟩;have b3:=zad b0 hb3 z0))
     go_roundw
     case rel=>exact ⟨j+1,by omega,by go_num,b3,HA⟩
     case measure=>simp [intOf];omega
    ·have e:lexI r (zbh lang (l.drop (j+1)) (l2.drop (j+1)))=r:=by unfold lexI;rw [if_neg hr0]
     rw [e] at hA
     have HA:=Lib.hid hA
     have e2:(r != 0)=true:=by simpa using hr0
     clear hA e
     subst hc1 hc2
     go_wp2_with (first
      |((with_reducible refine zax (.tmp 16) g (off+j*6) k b n t x (.slice p q.length cp) O1.out.c0 O1.out.c1 O1.out.c2 O1.out.c3 O1.out.c4 O1.out.c5 ?_ ?_ ?_ ?_);rfl;rfl;rfl)
      |((with_reducible refine zax (.tmp 24) g2 (off2+j*6) k2 b2 n2 t2 x2 (.slice p2 q2.length cp2) O2.out.c0 O2.out.c1 O2.out.c2 O2.out.c3 O2.out.c4 O2.out.c5 ?_ ?_ ?_ ?_);rfl;rfl;rfl)
      |((with_reducible refine zaa (.tmp 8) wr.heap.size l0 ?_ ?_ ?_ ?_);rfl;rfl;rfl)
      |((with_reducible refine zaa (.tmp 9) (wr.heap.size+1) l1 ?_ ?_ ?_ ?_);rfl;rfl;rfl)
      |(go_at_call 166;(with_reducible refine hc.mono ?_);rintro e w3 ⟨rfl,hb3⟩;have b3:=zad b0 hb3 z0))
     go_ret
     exact ⟨by rw [HA.out];rfl,b3⟩
   ·have hA:=HA.out
    rw [zl3 lang l l2 j hlt (by omega)] at hA
    have HA2:=Lib.hid hA
    have O1:=Lib.hid o1
    have b0:Low w.heap.size w (wr.alloc (.cells #[.int .i64 k,.bool b,.int .i64 n,.string t,.string x,.slice p q.length cp] 39)):=hb.alloc hs _
    clear hA HA o1
    go_wp2_with (first
     |((with_reducible refine zax (.tmp 16) g (off+j*6) k b n t x (.slice p q.length cp) O1.out.c0 O1.out.c1 O1.out.c2 O1.out.c3 O1.out.c4 O1.out.c5 ?_ ?_ ?_ ?_);rfl;rfl;rfl))
    go_ret
    exact ⟨by rw [HA2.out];rfl,b0⟩
  ·obtain rfl:j=l.length:=by omega
   have hA:=HA.out
   by_cases hs:l.length < l2.length
   ·rw [zkn lang l l2 hs] at hA
    have HA2:=Lib.hid hA
    clear hA HA
    go_wp2_with fail
    go_ret
    exact ⟨by rw [HA2.out];rfl,hb⟩
   ·rw [zoc lang l l2 (by omega)] at hA
    have HA2:=Lib.hid hA
    clear hA HA
    go_wp2_with fail
    go_ret
    exact ⟨by rw [HA2.out];rfl,hb⟩
theorem zud (lang:Int) (gl:Nat) (l l2:List Val) (p p2:Option Addr) (cap cap2:Nat) (w:World) (hG:Gd w) (hT:Tab w) (hcl:w.cell? ⟨gl,0,none⟩=some (.int .i64 lang)) (hl:Held w (.slice p l.length cap) l) (hl2:Held w (.slice p2 l2.length cap2) l2) (hn:l.length≤2097152) (hn2:l2.length≤2097152) (each:∀ v∈l,zob v):
 Calls Tryz.prog 165 #[.slice p l.length cap,.slice p2 l2.length cap2,.func (.func 166) #[] #[.pointer (some ⟨gl,0,none⟩)]] w fun e w'=>e=.returned (.int .i64 (zbh lang l l2))∧Low w.heap.size w w':=by
 cases l with
 | nil=>exact zsq lang p p2 l2 cap cap2 _ w
 | cons v r=>
   obtain ⟨g,off,rfl,hh⟩:=hl.form
   cases l2 with
   | nil=>exact zko lang gl (v::r) [] g off cap p2 0 0 cap2 w hG hT hcl hh (by unfold zar;trivial) (fun h=>absurd h (by simp)) hn hn2 each
   | cons v2 r2=>
     obtain ⟨g2,off2,rfl,hh2⟩:=hl2.form
     exact zko lang gl (v::r) (v2::r2) g off cap _ g2 off2 cap2 w hG hT hcl hh hh2 (fun _=>rfl) hn hn2 each
end Go.Proofs.YtanbgdhmfjgihaaGreatDoor
