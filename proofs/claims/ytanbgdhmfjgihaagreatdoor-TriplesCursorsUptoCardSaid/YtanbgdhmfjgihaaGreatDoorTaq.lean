/- Texts of one kind, one behind the other: each says ahead of itself what it shows. -/
import Derived.Test.YtanbgdhmfjgihaaGreatDoorTap
import Derived.Lib.ItoaLen
import Derived.Test.YtanbgdhmfjgihaaGreatDoorTao
import Derived.Test.YtanbgdhmfjgihaaGreatDoorTah
import Derived.Test.YtanbgdhmfjgihaaGreatDoorTak
import Derived.Laws.Cover1
namespace Go.Proofs.YtanbgdhmfjgihaaGreatDoor
open Go.RowKit
set_option maxHeartbeats 12800000
set_option maxRecDepth 20000
theorem zm1 {u:Nat} {X:ByteArray} {full:List UInt8} (h:Lib.decDigits u++X.data.toList=full) (hu:10≤u):
 Lib.decDigits (u / 10)++(bs [UInt8.ofNat (48+u % 10)]++X).data.toList=full:=by
 have e:(bs [UInt8.ofNat (48+u % 10)]++X).data.toList=UInt8.ofNat (48+u % 10)::X.data.toList:=by
  rw [ByteArray.data_append,Array.toList_append];rfl
 have:=zra u X.data.toList
 rw [if_neg (by omega)] at this
 rw [e,this,h]
theorem zm2 {u:Nat} {X:ByteArray} {full:List UInt8} (h:Lib.decDigits u++X.data.toList=full) (hu:u < 10):
 bs [UInt8.ofNat (48+u % 10)]++X=bs full:=by
 apply zbs
 have e:(bs [UInt8.ofNat (48+u % 10)]++X).data.toList=UInt8.ofNat (48+u % 10)::X.data.toList:=by
  rw [ByteArray.data_append,Array.toList_append];rfl
 have:=zra u X.data.toList
 rw [if_pos hu] at this
 rw [e]
 show _=full
 rw [← h,← this];rfl
theorem zrb (W:World) (d:Nat) (hd:d≤9):(convert 163 9 (.slice (some ⟨W.heap.size,0,none⟩) 1 1)).run Tryz.prog (W.alloc (.cells #[.int .u8 (48+(d:Int))] 5))=.ok (.string (bs [UInt8.ofNat (48+d)])) (W.alloc (.cells #[.int .u8 (48+(d:Int))] 5)):=by
 have:=run_convert_bytes_back (P:=Tryz.prog) (W.alloc (.cells #[.int .u8 (48+(d:Int))] 5)) 163 9 5 ⟨W.heap.size,0,none⟩ 1 [UInt8.ofNat (48+d)] Tryz.underlying163 Tryz.underlying5 Tryz.underlying9 (fun j hj=>by
  have:j=0:=by simp at hj;exact hj
  subst this
  rw [Addr.add_mid,Nat.zero_add]
  refine (zab (zah W _ rfl) 0 rfl).trans ?_
  have e8:(UInt8.ofNat (48+d)).toNat=48+d:=by rw [UInt8.toNat_ofNat'];omega
  show some (Value.int .u8 (48+(d:Int)))=some (Value.int .u8 (((UInt8.ofNat (48+d)).toNat:Nat):Int))
  rw [e8,Int.natCast_add];rfl)
 exact this
theorem zp3 (n:Nat) (h1:n < 9223372036854775808) (w:World) (F:ByteArray) (hF:Hid (F=bs (Lib.decDigits n))):
 Calls Tryz.prog 98 #[.int .i64 n] w fun e w'=>e=.returned (.string (F++⟨#[46,48]⟩))∧Below w.heap.size w w':=by
 have hlen:(Lib.decDigits n).length≤21:=by
  have:=Lib.itoa_length_le n (by omega) (by omega)
  rwa [Lib.itoa_nonneg] at this
 have HL:=Lib.hid hlen
 have HFS:F.size≤21:=by rw [hF.out];simpa [ByteArray.size] using hlen
 clear hlen
 go_enter Tryz.func98,Tryz.ntmps98
 go_wp2_with fail
 go_loopg [3,4] n (fun gg s3 s4 wr=>∃ (u:Nat) (X:ByteArray),u≤gg∧u≤9223372036854775807∧s4=.int .i64 u∧s3=.string X∧X.size≤21∧Hid (Lib.decDigits u++X.data.toList=Lib.decDigits n)∧Below w.heap.size w wr)
 case atStart=>exact ⟨n,⟨#[]⟩,Nat.le_refl _,by omega,rfl,rfl,by decide,Lib.hid (List.append_nil _),Below.refl _ _⟩
 case round=>
  obtain ⟨u,X,hug,hub,rfl,rfl,hxs,HX,hb⟩:=hrel
  obtain ⟨d,hd⟩:∃ d,d=u % 10:=⟨_,rfl⟩
  have hd9:d≤9:=by omega
  have e1:(u:Int) % 10=d:=by omega
  have hw1:IntKind.u8.wrap (48+(d:Int))=48+d:=by unfold IntKind.wrap;simp [IntKind.bits,IntKind.signed];omega
  obtain ⟨C,hC⟩:∃ C,C=bs [UInt8.ofNat (48+d)]:=⟨_,rfl⟩
  have hcv:=zrb wr d hd9
  rw [← hC] at hcv
  have hcs:C.size=1:=by rw [hC];rfl
  have hcs2:C.size≤1:=by omega
  have HC:=Lib.hid hC
  have HD:=Lib.hid hd
  have hbn:=hb.alloc hb.size (.cells #[.int .u8 (48+(d:Int))] 5)
  clear hC hd hcs
  by_cases h10:u < 10
  ·have e2:(u:Int) / 10=0:=by omega
   have hl:=zm2 HX.out h10
   rw [← HD.out,← HC.out] at hl
   have HLL:Hid (C++X=F):=Lib.hid (by rw [hl,hF.out])
   clear hl
   go_wp2_with fail
   go_ret
   exact ⟨by rw [← HLL.out];rfl,hbn⟩
  ·obtain ⟨q,hq⟩:∃ q,q=u / 10:=⟨_,rfl⟩
   have e2:(u:Int) / 10=q:=by omega
   have hq0:¬ (q:Int)=0:=by omega
   have hq0b:((q:Int) == 0)=false:=by simpa using hq0
   have hs:=zm1 HX.out (by omega)
   rw [← HD.out,← HC.out,← hq] at hs
   have HSS:=Lib.hid hs
   clear hs hq
   have hsz:(C++X).size≤21:=by
    have h1:=congrArg List.length HSS.out
    have h2:=HL.out
    rw [List.length_append] at h1
    have h3:(C++X).data.toList.length=(C++X).size:=Array.length_toList
    omega
   have HSZ:=Lib.hid hsz
   clear hsz
   go_wp2_with fail
   go_roundg q
   case measure=>omega
   case rel=>exact ⟨q,C++X,Nat.le_refl _,by omega,rfl,rfl,HSZ.out,HSS,hbn⟩
theorem zid (u:Nat):(-(u:Int)).tdiv 10=-((u / 10:Nat):Int):=by
 rw [Int.neg_tdiv,show (10:Int)=((10:Nat):Int) from rfl,← Int.ofNat_tdiv]
theorem zww (u:Nat):(-(u:Int)).tmod 10=-((u % 10:Nat):Int):=by
 rw [Int.neg_tmod,show (10:Int)=((10:Nat):Int) from rfl,← Int.ofNat_tmod]
theorem zp4 (n:Nat) (h0:1≤n) (h1:n≤9223372036854775808) (w:World) (F:ByteArray) (hF:Hid (F=bs (Lib.decDigits n))):
 Calls Tryz.prog 98 #[.int .i64 (-(n:Int))] w fun e w'=>e=.returned (.string (⟨#[45]⟩++F++⟨#[46,48]⟩))∧Below w.heap.size w w':=by
 have hlen:(Lib.decDigits n).length≤21:=by
  have:=Lib.itoa_length_le (-(n:Int)) (by omega) (by omega)
  rw [Lib.itoa_neg n h0] at this
  simp at this;omega
 have HL:=Lib.hid hlen
 have HFS:F.size≤21:=by rw [hF.out];simpa [ByteArray.size] using hlen
 clear hlen
 go_enter Tryz.func98,Tryz.ntmps98
 go_wp2_with fail
 go_loopg [3,4] n (fun gg s3 s4 wr=>∃ (u:Nat) (X:ByteArray) (m:Int),u≤gg∧u≤9223372036854775808∧s4=.int .i64 m∧Hid (m=-(u:Int))∧m≤0∧-9223372036854775808≤m∧s3=.string X∧X.size≤21∧Hid (Lib.decDigits u++X.data.toList=Lib.decDigits n)∧Below w.heap.size w wr)
 case atStart=>exact ⟨n,⟨#[]⟩,_,Nat.le_refl _,h1,rfl,Lib.hid rfl,by omega,by omega,rfl,by decide,Lib.hid (List.append_nil _),Below.refl _ _⟩
 case round=>
  obtain ⟨u,X,m,hug,hub,rfl,HM,hm0,hm1,rfl,hxs,HX,hb⟩:=hrel
  obtain ⟨d,hd⟩:∃ d,d=u % 10:=⟨_,rfl⟩
  have hd9:d≤9:=by omega
  have e1:m.tmod 10=-(d:Int):=by rw [HM.out,zww,hd]
  have hw1:IntKind.u8.wrap (48+(d:Int))=48+d:=by unfold IntKind.wrap;simp [IntKind.bits,IntKind.signed];omega
  obtain ⟨C,hC⟩:∃ C,C=bs [UInt8.ofNat (48+d)]:=⟨_,rfl⟩
  have hcv:=zrb wr d hd9
  rw [← hC] at hcv
  have hcs:C.size=1:=by rw [hC];rfl
  have hcs2:C.size≤1:=by omega
  have HC:=Lib.hid hC
  have HD:=Lib.hid hd
  have hbn:=hb.alloc hb.size (.cells #[.int .u8 (48+(d:Int))] 5)
  clear hC hd hcs
  by_cases hd0:d=0
  ·have e3:m.tmod 10=0:=by rw [e1,hd0];rfl
   subst hd0
   have hcv0:(convert 163 9 (.slice (some ⟨wr.heap.size,0,none⟩) 1 1)).run Tryz.prog (wr.alloc (.cells #[.int .u8 48] 5))=.ok (.string C) (wr.alloc (.cells #[.int .u8 48] 5)):=hcv
   have hbn0:Below w.heap.size w (wr.alloc (.cells #[.int .u8 48] 5)):=hbn
   clear e1 hcv hbn hw1
   have hbn:=hbn0
   clear hbn0
   by_cases h10:u < 10
   ·have e2:m.tdiv 10=0:=by rw [HM.out,zid,Nat.div_eq_of_lt h10];rfl
    have hl:=zm2 HX.out h10
    rw [← HD.out,← HC.out] at hl
    have HLL:Hid (C++X=F):=Lib.hid (by rw [hl,hF.out])
    have hn0:-(n:Int) < 0:=by omega
    have hsx:(C++X).size≤21:=by rw [HLL.out];exact HFS
    have HSX:=Lib.hid hsx
    clear hl hsx
    go_wp2_with fail
    go_ret
    exact ⟨by rw [← HLL.out];rfl,hbn⟩
   ·obtain ⟨q,hq⟩:∃ q,q=u / 10:=⟨_,rfl⟩
    obtain ⟨m2,hm2⟩:∃ m2:Int,m2=-(q:Int):=⟨_,rfl⟩
    have e2:m.tdiv 10=m2:=by rw [HM.out,zid,hm2,hq]
    have hq0:¬ m2=0:=by omega
    have hq0b:(m2 == 0)=false:=by simpa using hq0
    have hs:=zm1 HX.out (by omega)
    rw [← HD.out,← HC.out,← hq] at hs
    have HSS:=Lib.hid hs
    have HM2:=Lib.hid hm2
    have hr1:m2≤0:=by omega
    have hr2:-9223372036854775808≤m2:=by omega
    have hqu:q < u:=by omega
    have hsz:(C++X).size≤21:=by
     have h1:=congrArg List.length HSS.out
     have h2:=HL.out
     rw [List.length_append] at h1
     have h3:(C++X).data.toList.length=(C++X).size:=Array.length_toList
     omega
    have HSZ:=Lib.hid hsz
    clear hsz hs hm2 hq
    go_wp2_with fail
    go_roundg q
    case measure=>omega
    case rel=>exact ⟨q,C++X,m2,Nat.le_refl _,by omega,rfl,HM2,hr1,hr2,rfl,HSZ.out,HSS,hbn⟩
  ·have hdn:-(d:Int) < 0:=by omega
   by_cases h10:u < 10
   ·have e2:m.tdiv 10=0:=by rw [HM.out,zid,Nat.div_eq_of_lt h10];rfl
    have hl:=zm2 HX.out h10
    rw [← HD.out,← HC.out] at hl
    have HLL:Hid (C++X=F):=Lib.hid (by rw [hl,hF.out])
    have hn0:-(n:Int) < 0:=by omega
    have hsx:(C++X).size≤21:=by rw [HLL.out];exact HFS
    have HSX:=Lib.hid hsx
    clear hl hsx
    go_wp2_with fail
    go_ret
    exact ⟨by rw [← HLL.out];rfl,hbn⟩
   ·obtain ⟨q,hq⟩:∃ q,q=u / 10:=⟨_,rfl⟩
    obtain ⟨m2,hm2⟩:∃ m2:Int,m2=-(q:Int):=⟨_,rfl⟩
    have e2:m.tdiv 10=m2:=by rw [HM.out,zid,hm2,hq]
    have hq0:¬ m2=0:=by omega
    have hq0b:(m2 == 0)=false:=by simpa using hq0
    have hs:=zm1 HX.out (by omega)
    rw [← HD.out,← HC.out,← hq] at hs
    have HSS:=Lib.hid hs
    have HM2:=Lib.hid hm2
    have hr1:m2≤0:=by omega
    have hr2:-9223372036854775808≤m2:=by omega
    have hqu:q < u:=by omega
    have hsz:(C++X).size≤21:=by
     have h1:=congrArg List.length HSS.out
     have h2:=HL.out
     rw [List.length_append] at h1
     have h3:(C++X).data.toList.length=(C++X).size:=Array.length_toList
     omega
    have HSZ:=Lib.hid hsz
    clear hsz hs hm2 hq
    go_wp2_with fail
    go_roundg q
    case measure=>omega
    case rel=>exact ⟨q,C++X,m2,Nat.le_refl _,by omega,rfl,HM2,hr1,hr2,rfl,HSZ.out,HSS,hbn⟩
def zlb (z:Int) (s:ByteArray):Prop:=chk s.data.toList=true∧dval s.data.toList=z∧s.size≤1000000000
theorem zou (n:Int) (h0:-9223372036854775808≤n) (h1:n≤9223372036854775807) (w:World):
 Calls Tryz.prog 98 #[.int .i64 n] w fun e w'=>∃ s,e=.returned (.string s)∧zlb (n*10 ^ 54) s∧Below w.heap.size w w':=by
 obtain ⟨f1,f2,f3,f4⟩:=zlw n h0 h1
 have hS:zlb (n*10 ^ 54) (intT n):=⟨f1,f2,by omega⟩
 by_cases hneg:n < 0
 ·obtain ⟨u,rfl⟩:∃ u:Nat,n=-(u:Int):=⟨n.natAbs,by omega⟩
  have hit:Lib.itoa (-(u:Int))=45::Lib.decDigits u:=Lib.itoa_neg u (by omega)
  have e:intT (-(u:Int))=⟨#[45]⟩++bs (Lib.decDigits u)++⟨#[46,48]⟩:=by
   apply ByteArray.ext
   apply Array.ext'
   unfold intT
   simp [ByteArray.data_append,hit]
  refine (zp4 u (by omega) (by omega) w _ (Lib.hid rfl)).mono ?_
  rintro e1 w' ⟨rfl,hb⟩
  exact ⟨_,rfl,e ▸ hS,hb⟩
 ·obtain ⟨u,rfl⟩:=Int.eq_ofNat_of_zero_le (Int.not_lt.1 hneg)
  have hit:Lib.itoa (u:Int)=Lib.decDigits u:=Lib.itoa_nonneg u
  have e:intT (u:Int)=bs (Lib.decDigits u)++⟨#[46,48]⟩:=by
   unfold intT
   rw [hit]
  refine (zp3 u (by omega) w _ (Lib.hid rfl)).mono ?_
  rintro e1 w' ⟨rfl,hb⟩
  exact ⟨_,rfl,e ▸ hS,hb⟩
theorem zwx:zlb 0 ⟨#[48,46,48]⟩:=by
 refine ⟨by decide,by decide,by decide⟩
theorem zrc (k:Int) (b:Bool) (n:Int) (t x:ByteArray) (p:Option Addr) (len cap:Nat) (w:World) (hf:Fine n t x len):
 Calls Tryz.prog 70 #[.agg #[.int .i64 k,.bool b,.int .i64 n,.string t,.string x,.slice p len cap]] w fun e w'=>∃ s,e=.returned (.string s)∧zlb (numV k n t) s∧Below w.heap.size w w':=by
 have S:=zaf (k:=k) (b:=b) (n:=n) (t:=t) (x:=x) (p:=p) (len:=len) (cap:=cap) w rfl
 have b0:=za0 w (.cells #[.int .i64 k,.bool b,.int .i64 n,.string t,.string x,.slice p len cap] 39)
 have f0:=S.c0
 have f2:=S.c2
 have f3:=S.c3
 have HF:=Lib.hid hf
 obtain ⟨z,hz⟩:∃ z,z=numV k n t:=⟨_,rfl⟩
 rw [← hz]
 by_cases h2:k=2
 ·subst h2
  have hc:=fun W=>zou n HF.out.lo HF.out.hi W
  have e:numV 2 n t=n*10 ^ 54:=by unfold numV;rw [if_pos rfl]
  rw [← e,← hz] at hc
  have HC:=Lib.hid hc
  clear hc hz e hf
  go_enter Tryz.func70,Tryz.ntmps70
  go_wp2_with (go_at_call 98;(with_reducible refine (HC.out _).mono ?_);rintro e w1 ⟨s,rfl,hs,hb⟩;have HS:=Lib.hid hs;clear hs;replace b0:=zak b0 hb b0.size)
  go_ret
  exact ⟨s,rfl,HS.out,b0⟩
 ·have e2:(k == 2)=false:=by simpa using h2
  have hc:=fun W=>zmz t W (by have:=hf.ht;omega)
  cases hk:chk t.data.toList with
  | true=>
    have hsay:Hid (zlb z t):=Lib.hid (by rw [hz];unfold numV;rw [if_neg h2,if_pos hk];exact ⟨hk,rfl,by have:=hf.ht;omega⟩)
    rw [hk] at hc
    clear h2 hk hf hz
    go_enter Tryz.func70,Tryz.ntmps70
    go_wp2_with (go_at_call 99;(with_reducible refine (hc _).mono ?_);rintro e w1 ⟨rfl,hb⟩;have S1:=S.below hb;have g3:=S1.c3;replace b0:=zak b0 hb b0.size)
    go_ret
    exact ⟨t,rfl,hsay.out,b0⟩
  | false=>
    have hsay:Hid (zlb z ⟨#[48,46,48]⟩):=Lib.hid (by rw [hz];unfold numV;rw [if_neg h2,if_neg (by simp [hk])];exact zwx)
    rw [hk] at hc
    clear h2 hk hf hz
    go_enter Tryz.func70,Tryz.ntmps70
    go_wp2_with (go_at_call 99;(with_reducible refine (hc _).mono ?_);rintro e w1 ⟨rfl,hb⟩;have S1:=S.below hb;have g3:=S1.c3;replace b0:=zak b0 hb b0.size)
    go_ret
    exact ⟨_,rfl,hsay.out,b0⟩
theorem zsw {z z2:Int} {s s2:ByteArray} (h:zlb z s) (h2:zlb z2 s2) (w:World):
 Calls Tryz.prog 69 #[.string s,.string s2] w fun e w'=>e=.returned (.int .i64 (cmpZ z z2))∧Below w.heap.size w w':=by
 have:=zux s s2 w h.2.2 h2.2.2 h.1 h2.1
 rwa [h.2.1,h2.2.1] at this
theorem zkw (l m:List UInt8):zai l m=if Op.bytesLess l m then -1 else if l == m then 0 else 1:=by
 unfold zai
 cases h1:Op.bytesLess l m with
 | true=>rfl
 | false=>
   cases h3:(l == m) with
   | true=>
     have e:l=m:=by simpa using h3
     subst e
     rw [h1]
     rfl
   | false=>
     cases h2:Op.bytesLess m l with
     | true=>rfl
     | false=>
       rw [zdp l m h1 h2] at h3
       simp at h3
theorem zp5 (v:Val) (k:Int) (b:Bool) (n:Int) (t x:ByteArray) (q:List Val) (ev:v=.mk k b n t x q) (each:∀ u∈q,zor u):zor v:=by
 subst ev
 intro lang w k1 b1 n1 t1 x1 q1 p cap v2 k2 b2 n2 t2 x2 q2 p2 cap2 e1 e2 hf hf2 hl hl2
 cases e1
 subst e2
 obtain ⟨W0,hW0⟩:∃ W0,W0=(w.alloc (.cells #[.int .i64 k,.bool b,.int .i64 n,.string t,.string x,.slice p q.length cap] 39)).alloc (.cells #[.int .i64 k2,.bool b2,.int .i64 n2,.string t2,.string x2,.slice p2 q2.length cap2] 39):=⟨_,rfl⟩
 have S4:Six W0 w.heap.size k b n t x p q.length cap:=by rw [hW0];exact (zaf _ rfl).alloc _
 have S5:Six W0 (w.heap.size+1) k2 b2 n2 t2 x2 p2 q2.length cap2:=by rw [hW0];exact zaf _ (by simp)
 have b0:Below w.heap.size w W0:=by rw [hW0];exact zfl _ _ _
 have hrows:=fun W (h:Below w.heap.size w W)=>rowsAt lang q q2 p p2 cap cap2 W (Held.below q hl h) (Held.below q2 hl2 h) hf.hn hf2.hn each
 have HD1:=Lib.hid (fun W=>zrc k b n t x p q.length cap W hf)
 have HD2:=Lib.hid (fun W=>zrc k2 b2 n2 t2 x2 p2 q2.length cap2 W hf2)
 have HCMP:Hid (∀ (s s2:ByteArray),zlb (numV k n t) s→zlb (numV k2 n2 t2) s2→∀ W,Calls Tryz.prog 69 #[.string s,.string s2] W fun e w'=>e=.returned (.int .i64 (cmpZ (numV k n t) (numV k2 n2 t2)))∧Below W.heap.size W w'):=Lib.hid fun s s2 h h2 W=>zsw h h2 W
 have hr1:=fun W=>zoq lang k W
 have hr2:=fun W=>zoq lang k2 W
 have f0:=S4.c0
 have f1:=S4.c1
 have f2:=S4.c2
 have f3:=S4.c3
 have f4:=S4.c4
 have f5:=S4.c5
 have g0:=S5.c0
 have g1:=S5.c1
 have g2:=S5.c2
 have g3:=S5.c3
 have g4:=S5.c4
 have g5:=S5.c5
 have H0:=Lib.hid hW0
 clear hf hf2 hl hl2 hW0 each
 rw [zcm,← ze2]
 obtain ⟨z,hz⟩:∃ z,z=lexI (cmpZ (zau lang k) (zau lang k2)) (zmw lang (.mk k b n t x q) (.mk k2 b2 n2 t2 x2 q2)):=⟨_,rfl⟩
 rw [← hz]
 by_cases hr:zau lang k=zau lang k2
 rotate_left
 ·have hne:(zau lang k != zau lang k2)=true:=by simpa using hr
  by_cases hlt:zau lang k < zau lang k2
  ·have HZ:=Lib.hid (show z=-1 by rw [hz];unfold cmpZ;rw [if_pos hlt];rfl)
   clear hz hr hrows HD1 HD2 HCMP
   generalize zau lang k=ra at hr1 hne hlt
   generalize zau lang k2=rb at hr2 hne hlt
   go_enter Tryz.func34,Tryz.ntmps34
   go_upto_region 1 with fail
   rw [← H0.out]
   go_wp2_with (first
    |(go_at_call 67;(with_reducible refine (hr1 _).mono ?_);rintro e w' ⟨rfl,rfl⟩)
    |(go_at_call 67;(with_reducible refine (hr2 _).mono ?_);rintro e w' ⟨rfl,rfl⟩)
    |(go_at_call 68;(with_reducible refine (zc0 _ _ _).mono ?_);rintro e w' ⟨rfl,rfl⟩))
   all_goals
    go_ret
    exact ⟨by rw [HZ.out];simp [],b0⟩
  ·have HZ:=Lib.hid (show z=1 by rw [hz];unfold cmpZ;rw [if_neg hlt,if_pos (by omega)];rfl)
   clear hz hr hrows HD1 HD2 HCMP
   generalize zau lang k=ra at hr1 hne hlt
   generalize zau lang k2=rb at hr2 hne hlt
   go_enter Tryz.func34,Tryz.ntmps34
   go_upto_region 1 with fail
   rw [← H0.out]
   go_wp2_with (first
    |(go_at_call 67;(with_reducible refine (hr1 _).mono ?_);rintro e w' ⟨rfl,rfl⟩)
    |(go_at_call 67;(with_reducible refine (hr2 _).mono ?_);rintro e w' ⟨rfl,rfl⟩)
    |(go_at_call 68;(with_reducible refine (zc0 _ _ _).mono ?_);rintro e w' ⟨rfl,rfl⟩))
   all_goals
    go_ret
    exact ⟨by rw [HZ.out];simp [],b0⟩
 have hcat:=zdz hr
 rw [hr,zdq,zbi,ze2] at hz
 rw [← hr] at hr2
 by_cases h5:k=5
 ·subst h5
  rw [if_pos rfl] at hz
  rw [show zau lang 5=1 from rfl] at hr1 hr2
  have HZ:=Lib.hid hz
  clear hz hr hcat HD1 HD2 HCMP
  go_enter Tryz.func34,Tryz.ntmps34
  go_upto_region 1 with fail
  rw [← H0.out]
  go_wp2_with (first
   |(go_at_call 67;(with_reducible refine (hr1 _).mono ?_);rintro e w' ⟨rfl,rfl⟩)
   |(go_at_call 67;(with_reducible refine (hr2 _).mono ?_);rintro e w' ⟨rfl,rfl⟩)
   |(go_at_call 68;(with_reducible refine (zc0 _ _ _).mono ?_);rintro e w' ⟨rfl,rfl⟩)
   |(go_at_call 71;(with_reducible refine (hrows _ b0).mono ?_);rintro e w' ⟨rfl,hb⟩;replace b0:=zak b0 hb b0.size;clear hb))
  all_goals
   go_ret
   exact ⟨by rw [HZ.out];rfl,b0⟩
 rw [if_neg h5] at hz
 clear hrows
 by_cases h23:k=2∨k=3
 ·have hk:=h23
  have hk2:=hcat.2.2.2.1 h23
  rw [(zq5 lang k).2 h23] at hr1 hr2
  obtain ⟨c,hc⟩:∃ c,c=cmpZ (numV k n t) (numV k2 n2 t2):=⟨_,rfl⟩
  rw [show zbu k n b t x k2 n2 b2 t2 x2=lexI (cmpZ (numV k n t) (numV k2 n2 t2)) (lexI (cmpZ k k2) (if k=3 then zai t.toList t2.toList else 0)) by unfold zbu;rw [if_neg (by omega),if_neg (by omega),if_pos h23],← hc] at hz
  rw [← hc] at HCMP
  have HZ:=Lib.hid hz
  clear hz hc hr hcat h5 h23
  ·skip
   go_enter Tryz.func34,Tryz.ntmps34
   go_upto_region 1 with fail
   rw [← H0.out]
   go_upto_region 7 with (first
    |(go_at_call 67;(with_reducible refine (hr1 _).mono ?_);rintro e w' ⟨rfl,rfl⟩)
    |(go_at_call 67;(with_reducible refine (hr2 _).mono ?_);rintro e w' ⟨rfl,rfl⟩)
    |(go_at_call 68;(with_reducible refine (zc0 _ _ _).mono ?_);rintro e w' ⟨rfl,rfl⟩))
   clear f0 g0 f1 g1 f2 g2 f3 g3 f4 g4 f5 g5
   refine wp_region_held_drew (S:=fun w'=>Six w' w.heap.size k b n t x p q.length cap∧Six w' (w.heap.size+1) k2 b2 n2 t2 x2 p2 q2.length cap2∧Below w.heap.size w w') (by kernel_rfl) ⟨S4,S5,b0.drew⟩ (fun hHeld=>?_)
   refine tk (i:=0) rfl (zhq (by rfl) (.tmp 4) rfl w.heap.size rfl (fun _ h=>h.1)) hHeld ?_
   refine tk (i:=2) rfl (zhq (by rfl) (.tmp 5) rfl (w.heap.size+1) rfl (fun _ h=>h.2.1)) hHeld ?_
   obtain ⟨u1,u2,u3⟩:=hHeld
   refine tr 1 rfl (fun K hK=>?_)
   rw [if_pos (by rfl)]
   go_simp
   refine (HD1.out _).mono ?_
   rintro e w3 ⟨s1,rfl,hs1,hb⟩
   refine hK.out _ _ ⟨u1.below hb,u2.below hb,zak u3 hb u3.size⟩ (fun hHeld=>?_)
   clear hK K u1 u2 u3
   try simp only [putS]
   have HS1:=Lib.hid hs1
   clear hs1 hb
   obtain ⟨u1,u2,u3⟩:=hHeld
   refine tr 3 rfl (fun K hK=>?_)
   rw [if_pos (by rfl)]
   go_simp
   refine (HD2.out _).mono ?_
   rintro e w3 ⟨s2,rfl,hs2,hb⟩
   refine hK.out _ _ ⟨u1.below hb,u2.below hb,zak u3 hb u3.size⟩ (fun hHeld=>?_)
   clear hK K u1 u2 u3
   try simp only [putS]
   have HS2:=Lib.hid hs2
   clear hs2 hb
   obtain ⟨u1,u2,u3⟩:=hHeld
   refine tr 4 rfl (fun K hK=>?_)
   rw [if_pos (by rfl)]
   go_simp
   refine (HCMP.out _ _ HS1.out HS2.out _).mono ?_
   rintro e w3 ⟨rfl,hb⟩
   refine hK.out _ _ ⟨u1.below hb,u2.below hb,zak u3 hb u3.size⟩ (fun hHeld=>?_)
   clear hK K u1 u2 u3
   try simp only [putS]
   clear hb
   refine tg (i:=5) (.int .i64 c) rfl hHeld ?_
   refine wpAnyH_done (by kernel_rfl) ?_ _
   obtain ⟨u1,u2,u3⟩:=hHeld
   have f0:=u1.c0
   have f3:=u1.c3
   have g0:=u2.c0
   have g3:=u2.c3
   by_cases hc0:c=0
   ·subst hc0
    rcases hk with rfl | rfl <;> rcases hk2 with rfl | rfl
    ·skip
     go_wp2_with (first
      |(go_at_call 67;(with_reducible refine (hr1 _).mono ?_);rintro e w' ⟨rfl,rfl⟩)
      |(go_at_call 67;(with_reducible refine (hr2 _).mono ?_);rintro e w' ⟨rfl,rfl⟩)
      |(go_at_call 68;(with_reducible refine (zc0 _ _ _).mono ?_);rintro e w' ⟨rfl,rfl⟩))
     all_goals
      go_ret
      exact ⟨by rw [HZ.out];rfl,u3⟩
    ·skip
     go_wp2_with (first
      |(go_at_call 67;(with_reducible refine (hr1 _).mono ?_);rintro e w' ⟨rfl,rfl⟩)
      |(go_at_call 67;(with_reducible refine (hr2 _).mono ?_);rintro e w' ⟨rfl,rfl⟩)
      |(go_at_call 68;(with_reducible refine (zc0 _ _ _).mono ?_);rintro e w' ⟨rfl,rfl⟩))
     all_goals
      go_ret
      exact ⟨by rw [HZ.out];rfl,u3⟩
    ·skip
     go_wp2_with (first
      |(go_at_call 67;(with_reducible refine (hr1 _).mono ?_);rintro e w' ⟨rfl,rfl⟩)
      |(go_at_call 67;(with_reducible refine (hr2 _).mono ?_);rintro e w' ⟨rfl,rfl⟩)
      |(go_at_call 68;(with_reducible refine (zc0 _ _ _).mono ?_);rintro e w' ⟨rfl,rfl⟩))
     all_goals
      go_ret
      exact ⟨by rw [HZ.out];rfl,u3⟩
    ·cases hxl:Op.bytesLess t.toList t2.toList <;> cases hxe:(t.toList == t2.toList)
     all_goals
      go_wp2_with (first
       |(go_at_call 67;(with_reducible refine (hr1 _).mono ?_);rintro e w' ⟨rfl,rfl⟩)
       |(go_at_call 67;(with_reducible refine (hr2 _).mono ?_);rintro e w' ⟨rfl,rfl⟩)
       |(go_at_call 68;(with_reducible refine (zc0 _ _ _).mono ?_);rintro e w' ⟨rfl,rfl⟩))
      all_goals
       go_ret
       exact ⟨by rw [HZ.out];show _=Ending.returned (Value.int .i64 (zai t.toList t2.toList));rw [zkw,hxl,hxe];rfl,u3⟩
   ·have e0:(c == 0)=false:=by simpa using hc0
    have HZ2:=Lib.hid (show z=c by rw [HZ.out];exact if_neg hc0)
    go_wp2_with (first
     |(go_at_call 67;(with_reducible refine (hr1 _).mono ?_);rintro e w' ⟨rfl,rfl⟩)
     |(go_at_call 67;(with_reducible refine (hr2 _).mono ?_);rintro e w' ⟨rfl,rfl⟩)
     |(go_at_call 68;(with_reducible refine (zc0 _ _ _).mono ?_);rintro e w' ⟨rfl,rfl⟩))
    go_ret
    exact ⟨by rw [HZ2.out];rfl,u3⟩
 clear HD1 HD2 HCMP
 by_cases h6:k=6
 ·subst h6
  rw [show zau lang 6=2 from rfl] at hr1 hr2
  have HZ:=Lib.hid (show z=cmpZ n n2 from hz)
  clear hz hr hcat h5 h23
  go_enter Tryz.func34,Tryz.ntmps34
  go_upto_region 1 with fail
  rw [← H0.out]
  go_wp2_with (first
   |(go_at_call 67;(with_reducible refine (hr1 _).mono ?_);rintro e w' ⟨rfl,rfl⟩)
   |(go_at_call 67;(with_reducible refine (hr2 _).mono ?_);rintro e w' ⟨rfl,rfl⟩)
   |(go_at_call 68;(with_reducible refine (zc0 _ _ _).mono ?_);rintro e w' ⟨rfl,rfl⟩))
  all_goals
   go_ret
   exact ⟨by rw [HZ.out];unfold cmpZ;(repeat' split) <;> first | rfl | omega |(simp;omega),b0⟩
 by_cases h7:k=7
 ·subst h7
  rw [show zau lang 7=3 from rfl] at hr1 hr2
  have HZ:=Lib.hid (show z=cmpZ n n2 from hz)
  clear hz hr hcat h5 h6 h23
  go_enter Tryz.func34,Tryz.ntmps34
  go_upto_region 1 with fail
  rw [← H0.out]
  go_wp2_with (first
   |(go_at_call 67;(with_reducible refine (hr1 _).mono ?_);rintro e w' ⟨rfl,rfl⟩)
   |(go_at_call 67;(with_reducible refine (hr2 _).mono ?_);rintro e w' ⟨rfl,rfl⟩)
   |(go_at_call 68;(with_reducible refine (zc0 _ _ _).mono ?_);rintro e w' ⟨rfl,rfl⟩))
  all_goals
   go_ret
   exact ⟨by rw [HZ.out];unfold cmpZ;(repeat' split) <;> first | rfl | omega |(simp;omega),b0⟩
 by_cases h1:k=1
 ·subst h1
  rw [show zau lang 1=8 from rfl] at hr1 hr2
  have HZ:=Lib.hid (show z=zk7 b b2 from hz)
  clear hz hr hcat h5 h6 h7 h23
  cases b <;> cases b2
  all_goals
   go_enter Tryz.func34,Tryz.ntmps34
   go_upto_region 1 with fail
   rw [← H0.out]
   go_wp2_with (first
    |(go_at_call 67;(with_reducible refine (hr1 _).mono ?_);rintro e w' ⟨rfl,rfl⟩)
    |(go_at_call 67;(with_reducible refine (hr2 _).mono ?_);rintro e w' ⟨rfl,rfl⟩)
    |(go_at_call 68;(with_reducible refine (zc0 _ _ _).mono ?_);rintro e w' ⟨rfl,rfl⟩))
   all_goals
    go_ret
    exact ⟨by rw [HZ.out];rfl,b0⟩
 rw [zx3 k n b t x k2 n2 b2 t2 x2 h6 h7 h1 (by omega) (by omega)] at hz
 have d1:(zau lang k == 1)=false:=by simpa using fun h=>h5 ((rank5 lang k).1 h)
 have d9:(zau lang k == 9)=false:=by simpa using fun h=>h23 ((zq5 lang k).1 h)
 have d8:(zau lang k == 8)=false:=by simpa using fun h=>h1 ((zt8 lang k).1 h)
 have d2:(zau lang k == 2)=false:=by simpa using fun h=>(by have:=(zq4 lang k).1 (.inl h);omega:False)
 have d3:(zau lang k == 3)=false:=by simpa using fun h=>(by have:=(zq4 lang k).1 (.inr h);omega:False)
 generalize zau lang k=ra at hr1 hr2 d1 d2 d3 d8 d9
 clear hr hcat h5 h6 h7 h1 h23
 by_cases ht:t.toList=t2.toList
 ·have hte:(t.toList == t2.toList)=true:=by simpa using ht
  have HZ:=Lib.hid (show z=zai x.toList x2.toList by rw [hz,ht,zps,zbi])
  clear hz ht
  cases hxl:Op.bytesLess x.toList x2.toList <;> cases hxe:(x.toList == x2.toList)
  all_goals
   go_enter Tryz.func34,Tryz.ntmps34
   go_upto_region 1 with fail
   rw [← H0.out]
   go_wp2_with (first
    |(go_at_call 67;(with_reducible refine (hr1 _).mono ?_);rintro e w' ⟨rfl,rfl⟩)
    |(go_at_call 67;(with_reducible refine (hr2 _).mono ?_);rintro e w' ⟨rfl,rfl⟩)
    |(go_at_call 68;(with_reducible refine (zc0 _ _ _).mono ?_);rintro e w' ⟨rfl,rfl⟩))
   all_goals
    go_ret
    exact ⟨by rw [HZ.out,zkw,hxl,hxe];rfl,b0⟩
 ·have hte:(t.toList == t2.toList)=false:=by simpa using ht
  have hne:zai t.toList t2.toList≠0:=fun h=>ht (zd0 h)
  have HZ:=Lib.hid (show z=zai t.toList t2.toList by rw [hz];exact if_neg hne)
  have HN:=Lib.hid ht
  clear hz ht hne
  cases hxl:Op.bytesLess t.toList t2.toList
  all_goals
   go_enter Tryz.func34,Tryz.ntmps34
   go_upto_region 1 with fail
   rw [← H0.out]
   go_wp2_with (first
    |(go_at_call 67;(with_reducible refine (hr1 _).mono ?_);rintro e w' ⟨rfl,rfl⟩)
    |(go_at_call 67;(with_reducible refine (hr2 _).mono ?_);rintro e w' ⟨rfl,rfl⟩)
    |(go_at_call 68;(with_reducible refine (zc0 _ _ _).mono ?_);rintro e w' ⟨rfl,rfl⟩))
   all_goals
    go_ret
    exact ⟨by rw [HZ.out,zkw,hxl,hte];rfl,b0⟩
mutual
theorem zov:(v:Val)→zor v
 | .mk k b n t x q=>zp5 _ k b n t x q rfl (zmb q)
theorem zmb:(q:List Val)→∀ u∈q,zor u
 | [],_,h=>absurd h (by simp)
 | v::r,u,h=>by
   rcases List.mem_cons.1 h with h | h
   ·rw [h];exact zov v
   ·exact zmb r u h
end
def triI (a b c a2 b2 c2:Val):Int:=lexI (zan 1 a a2) (lexI (zan 1 b b2) (zan 1 c c2))
theorem ze4 (v v2:V6) (u u2:Val) (q q2:List Val) (W:World) (h:Is W v u q) (h2:Is W v2 u2 q2):
 Calls Tryz.prog 34 #[.int .i64 1,.agg #[.int .i64 v.k,.bool v.b,.int .i64 v.n,.string v.t,.string v.x,.slice v.p v.len v.cap],.agg #[.int .i64 v2.k,.bool v2.b,.int .i64 v2.n,.string v2.t,.string v2.x,.slice v2.p v2.len v2.cap]] W fun e w'=>e=.returned (.int .i64 (zan 1 u u2))∧Below W.heap.size W w':=by
 obtain ⟨k,b,n,t,x,p,len,cap⟩:=v
 obtain ⟨k2,b2,n2,t2,x2,p2,len2,cap2⟩:=v2
 obtain ⟨e,hq,hf,hl⟩:=h
 obtain ⟨e2,hq2,hf2,hl2⟩:=h2
 simp only at e hq hf hl e2 hq2 hf2 hl2
 subst hq hq2
 exact zov u 1 W k b n t x q p cap u2 k2 b2 n2 t2 x2 q2 p2 cap2 e e2 hf hf2 hl hl2
theorem zuy (s q o s2 q2 o2:V6) (us uq uo us2 uq2 uo2:Val) (ls lq lo ls2 lq2 lo2:List Val) (W:World) (hs:Is W s us ls) (hq:Is W q uq lq) (ho:Is W o uo lo) (hs2:Is W s2 us2 ls2) (hq2:Is W q2 uq2 lq2) (ho2:Is W o2 uo2 lo2):
 Calls Tryz.prog 44 #[.agg #[.int .i64 s.k,.bool s.b,.int .i64 s.n,.string s.t,.string s.x,.slice s.p s.len s.cap,.int .i64 q.k,.bool q.b,.int .i64 q.n,.string q.t,.string q.x,.slice q.p q.len q.cap,.int .i64 o.k,.bool o.b,.int .i64 o.n,.string o.t,.string o.x,.slice o.p o.len o.cap],.agg #[.int .i64 s2.k,.bool s2.b,.int .i64 s2.n,.string s2.t,.string s2.x,.slice s2.p s2.len s2.cap,.int .i64 q2.k,.bool q2.b,.int .i64 q2.n,.string q2.t,.string q2.x,.slice q2.p q2.len q2.cap,.int .i64 o2.k,.bool o2.b,.int .i64 o2.n,.string o2.t,.string o2.x,.slice o2.p o2.len o2.cap]] W fun e w'=>e=.returned (.int .i64 (triI us uq uo us2 uq2 uo2))∧Below W.heap.size W w':=by
 obtain ⟨W0,hW0⟩:∃ W0,W0=(W.alloc (.cells #[.int .i64 s.k,.bool s.b,.int .i64 s.n,.string s.t,.string s.x,.slice s.p s.len s.cap,.int .i64 q.k,.bool q.b,.int .i64 q.n,.string q.t,.string q.x,.slice q.p q.len q.cap,.int .i64 o.k,.bool o.b,.int .i64 o.n,.string o.t,.string o.x,.slice o.p o.len o.cap] 41)).alloc (.cells #[.int .i64 s2.k,.bool s2.b,.int .i64 s2.n,.string s2.t,.string s2.x,.slice s2.p s2.len s2.cap,.int .i64 q2.k,.bool q2.b,.int .i64 q2.n,.string q2.t,.string q2.x,.slice q2.p q2.len q2.cap,.int .i64 o2.k,.bool o2.b,.int .i64 o2.n,.string o2.t,.string o2.x,.slice o2.p o2.len o2.cap] 41):=⟨_,rfl⟩
 have B:za4 W0 W.heap.size s q o:=by rw [hW0];exact (zc9 _ rfl).alloc _
 have C:za4 W0 (W.heap.size+1) s2 q2 o2:=by rw [hW0];exact zc9 _ (by simp)
 have b0:Below W.heap.size W W0:=by rw [hW0];exact zfl _ _ _
 have hc0:=fun w (h:Below W.heap.size W w)=>ze4 s s2 us us2 ls ls2 w (hs.below h) (hs2.below h)
 have hc1:=fun w (h:Below W.heap.size W w)=>ze4 q q2 uq uq2 lq lq2 w (hq.below h) (hq2.below h)
 have hc2:=fun w (h:Below W.heap.size W w)=>ze4 o o2 uo uo2 lo lo2 w (ho.below h) (ho2.below h)
 have HW:=Lib.hid hW0
 clear hW0 hs hq ho hs2 hq2 ho2
 unfold triI
 generalize zan 1 us us2=c0 at hc0 ⊢
 generalize zan 1 uq uq2=c1 at hc1 ⊢
 generalize zan 1 uo uo2=c2 at hc2 ⊢
 by_cases z0:c0=0
 ·subst z0
  rw [zbi]
  by_cases z1:c1=0
  ·subst z1
   rw [zbi]
   go_enter Tryz.func44,Tryz.ntmps44
   go_wp2_with (first
    |(rw [← HW.out];(with_reducible refine zal (.tmp 6) W.heap.size 0 s B.r0 ?_ ?_ ?_ ?_);rfl;rfl;rfl)
    |((with_reducible refine zal (.tmp 8) (W.heap.size+1) 0 s2 C.r0 ?_ ?_ ?_ ?_);rfl;rfl;rfl)
    |((with_reducible refine zal (.tmp 13) W.heap.size 6 q B.r1 ?_ ?_ ?_ ?_);rfl;rfl;rfl)
    |((with_reducible refine zal (.tmp 15) (W.heap.size+1) 6 q2 C.r1 ?_ ?_ ?_ ?_);rfl;rfl;rfl)
    |((with_reducible refine zal (.tmp 20) W.heap.size 12 o B.r2 ?_ ?_ ?_ ?_);rfl;rfl;rfl)
    |((with_reducible refine zal (.tmp 22) (W.heap.size+1) 12 o2 C.r2 ?_ ?_ ?_ ?_);rfl;rfl;rfl)
    |(go_at_call 34;(with_reducible refine (hc0 _ b0).mono ?_);rintro e w3 ⟨rfl,hb3⟩;replace b0:=zak b0 hb3 b0.size;replace B:=B.below hb3;replace C:=C.below hb3;clear hb3)
    |(go_at_call 34;(with_reducible refine (hc1 _ b0).mono ?_);rintro e w3 ⟨rfl,hb3⟩;replace b0:=zak b0 hb3 b0.size;replace B:=B.below hb3;replace C:=C.below hb3;clear hb3)
    |(go_at_call 34;(with_reducible refine (hc2 _ b0).mono ?_);rintro e w3 ⟨rfl,hb3⟩;replace b0:=zak b0 hb3 b0.size;replace B:=B.below hb3;replace C:=C.below hb3;clear hb3))
   go_ret
   exact ⟨rfl,b0⟩
  ·have e1:(c1 == (0:Int))=false:=by simpa using z1
   rw [show lexI c1 c2=c1 by unfold lexI;rw [if_neg z1]]
   clear z1 hc2
   go_enter Tryz.func44,Tryz.ntmps44
   go_wp2_with (first
    |(rw [← HW.out];(with_reducible refine zal (.tmp 6) W.heap.size 0 s B.r0 ?_ ?_ ?_ ?_);rfl;rfl;rfl)
    |((with_reducible refine zal (.tmp 8) (W.heap.size+1) 0 s2 C.r0 ?_ ?_ ?_ ?_);rfl;rfl;rfl)
    |((with_reducible refine zal (.tmp 13) W.heap.size 6 q B.r1 ?_ ?_ ?_ ?_);rfl;rfl;rfl)
    |((with_reducible refine zal (.tmp 15) (W.heap.size+1) 6 q2 C.r1 ?_ ?_ ?_ ?_);rfl;rfl;rfl)
    |(go_at_call 34;(with_reducible refine (hc0 _ b0).mono ?_);rintro e w3 ⟨rfl,hb3⟩;replace b0:=zak b0 hb3 b0.size;replace B:=B.below hb3;replace C:=C.below hb3;clear hb3)
    |(go_at_call 34;(with_reducible refine (hc1 _ b0).mono ?_);rintro e w3 ⟨rfl,hb3⟩;replace b0:=zak b0 hb3 b0.size;replace B:=B.below hb3;replace C:=C.below hb3;clear hb3))
   go_ret
   exact ⟨rfl,b0⟩
 ·have e0:(c0 == (0:Int))=false:=by simpa using z0
  rw [show lexI c0 (lexI c1 c2)=c0 by conv=>lhs;unfold lexI;rw [if_neg z0]]
  clear z0 hc1 hc2
  go_enter Tryz.func44,Tryz.ntmps44
  go_wp2_with (first
   |(rw [← HW.out];(with_reducible refine zal (.tmp 6) W.heap.size 0 s B.r0 ?_ ?_ ?_ ?_);rfl;rfl;rfl)
   |((with_reducible refine zal (.tmp 8) (W.heap.size+1) 0 s2 C.r0 ?_ ?_ ?_ ?_);rfl;rfl;rfl)
   |(go_at_call 34;(with_reducible refine (hc0 _ b0).mono ?_);rintro e w3 ⟨rfl,hb3⟩;replace b0:=zak b0 hb3 b0.size;replace B:=B.below hb3;replace C:=C.below hb3;clear hb3))
  go_ret
  exact ⟨rfl,b0⟩
end Go.Proofs.YtanbgdhmfjgihaaGreatDoor
