/- Texts of one kind, one behind the other: each says ahead of itself what it shows. -/
import Derived.Test.YtcfmenkigolnoaaGreatDoorWaa
import Derived.BigGuardPart
/- N2 -/
namespace Go.Proofs.YtcfmenkigolnoaaGreatDoor
open Go.RowKit
def zcy (c:UInt8):Bool:=(decide (97≤c.toNat) && decide (c.toNat≤122)) || (decide (65≤c.toNat) && decide (c.toNat≤90)) || decide (c.toNat=95)
def zen (c:UInt8):Bool:=decide (48≤c.toNat) && decide (c.toNat≤57)
def zfl (c:UInt8):Bool:=decide (32 < c.toNat) && decide (c.toNat≠60) && decide (c.toNat≠62)
def zck (s:ByteArray):Bool:=decide (0 < s.size∧s.size≤1048576∧∀ j (h:j < s.size),zfl s[j]=true)
def zdq (j:Nat) (c:UInt8):Bool:=zcy c || (decide (j≠0) && zen c)
def zc8 (s:ByteArray):Bool:=decide (0 < s.size∧s.size≤64∧∀ j (h:j < s.size),zdq j s[j]=true)
theorem zb7 (s:ByteArray):s.toList.isEmpty=true↔s.size=0:=by
 rw [ByteArray.toList_eq,List.isEmpty_iff_length_eq_zero]
 simp
theorem zeo {s:ByteArray} {p:Nat→UInt8→Bool} {k:Nat} (h:k < s.size) (ha:∀ j (h:j < s.size),j < k→p j s[j]=true) (hk:p k s[k]=true):∀ j (h:j < s.size),j < k+1→p j s[j]=true:=by
 intro j hj hlt
 by_cases e:j=k
 ·subst e
  exact hk
 ·exact ha j hj (by omega)
theorem zd4 {c:UInt8} {b:Bool} (h:b=true↔((97:Int)≤c.toNat∧(c.toNat:Int)≤122)∨((65:Int)≤c.toNat∧(c.toNat:Int)≤90)∨(c.toNat:Int)=95):b=zcy c:=by
 rw [Bool.eq_iff_iff,h]
 simp only [zcy,Bool.or_eq_true,Bool.and_eq_true,decide_eq_true_eq]
 omega
theorem zgy (c:UInt8) (r:Bool) (hr:r=zcy c) (w:World):Calls Tryz.prog 188 #[.int .u8 c.toNat] w fun e w'=>e=.returned (.bool r)∧w=w':=by
 by_cases a1:(97:Int)≤c.toNat
 ·by_cases a2:(c.toNat:Int)≤122
  ·obtain rfl:r=true:=by rw [hr];exact (zd4 (by simp [a1,a2])).symm
   clear hr
   go_enter Tryz.func188,Tryz.ntmps188
   go_wp2_with fail
   go_ret
   exact ⟨rfl,rfl⟩
  ·obtain rfl:r=false:=by rw [hr];exact (zd4 (by simp;omega)).symm
   clear hr
   have a3:(65:Int)≤c.toNat:=by omega
   have a4:¬ (c.toNat:Int)≤90:=by omega
   have a5:¬ (c.toNat:Int)=95:=by omega
   go_enter Tryz.func188,Tryz.ntmps188
   go_wp2_with fail
   go_ret
   exact ⟨by simp [a5] <;> rfl,rfl⟩
 ·by_cases a3:(65:Int)≤c.toNat
  ·by_cases a4:(c.toNat:Int)≤90
   ·obtain rfl:r=true:=by rw [hr];exact (zd4 (by simp [a3,a4])).symm
    clear hr
    go_enter Tryz.func188,Tryz.ntmps188
    go_wp2_with fail
    go_ret
    exact ⟨rfl,rfl⟩
   ·have hv:r=((c.toNat:Int) == 95):=by rw [hr];exact (zd4 (by simp;omega)).symm
    clear hr
    go_enter Tryz.func188,Tryz.ntmps188
    go_wp2_with fail
    go_ret
    exact ⟨rfl,rfl⟩
  ·have a5:¬ (c.toNat:Int)=95:=by omega
   obtain rfl:r=false:=by rw [hr];exact (zd4 (by simp;omega)).symm
   clear hr
   go_enter Tryz.func188,Tryz.ntmps188
   go_wp2_with fail
   go_ret
   exact ⟨by simp [a5] <;> rfl,rfl⟩
theorem zj1 (c:UInt8) (r:Bool) (hr:r=zen c) (w:World):Calls Tryz.prog 189 #[.int .u8 c.toNat] w fun e w'=>e=.returned (.bool r)∧w=w':=by
 by_cases a1:(48:Int)≤c.toNat
 ·have hv:r=decide ((c.toNat:Int)≤57):=by rw [hr,Bool.eq_iff_iff];simp [zen];omega
  clear hr
  go_enter Tryz.func189,Tryz.ntmps189
  go_wp2_with fail
  go_ret
  exact ⟨by rw [hv];rfl,rfl⟩
 ·have hv:r=false:=by rw [hr,Bool.eq_false_iff];simp [zen];omega
  clear hr
  subst hv
  go_enter Tryz.func189,Tryz.ntmps189
  go_wp2_with fail
  go_ret
  exact ⟨rfl,rfl⟩
theorem zf8 {s:ByteArray} {k:Nat} (h:k < s.size) (hk:zfl s[k]=false):zck s=false:=by
 unfold zck
 rw [decide_eq_false_iff_not]
 rintro ⟨_,_,ha⟩
 rw [ha k h] at hk
 exact absurd hk (by simp)
set_option maxHeartbeats 800000 in
theorem znn (s:ByteArray) (w:World) (hs:s.size≤maxLen):
 Calls Tryz.prog 180 #[.string s] w fun e w'=>e=.returned (.bool (zck s))∧w=w':=by
 unfold maxLen at hs
 by_cases h0:s.toList.isEmpty=true
 ·have hv:zck s=false:=by
   unfold zck
   rw [decide_eq_false_iff_not]
   have:=(zb7 s).1 h0
   omega
  rw [hv]
  go_enter Tryz.func180,Tryz.ntmps180
  go_wp2_with fail
  go_ret
  exact ⟨rfl,rfl⟩
 ·have h0':s.toList.isEmpty=false:=by simpa using h0
  have hpos:0 < s.size:=by have:=mt (zb7 s).2 h0;omega
  by_cases hbig:(1048576:Int) < s.size
  ·have hv:zck s=false:=by
    unfold zck
    rw [decide_eq_false_iff_not]
    omega
   rw [hv]
   go_enter Tryz.func180,Tryz.ntmps180
   go_wp2_with fail
   go_ret
   exact ⟨rfl,rfl⟩
  ·go_enter Tryz.func180,Tryz.ntmps180
   go_wp2_with fail
   go_loop [13] (fun i=>∃ k:Nat,k≤s.size∧i=.int .i64 k∧∀ j (h:j < s.size),j < k→zfl s[j]=true) (fun i=>s.size - (intOf i).toNat)
   case atStart=>exact ⟨0,Nat.zero_le _,rfl,fun j _ h=>absurd h (by omega)⟩
   case round=>
    obtain ⟨k,hk,rfl,hall⟩:=hrel
    have HA:=Lib.hid hall
    clear hall
    by_cases hlt:k < s.size
    ·by_cases h1:(s[k].toNat:Int)≤32
     ·go_wp2_with fail
      go_ret
      exact ⟨by rw [zf8 hlt (by simp [zfl];omega)];rfl,rfl⟩
     ·by_cases h2:(s[k].toNat:Int)=60
      ·go_wp2_with fail
       go_ret
       exact ⟨by rw [zf8 hlt (by simp [zfl];omega)];rfl,rfl⟩
      ·by_cases h3:(s[k].toNat:Int)=62
       ·go_wp2_with fail
        go_ret
        exact ⟨by rw [zf8 hlt (by simp [zfl];omega)];rfl,rfl⟩
       ·go_wp2_with fail
        go_round
        case rel=>exact ⟨k+1,by omega,by go_num,zeo (p:=fun _=>zfl) hlt HA.out (by simp [zfl];omega)⟩
        case measure=>simp [intOf];omega
    ·go_wp2_with fail
     go_ret
     have hv:zck s=true:=by
      unfold zck
      rw [decide_eq_true_eq]
      exact ⟨hpos,by omega,fun j hj=>HA.out j hj (by omega)⟩
     exact ⟨by rw [hv];rfl,rfl⟩
theorem ze7 {s:ByteArray} {k:Nat} (h:k < s.size) (hk:zdq k s[k]=false):zc8 s=false:=by
 unfold zc8
 rw [decide_eq_false_iff_not]
 rintro ⟨_,_,ha⟩
 rw [ha k h] at hk
 exact absurd hk (by simp)
set_option maxHeartbeats 800000 in
theorem zux (s:ByteArray) (w:World) (hs:s.size≤maxLen):
 Calls Tryz.prog 181 #[.string s] w fun e w'=>e=.returned (.bool (zc8 s))∧w=w':=by
 unfold maxLen at hs
 by_cases h0:s.toList.isEmpty=true
 ·have hv:zc8 s=false:=by
   unfold zc8
   rw [decide_eq_false_iff_not]
   have:=(zb7 s).1 h0
   omega
  rw [hv]
  go_enter Tryz.func181,Tryz.ntmps181
  go_wp2_with fail
  go_ret
  exact ⟨rfl,rfl⟩
 ·have h0':s.toList.isEmpty=false:=by simpa using h0
  have hpos:0 < s.size:=by have:=mt (zb7 s).2 h0;omega
  by_cases hbig:(64:Int) < s.size
  ·have hv:zc8 s=false:=by
    unfold zc8
    rw [decide_eq_false_iff_not]
    omega
   rw [hv]
   go_enter Tryz.func181,Tryz.ntmps181
   go_wp2_with fail
   go_ret
   exact ⟨rfl,rfl⟩
  ·go_enter Tryz.func181,Tryz.ntmps181
   go_wp2_with fail
   go_loop [13] (fun i=>∃ k:Nat,k≤s.size∧i=.int .i64 k∧∀ j (h:j < s.size),j < k→zdq j s[j]=true) (fun i=>s.size - (intOf i).toNat)
   case atStart=>exact ⟨0,Nat.zero_le _,rfl,fun j _ h=>absurd h (by omega)⟩
   case round=>
    obtain ⟨k,hk,rfl,hall⟩:=hrel
    have HA:=Lib.hid hall
    clear hall
    by_cases hlt:k < s.size
    ·by_cases h1:zcy s[k]=true
     ·have H1:=Lib.hid h1
      clear h1
      go_wp2_with (go_at_call 188;(with_reducible refine (zgy s[k] true H1.out.symm _).mono ?_);rintro e w' ⟨rfl,rfl⟩)
      go_round
      case rel=>exact ⟨k+1,by omega,by go_num,zeo (p:=zdq) hlt HA.out (by simp [zdq,H1.out])⟩
      case measure=>simp [intOf];omega
     ·have H1:Hid (zcy s[k]=false):=Lib.hid (by simpa using h1)
      clear h1
      by_cases h2:k=0
      ·subst h2
       go_wp2_with (go_at_call 188;(with_reducible refine (zgy s[0] false H1.out.symm _).mono ?_);rintro e w' ⟨rfl,rfl⟩)
       go_ret
       exact ⟨by rw [ze7 hlt (by simp [zdq,H1.out])];rfl,rfl⟩
      ·have h2i:¬ (k:Int)=0:=by omega
       by_cases h3:zen s[k]=true
       ·have H3:=Lib.hid h3
        clear h3
        go_wp2_with (first
         |(go_at_call 188;(with_reducible refine (zgy s[k] false H1.out.symm _).mono ?_);rintro e w' ⟨rfl,rfl⟩)
         |(go_at_call 189;(with_reducible refine (zj1 s[k] true H3.out.symm _).mono ?_);rintro e w' ⟨rfl,rfl⟩))
        go_round
        case rel=>exact ⟨k+1,by omega,by go_num,zeo (p:=zdq) hlt HA.out (by simp [zdq,H3.out,h2])⟩
        case measure=>simp [intOf];omega
       ·have H3:Hid (zen s[k]=false):=Lib.hid (by simpa using h3)
        clear h3
        go_wp2_with (first
         |(go_at_call 188;(with_reducible refine (zgy s[k] false H1.out.symm _).mono ?_);rintro e w' ⟨rfl,rfl⟩)
         |(go_at_call 189;(with_reducible refine (zj1 s[k] false H3.out.symm _).mono ?_);rintro e w' ⟨rfl,rfl⟩))
        go_ret
        exact ⟨by rw [ze7 hlt (by simp [zdq,H1.out,H3.out])];rfl,rfl⟩
    ·go_wp2_with fail
     go_ret
     have hv:zc8 s=true:=by
      unfold zc8
      rw [decide_eq_true_eq]
      exact ⟨hpos,by omega,fun j hj=>HA.out j hj (by omega)⟩
     exact ⟨by rw [hv];rfl,rfl⟩
end Go.Proofs.YtcfmenkigolnoaaGreatDoor

/- N3 -/
namespace Go.Proofs.YtcfmenkigolnoaaGreatDoor
open Go.RowKit
def zb1 (b:Bool) (n:Int) (t x:ByteArray) (len:Nat):Bool:=!b && decide (n=0) && decide (t.size=0) && decide (x.size=0) && decide (len=0)
theorem zcz (k:Int) (b:Bool) (n:Int) (t x:ByteArray) (p:Option Addr) (len cap:Nat) (w:World):
 Calls Tryz.prog 183 #[.agg #[.int .i64 k,.bool b,.int .i64 n,.string t,.string x,.slice p len cap]] w fun e w'=>e=.returned (.bool (zb1 b n t x len))∧Below w.heap.size w w':=by
 have h1:(w.alloc (.cells #[.int .i64 k,.bool b,.int .i64 n,.string t,.string x,.slice p len cap] 60)).cell? ⟨w.heap.size,1,none⟩=some (.bool b):=zac (zae _ _ rfl) _ rfl
 have h2:(w.alloc (.cells #[.int .i64 k,.bool b,.int .i64 n,.string t,.string x,.slice p len cap] 60)).cell? ⟨w.heap.size,2,none⟩=some (.int .i64 n):=zac (zae _ _ rfl) _ rfl
 have h3:(w.alloc (.cells #[.int .i64 k,.bool b,.int .i64 n,.string t,.string x,.slice p len cap] 60)).cell? ⟨w.heap.size,3,none⟩=some (.string t):=zac (zae _ _ rfl) _ rfl
 have h4:(w.alloc (.cells #[.int .i64 k,.bool b,.int .i64 n,.string t,.string x,.slice p len cap] 60)).cell? ⟨w.heap.size,4,none⟩=some (.string x):=zac (zae _ _ rfl) _ rfl
 have h5:(w.alloc (.cells #[.int .i64 k,.bool b,.int .i64 n,.string t,.string x,.slice p len cap] 60)).cell? ⟨w.heap.size,5,none⟩=some (.slice p len cap):=zac (zae _ _ rfl) _ rfl
 cases b with
 | true=>
   go_enter Tryz.func183,Tryz.ntmps183
   go_wp2_with fail
   go_ret
   exact ⟨rfl,zas _ _⟩
 | false=>
   by_cases e2:n=0
   ·subst e2
    by_cases e3:t.toList.isEmpty=true
    ·have s3:=(zb7 t).1 e3
     by_cases e4:x.toList.isEmpty=true
     ·have s4:=(zb7 x).1 e4
      have hv:zb1 false 0 t x len=((len:Int) == 0):=by
       unfold zb1
       rw [s3,s4,Bool.eq_iff_iff]
       simp
      rw [hv]
      clear hv s3 s4
      go_enter Tryz.func183,Tryz.ntmps183
      go_wp2_with fail
      go_ret
      exact ⟨rfl,zas _ _⟩
     ·have s4:¬ x.size=0:=mt (zb7 x).2 e4
      have e4':x.toList.isEmpty=false:=by simpa using e4
      have hv:zb1 false 0 t x len=false:=by simp [zb1,s4]
      rw [hv]
      clear hv s3 s4 e4
      go_enter Tryz.func183,Tryz.ntmps183
      go_wp2_with fail
      go_ret
      exact ⟨rfl,zas _ _⟩
    ·have s3:¬ t.size=0:=mt (zb7 t).2 e3
     have e3':t.toList.isEmpty=false:=by simpa using e3
     have hv:zb1 false 0 t x len=false:=by simp [zb1,s3]
     rw [hv]
     clear hv s3 e3
     go_enter Tryz.func183,Tryz.ntmps183
     go_wp2_with fail
     go_ret
     exact ⟨rfl,zas _ _⟩
   ·have hv:zb1 false n t x len=false:=by simp [zb1,e2]
    rw [hv]
    clear hv
    go_enter Tryz.func183,Tryz.ntmps183
    go_wp2_with fail
    go_ret
    exact ⟨rfl,zas _ _⟩
end Go.Proofs.YtcfmenkigolnoaaGreatDoor

/- N4 -/
namespace Go.Proofs.YtcfmenkigolnoaaGreatDoor
open Go.RowKit
theorem zg9:(Tryz.prog.info? 60).map (·.size)=some 6:=by kernel_rfl
def Six (w:World) (g:Nat) (k:Int) (b:Bool) (n:Int) (t x:ByteArray) (p:Option Addr) (len cap:Nat):Prop:=
 w.heap[g]?=some (.cells #[.int .i64 k,.bool b,.int .i64 n,.string t,.string x,.slice p len cap] 60)
section
variable {w w':World} {g e:Nat} {k:Int} {b:Bool} {n:Int} {t x:ByteArray} {p:Option Addr} {len cap:Nat}
theorem Six.below (h:Six w g k b n t x p len cap) (q:Below w.heap.size w w'):Six w' g k b n t x p len cap:=(q.block g (zaa h)).trans h
theorem Six.only (h:Six w g k b n t x p len cap) (q:Only e w w') (d:g≠e):Six w' g k b n t x p len cap:=(q.block g (zaa h) d).trans h
theorem Six.alloc (h:Six w g k b n t x p len cap) (o:Obj):Six (w.alloc o) g k b n t x p len cap:=zar _ h
theorem Six.drewN (h:Six w g k b n t x p len cap) (m:Nat):Six (w.drewN m) g k b n t x p len cap:=h
theorem Six.lt (h:Six w g k b n t x p len cap):g < w.heap.size:=zaa h
theorem zai (w:World) (e:w.heap.size=g):Six (w.alloc (.cells #[.int .i64 k,.bool b,.int .i64 n,.string t,.string x,.slice p len cap] 60)) g k b n t x p len cap:=zae _ _ e
theorem Six.c0 (h:Six w g k b n t x p len cap):w.cell? ⟨g,0,none⟩=some (.int .i64 k):=zac h _ rfl
theorem Six.c1 (h:Six w g k b n t x p len cap):w.cell? ⟨g,1,none⟩=some (.bool b):=zac h _ rfl
theorem Six.c2 (h:Six w g k b n t x p len cap):w.cell? ⟨g,2,none⟩=some (.int .i64 n):=zac h _ rfl
theorem Six.c3 (h:Six w g k b n t x p len cap):w.cell? ⟨g,3,none⟩=some (.string t):=zac h _ rfl
theorem Six.c4 (h:Six w g k b n t x p len cap):w.cell? ⟨g,4,none⟩=some (.string x):=zac h _ rfl
theorem Six.c5 (h:Six w g k b n t x p len cap):w.cell? ⟨g,5,none⟩=some (.slice p len cap):=zac h _ rfl
end
section
variable {w:World} {g:Nat} {k:Int} {b:Bool} {n:Int} {t x:ByteArray} {p:Option Addr} {len cap:Nat}
theorem Six.free (h:Six w g k b n t x p len cap) (i:Nat):w.frozen? ⟨g,i,none⟩=false:=zbj h _
theorem Six.set1 (h:Six w g k b n t x p len cap) (v:Bool):Six (w.setCell ⟨g,1,none⟩ (.bool v)) g k v n t x p len cap:=za6 h 1 (.bool v)
theorem Six.set2 (h:Six w g k b n t x p len cap) (v:Int):Six (w.setCell ⟨g,2,none⟩ (.int .i64 v)) g k b v t x p len cap:=za6 h 2 (.int .i64 v)
theorem Six.set3 (h:Six w g k b n t x p len cap) (v:ByteArray):Six (w.setCell ⟨g,3,none⟩ (.string v)) g k b n v x p len cap:=za6 h 3 (.string v)
theorem Six.set4 (h:Six w g k b n t x p len cap) (v:ByteArray):Six (w.setCell ⟨g,4,none⟩ (.string v)) g k b n t v p len cap:=za6 h 4 (.string v)
theorem Six.set5 (h:Six w g k b n t x p len cap) (q:Option Addr) (l c:Nat):Six (w.setCell ⟨g,5,none⟩ (.slice q l c)) g k b n t x q l c:=za6 h 5 (.slice q l c)
theorem zam {B e o:Nat} {y z:World} (h:Below B y z) (s:Option Nat) (v:Value) (hb:B≤e) (hs:B≤z.heap.size):Below B y (z.setCell ⟨e,o,s⟩ v):=
 zag h ((Only.refl e z).setCell o s v) hb hs
end
theorem zaj {ops:Array Oper} {rest:List Oper} {o:Oper} {a:Act} {w:World} {Q:Exit→Act→World→Prop} {k:Int} {b:Bool} {n:Int} {t x:ByteArray} {p:Option Addr} {len cap:Nat} (y:Operand) (g:Nat) (hg:Six w g k b n t x p len cap)
 (hgd:o.guard=none) (ho:o.op=.load 60 y) (hx:a.eval y=.pointer (some ⟨g,0,none⟩))
 (h:wpList Tryz.prog ops Q rest (a.put o.dst (.agg #[.int .i64 k,.bool b,.int .i64 n,.string t,.string x,.slice p len cap])) w):wpList Tryz.prog ops Q (o::rest) a w:=
 wpList_load_row hgd 60 y ho g hx 60 _ (0,0) _ hg Tryz.underlying60 rfl zg9 h
theorem zdj {ops:Array Oper} {rest:List Oper} {o:Oper} {a:Act} {w:World} {Q:Exit→Act→World→Prop} {k:Int} {b:Bool} {n:Int} {t x:ByteArray} {p:Option Addr} {len cap:Nat}
 {k':Int} {b':Bool} {n':Int} {t' x':ByteArray} {p':Option Addr} {len' cap':Nat} (y z:Operand) (g:Nat) (hg:Six w g k b n t x p len cap)
 (hgd:o.guard=none) (ho:o.op=.store 60 y z) (hx:a.eval y=.pointer (some ⟨g,0,none⟩)) (hy:a.eval z=.agg #[.int .i64 k',.bool b',.int .i64 n',.string t',.string x',.slice p' len' cap'])
 (h:∀ w',Only g w w'→Six w' g k' b' n' t' x' p' len' cap'→wpList Tryz.prog ops Q rest (a.put o.dst undef) w'):wpList Tryz.prog ops Q (o::rest) a w:=
 wpList_plain hgd fun _ hK=>by
  unfold Oper.wp execOp
  simp only [ho,hx,hy,Instr.storeAt,Instr.sureAddr,Sem.run_bind,Sem.run_pure,Result.andThen_ok,run_storeVar_row (P:=Tryz.prog) w g 60 60 _ #[.int .i64 k',.bool b',.int .i64 n',.string t',.string x',.slice p' len' cap'] hg zg9 rfl (by simp [Value.oneCell'])]
  exact hK _ _ (h _ (Only.setRow w _) (zc7 hg))
theorem zao {ops:Array Oper} {rest:List Oper} {o:Oper} {a:Act} {w:World} {Q:Exit→Act→World→Prop} {k:Int} {b:Bool} {n:Int} {t x:ByteArray} {p:Option Addr} {len cap:Nat} (y:Operand) (g:Nat) (hg:Six w g k b n t x p len cap)
 (hw:Region.wanted o (yielded ops a.tmps)=true) (ho:o.op=.load 60 y) (hx:a.eval y=.pointer (some ⟨g,0,none⟩))
 (h:wpList Tryz.prog ops Q rest (a.put o.dst (.agg #[.int .i64 k,.bool b,.int .i64 n,.string t,.string x,.slice p len cap])) w):wpList Tryz.prog ops Q (o::rest) a w:=by
 unfold wpList
 rw [if_pos hw]
 refine .inl ?_
 unfold Oper.wp execOp
 simp only [ho,hx,Instr.loadAt,Instr.sureAddr,Sem.run_bind,Sem.run_pure,Result.andThen_ok,run_loadVar_row (P:=Tryz.prog) w g 60 60 _ (0,0) _ hg Tryz.underlying60 rfl zg9]
 exact h
end Go.Proofs.YtcfmenkigolnoaaGreatDoor

/- N6 -/
namespace Go.Proofs.YtcfmenkigolnoaaGreatDoor
open Go.RowKit
theorem zqv (w:World):(Instr.typeAssert (.iface 196 (.agg #[])) 20 196 true).run Tryz.prog w=.ok (.tuple #[.agg #[],.bool true]) w:=by kernel_rfl
theorem zqw (w:World):(Instr.typeAssert (.iface 196 (.agg #[])) 20 197 true).run Tryz.prog w=.ok (.tuple #[.agg #[],.bool false]) w:=by kernel_rfl
theorem zqx (w:World):(Instr.typeAssert (.iface 196 (.agg #[])) 20 198 true).run Tryz.prog w=.ok (.tuple #[.agg #[],.bool false]) w:=by kernel_rfl
theorem zqy (w:World):(Instr.typeAssert (.iface 196 (.agg #[])) 20 199 true).run Tryz.prog w=.ok (.tuple #[.agg #[],.bool false]) w:=by kernel_rfl
theorem zqz (w:World):(Instr.typeAssert (.iface 196 (.agg #[])) 20 200 true).run Tryz.prog w=.ok (.tuple #[.agg #[],.bool false]) w:=by kernel_rfl
theorem zq0 (w:World):(Instr.typeAssert (.iface 196 (.agg #[])) 20 201 true).run Tryz.prog w=.ok (.tuple #[.agg #[],.bool false]) w:=by kernel_rfl
theorem zq1 (w:World):(Instr.typeAssert (.iface 196 (.agg #[])) 20 202 true).run Tryz.prog w=.ok (.tuple #[.agg #[],.bool false]) w:=by kernel_rfl
theorem zq2 (w:World):(Instr.typeAssert (.iface 196 (.agg #[])) 20 203 true).run Tryz.prog w=.ok (.tuple #[.agg #[],.bool false]) w:=by kernel_rfl
theorem zq3 (w:World):(Instr.typeAssert (.iface 196 (.agg #[])) 20 204 true).run Tryz.prog w=.ok (.tuple #[.agg #[],.bool false]) w:=by kernel_rfl
theorem zq4 (w:World):(Instr.typeAssert (.iface 196 (.agg #[])) 20 205 true).run Tryz.prog w=.ok (.tuple #[.agg #[],.bool false]) w:=by kernel_rfl
theorem zq5 (w:World):(Instr.typeAssert (.iface 196 (.agg #[])) 20 206 true).run Tryz.prog w=.ok (.tuple #[.agg #[],.bool false]) w:=by kernel_rfl
theorem zq6 (w:World):(Instr.typeAssert (.iface 197 (.agg #[])) 20 196 true).run Tryz.prog w=.ok (.tuple #[.agg #[],.bool false]) w:=by kernel_rfl
theorem zq7 (w:World):(Instr.typeAssert (.iface 197 (.agg #[])) 20 197 true).run Tryz.prog w=.ok (.tuple #[.agg #[],.bool true]) w:=by kernel_rfl
theorem zq8 (w:World):(Instr.typeAssert (.iface 197 (.agg #[])) 20 198 true).run Tryz.prog w=.ok (.tuple #[.agg #[],.bool false]) w:=by kernel_rfl
theorem zq9 (w:World):(Instr.typeAssert (.iface 197 (.agg #[])) 20 199 true).run Tryz.prog w=.ok (.tuple #[.agg #[],.bool false]) w:=by kernel_rfl
theorem zra (w:World):(Instr.typeAssert (.iface 197 (.agg #[])) 20 200 true).run Tryz.prog w=.ok (.tuple #[.agg #[],.bool false]) w:=by kernel_rfl
theorem zrb (w:World):(Instr.typeAssert (.iface 197 (.agg #[])) 20 201 true).run Tryz.prog w=.ok (.tuple #[.agg #[],.bool false]) w:=by kernel_rfl
theorem zrc (w:World):(Instr.typeAssert (.iface 197 (.agg #[])) 20 202 true).run Tryz.prog w=.ok (.tuple #[.agg #[],.bool false]) w:=by kernel_rfl
theorem zrd (w:World):(Instr.typeAssert (.iface 197 (.agg #[])) 20 203 true).run Tryz.prog w=.ok (.tuple #[.agg #[],.bool false]) w:=by kernel_rfl
theorem zre (w:World):(Instr.typeAssert (.iface 197 (.agg #[])) 20 204 true).run Tryz.prog w=.ok (.tuple #[.agg #[],.bool false]) w:=by kernel_rfl
theorem zrf (w:World):(Instr.typeAssert (.iface 197 (.agg #[])) 20 205 true).run Tryz.prog w=.ok (.tuple #[.agg #[],.bool false]) w:=by kernel_rfl
theorem zrg (w:World):(Instr.typeAssert (.iface 197 (.agg #[])) 20 206 true).run Tryz.prog w=.ok (.tuple #[.agg #[],.bool false]) w:=by kernel_rfl
theorem zrh (w:World):(Instr.typeAssert (.iface 198 (.agg #[])) 20 196 true).run Tryz.prog w=.ok (.tuple #[.agg #[],.bool false]) w:=by kernel_rfl
theorem zri (w:World):(Instr.typeAssert (.iface 198 (.agg #[])) 20 197 true).run Tryz.prog w=.ok (.tuple #[.agg #[],.bool false]) w:=by kernel_rfl
theorem zrj (w:World):(Instr.typeAssert (.iface 198 (.agg #[])) 20 198 true).run Tryz.prog w=.ok (.tuple #[.agg #[],.bool true]) w:=by kernel_rfl
theorem zrk (w:World):(Instr.typeAssert (.iface 198 (.agg #[])) 20 199 true).run Tryz.prog w=.ok (.tuple #[.agg #[],.bool false]) w:=by kernel_rfl
theorem zrl (w:World):(Instr.typeAssert (.iface 198 (.agg #[])) 20 200 true).run Tryz.prog w=.ok (.tuple #[.agg #[],.bool false]) w:=by kernel_rfl
theorem zrm (w:World):(Instr.typeAssert (.iface 198 (.agg #[])) 20 201 true).run Tryz.prog w=.ok (.tuple #[.agg #[],.bool false]) w:=by kernel_rfl
theorem zrn (w:World):(Instr.typeAssert (.iface 198 (.agg #[])) 20 202 true).run Tryz.prog w=.ok (.tuple #[.agg #[],.bool false]) w:=by kernel_rfl
theorem zro (w:World):(Instr.typeAssert (.iface 198 (.agg #[])) 20 203 true).run Tryz.prog w=.ok (.tuple #[.agg #[],.bool false]) w:=by kernel_rfl
theorem zrp (w:World):(Instr.typeAssert (.iface 198 (.agg #[])) 20 204 true).run Tryz.prog w=.ok (.tuple #[.agg #[],.bool false]) w:=by kernel_rfl
theorem zrq (w:World):(Instr.typeAssert (.iface 198 (.agg #[])) 20 205 true).run Tryz.prog w=.ok (.tuple #[.agg #[],.bool false]) w:=by kernel_rfl
theorem zrr (w:World):(Instr.typeAssert (.iface 198 (.agg #[])) 20 206 true).run Tryz.prog w=.ok (.tuple #[.agg #[],.bool false]) w:=by kernel_rfl
theorem zj2 (w:World):(Instr.typeAssert (.iface 199 (.agg #[])) 20 196 true).run Tryz.prog w=.ok (.tuple #[.agg #[],.bool false]) w:=by kernel_rfl
theorem zj3 (w:World):(Instr.typeAssert (.iface 199 (.agg #[])) 20 197 true).run Tryz.prog w=.ok (.tuple #[.agg #[],.bool false]) w:=by kernel_rfl
theorem zj4 (w:World):(Instr.typeAssert (.iface 199 (.agg #[])) 20 198 true).run Tryz.prog w=.ok (.tuple #[.agg #[],.bool false]) w:=by kernel_rfl
theorem zj5 (w:World):(Instr.typeAssert (.iface 199 (.agg #[])) 20 199 true).run Tryz.prog w=.ok (.tuple #[.agg #[],.bool true]) w:=by kernel_rfl
theorem zj6 (w:World):(Instr.typeAssert (.iface 199 (.agg #[])) 20 200 true).run Tryz.prog w=.ok (.tuple #[.agg #[],.bool false]) w:=by kernel_rfl
theorem zj7 (w:World):(Instr.typeAssert (.iface 199 (.agg #[])) 20 201 true).run Tryz.prog w=.ok (.tuple #[.agg #[],.bool false]) w:=by kernel_rfl
theorem zj8 (w:World):(Instr.typeAssert (.iface 199 (.agg #[])) 20 202 true).run Tryz.prog w=.ok (.tuple #[.agg #[],.bool false]) w:=by kernel_rfl
theorem zj9 (w:World):(Instr.typeAssert (.iface 199 (.agg #[])) 20 203 true).run Tryz.prog w=.ok (.tuple #[.agg #[],.bool false]) w:=by kernel_rfl
theorem zka (w:World):(Instr.typeAssert (.iface 199 (.agg #[])) 20 204 true).run Tryz.prog w=.ok (.tuple #[.agg #[],.bool false]) w:=by kernel_rfl
theorem zkb (w:World):(Instr.typeAssert (.iface 199 (.agg #[])) 20 205 true).run Tryz.prog w=.ok (.tuple #[.agg #[],.bool false]) w:=by kernel_rfl
theorem zkc (w:World):(Instr.typeAssert (.iface 199 (.agg #[])) 20 206 true).run Tryz.prog w=.ok (.tuple #[.agg #[],.bool false]) w:=by kernel_rfl
theorem zkd (w:World):(Instr.typeAssert (.iface 200 (.agg #[])) 20 196 true).run Tryz.prog w=.ok (.tuple #[.agg #[],.bool false]) w:=by kernel_rfl
theorem zke (w:World):(Instr.typeAssert (.iface 200 (.agg #[])) 20 197 true).run Tryz.prog w=.ok (.tuple #[.agg #[],.bool false]) w:=by kernel_rfl
theorem zkf (w:World):(Instr.typeAssert (.iface 200 (.agg #[])) 20 198 true).run Tryz.prog w=.ok (.tuple #[.agg #[],.bool false]) w:=by kernel_rfl
theorem zkg (w:World):(Instr.typeAssert (.iface 200 (.agg #[])) 20 199 true).run Tryz.prog w=.ok (.tuple #[.agg #[],.bool false]) w:=by kernel_rfl
theorem zkh (w:World):(Instr.typeAssert (.iface 200 (.agg #[])) 20 200 true).run Tryz.prog w=.ok (.tuple #[.agg #[],.bool true]) w:=by kernel_rfl
theorem zki (w:World):(Instr.typeAssert (.iface 200 (.agg #[])) 20 201 true).run Tryz.prog w=.ok (.tuple #[.agg #[],.bool false]) w:=by kernel_rfl
theorem zkj (w:World):(Instr.typeAssert (.iface 200 (.agg #[])) 20 202 true).run Tryz.prog w=.ok (.tuple #[.agg #[],.bool false]) w:=by kernel_rfl
theorem zkk (w:World):(Instr.typeAssert (.iface 200 (.agg #[])) 20 203 true).run Tryz.prog w=.ok (.tuple #[.agg #[],.bool false]) w:=by kernel_rfl
theorem zkl (w:World):(Instr.typeAssert (.iface 200 (.agg #[])) 20 204 true).run Tryz.prog w=.ok (.tuple #[.agg #[],.bool false]) w:=by kernel_rfl
theorem zkm (w:World):(Instr.typeAssert (.iface 200 (.agg #[])) 20 205 true).run Tryz.prog w=.ok (.tuple #[.agg #[],.bool false]) w:=by kernel_rfl
theorem zkn (w:World):(Instr.typeAssert (.iface 200 (.agg #[])) 20 206 true).run Tryz.prog w=.ok (.tuple #[.agg #[],.bool false]) w:=by kernel_rfl
theorem zko (w:World):(Instr.typeAssert (.iface 201 (.agg #[])) 20 196 true).run Tryz.prog w=.ok (.tuple #[.agg #[],.bool false]) w:=by kernel_rfl
theorem zkp (w:World):(Instr.typeAssert (.iface 201 (.agg #[])) 20 197 true).run Tryz.prog w=.ok (.tuple #[.agg #[],.bool false]) w:=by kernel_rfl
theorem zkq (w:World):(Instr.typeAssert (.iface 201 (.agg #[])) 20 198 true).run Tryz.prog w=.ok (.tuple #[.agg #[],.bool false]) w:=by kernel_rfl
theorem zkr (w:World):(Instr.typeAssert (.iface 201 (.agg #[])) 20 199 true).run Tryz.prog w=.ok (.tuple #[.agg #[],.bool false]) w:=by kernel_rfl
theorem zks (w:World):(Instr.typeAssert (.iface 201 (.agg #[])) 20 200 true).run Tryz.prog w=.ok (.tuple #[.agg #[],.bool false]) w:=by kernel_rfl
theorem zkt (w:World):(Instr.typeAssert (.iface 201 (.agg #[])) 20 201 true).run Tryz.prog w=.ok (.tuple #[.agg #[],.bool true]) w:=by kernel_rfl
theorem zku (w:World):(Instr.typeAssert (.iface 201 (.agg #[])) 20 202 true).run Tryz.prog w=.ok (.tuple #[.agg #[],.bool false]) w:=by kernel_rfl
theorem zkv (w:World):(Instr.typeAssert (.iface 201 (.agg #[])) 20 203 true).run Tryz.prog w=.ok (.tuple #[.agg #[],.bool false]) w:=by kernel_rfl
theorem zkw (w:World):(Instr.typeAssert (.iface 201 (.agg #[])) 20 204 true).run Tryz.prog w=.ok (.tuple #[.agg #[],.bool false]) w:=by kernel_rfl
theorem zkx (w:World):(Instr.typeAssert (.iface 201 (.agg #[])) 20 205 true).run Tryz.prog w=.ok (.tuple #[.agg #[],.bool false]) w:=by kernel_rfl
theorem zky (w:World):(Instr.typeAssert (.iface 201 (.agg #[])) 20 206 true).run Tryz.prog w=.ok (.tuple #[.agg #[],.bool false]) w:=by kernel_rfl
theorem zkz (w:World):(Instr.typeAssert (.iface 202 (.agg #[])) 20 196 true).run Tryz.prog w=.ok (.tuple #[.agg #[],.bool false]) w:=by kernel_rfl
theorem zk0 (w:World):(Instr.typeAssert (.iface 202 (.agg #[])) 20 197 true).run Tryz.prog w=.ok (.tuple #[.agg #[],.bool false]) w:=by kernel_rfl
theorem zk1 (w:World):(Instr.typeAssert (.iface 202 (.agg #[])) 20 198 true).run Tryz.prog w=.ok (.tuple #[.agg #[],.bool false]) w:=by kernel_rfl
theorem zk2 (w:World):(Instr.typeAssert (.iface 202 (.agg #[])) 20 199 true).run Tryz.prog w=.ok (.tuple #[.agg #[],.bool false]) w:=by kernel_rfl
theorem zk3 (w:World):(Instr.typeAssert (.iface 202 (.agg #[])) 20 200 true).run Tryz.prog w=.ok (.tuple #[.agg #[],.bool false]) w:=by kernel_rfl
theorem zk4 (w:World):(Instr.typeAssert (.iface 202 (.agg #[])) 20 201 true).run Tryz.prog w=.ok (.tuple #[.agg #[],.bool false]) w:=by kernel_rfl
theorem zk5 (w:World):(Instr.typeAssert (.iface 202 (.agg #[])) 20 202 true).run Tryz.prog w=.ok (.tuple #[.agg #[],.bool true]) w:=by kernel_rfl
theorem zk6 (w:World):(Instr.typeAssert (.iface 202 (.agg #[])) 20 203 true).run Tryz.prog w=.ok (.tuple #[.agg #[],.bool false]) w:=by kernel_rfl
theorem zk7 (w:World):(Instr.typeAssert (.iface 202 (.agg #[])) 20 204 true).run Tryz.prog w=.ok (.tuple #[.agg #[],.bool false]) w:=by kernel_rfl
theorem zk8 (w:World):(Instr.typeAssert (.iface 202 (.agg #[])) 20 205 true).run Tryz.prog w=.ok (.tuple #[.agg #[],.bool false]) w:=by kernel_rfl
theorem zk9 (w:World):(Instr.typeAssert (.iface 202 (.agg #[])) 20 206 true).run Tryz.prog w=.ok (.tuple #[.agg #[],.bool false]) w:=by kernel_rfl
theorem zla (w:World):(Instr.typeAssert (.iface 203 (.agg #[])) 20 196 true).run Tryz.prog w=.ok (.tuple #[.agg #[],.bool false]) w:=by kernel_rfl
theorem zlb (w:World):(Instr.typeAssert (.iface 203 (.agg #[])) 20 197 true).run Tryz.prog w=.ok (.tuple #[.agg #[],.bool false]) w:=by kernel_rfl
theorem zlc (w:World):(Instr.typeAssert (.iface 203 (.agg #[])) 20 198 true).run Tryz.prog w=.ok (.tuple #[.agg #[],.bool false]) w:=by kernel_rfl
theorem zld (w:World):(Instr.typeAssert (.iface 203 (.agg #[])) 20 199 true).run Tryz.prog w=.ok (.tuple #[.agg #[],.bool false]) w:=by kernel_rfl
theorem zle (w:World):(Instr.typeAssert (.iface 203 (.agg #[])) 20 200 true).run Tryz.prog w=.ok (.tuple #[.agg #[],.bool false]) w:=by kernel_rfl
theorem zlf (w:World):(Instr.typeAssert (.iface 203 (.agg #[])) 20 201 true).run Tryz.prog w=.ok (.tuple #[.agg #[],.bool false]) w:=by kernel_rfl
theorem zlg (w:World):(Instr.typeAssert (.iface 203 (.agg #[])) 20 202 true).run Tryz.prog w=.ok (.tuple #[.agg #[],.bool false]) w:=by kernel_rfl
theorem zlh (w:World):(Instr.typeAssert (.iface 203 (.agg #[])) 20 203 true).run Tryz.prog w=.ok (.tuple #[.agg #[],.bool true]) w:=by kernel_rfl
theorem zli (w:World):(Instr.typeAssert (.iface 203 (.agg #[])) 20 204 true).run Tryz.prog w=.ok (.tuple #[.agg #[],.bool false]) w:=by kernel_rfl
theorem zlj (w:World):(Instr.typeAssert (.iface 203 (.agg #[])) 20 205 true).run Tryz.prog w=.ok (.tuple #[.agg #[],.bool false]) w:=by kernel_rfl
theorem zlk (w:World):(Instr.typeAssert (.iface 203 (.agg #[])) 20 206 true).run Tryz.prog w=.ok (.tuple #[.agg #[],.bool false]) w:=by kernel_rfl
theorem zll (w:World):(Instr.typeAssert (.iface 204 (.agg #[])) 20 196 true).run Tryz.prog w=.ok (.tuple #[.agg #[],.bool false]) w:=by kernel_rfl
theorem zlm (w:World):(Instr.typeAssert (.iface 204 (.agg #[])) 20 197 true).run Tryz.prog w=.ok (.tuple #[.agg #[],.bool false]) w:=by kernel_rfl
theorem zln (w:World):(Instr.typeAssert (.iface 204 (.agg #[])) 20 198 true).run Tryz.prog w=.ok (.tuple #[.agg #[],.bool false]) w:=by kernel_rfl
theorem zlo (w:World):(Instr.typeAssert (.iface 204 (.agg #[])) 20 199 true).run Tryz.prog w=.ok (.tuple #[.agg #[],.bool false]) w:=by kernel_rfl
theorem zlp (w:World):(Instr.typeAssert (.iface 204 (.agg #[])) 20 200 true).run Tryz.prog w=.ok (.tuple #[.agg #[],.bool false]) w:=by kernel_rfl
theorem zlq (w:World):(Instr.typeAssert (.iface 204 (.agg #[])) 20 201 true).run Tryz.prog w=.ok (.tuple #[.agg #[],.bool false]) w:=by kernel_rfl
theorem zlr (w:World):(Instr.typeAssert (.iface 204 (.agg #[])) 20 202 true).run Tryz.prog w=.ok (.tuple #[.agg #[],.bool false]) w:=by kernel_rfl
theorem zls (w:World):(Instr.typeAssert (.iface 204 (.agg #[])) 20 203 true).run Tryz.prog w=.ok (.tuple #[.agg #[],.bool false]) w:=by kernel_rfl
theorem zlu (w:World):(Instr.typeAssert (.iface 204 (.agg #[])) 20 204 true).run Tryz.prog w=.ok (.tuple #[.agg #[],.bool true]) w:=by kernel_rfl
theorem zlv (w:World):(Instr.typeAssert (.iface 204 (.agg #[])) 20 205 true).run Tryz.prog w=.ok (.tuple #[.agg #[],.bool false]) w:=by kernel_rfl
theorem zlw (w:World):(Instr.typeAssert (.iface 204 (.agg #[])) 20 206 true).run Tryz.prog w=.ok (.tuple #[.agg #[],.bool false]) w:=by kernel_rfl
theorem zha (w:World):(Instr.typeAssert (.iface 205 (.agg #[])) 20 196 true).run Tryz.prog w=.ok (.tuple #[.agg #[],.bool false]) w:=by kernel_rfl
theorem zhb (w:World):(Instr.typeAssert (.iface 205 (.agg #[])) 20 197 true).run Tryz.prog w=.ok (.tuple #[.agg #[],.bool false]) w:=by kernel_rfl
theorem zhc (w:World):(Instr.typeAssert (.iface 205 (.agg #[])) 20 198 true).run Tryz.prog w=.ok (.tuple #[.agg #[],.bool false]) w:=by kernel_rfl
theorem zhd (w:World):(Instr.typeAssert (.iface 205 (.agg #[])) 20 199 true).run Tryz.prog w=.ok (.tuple #[.agg #[],.bool false]) w:=by kernel_rfl
theorem zhe (w:World):(Instr.typeAssert (.iface 205 (.agg #[])) 20 200 true).run Tryz.prog w=.ok (.tuple #[.agg #[],.bool false]) w:=by kernel_rfl
theorem zhf (w:World):(Instr.typeAssert (.iface 205 (.agg #[])) 20 201 true).run Tryz.prog w=.ok (.tuple #[.agg #[],.bool false]) w:=by kernel_rfl
theorem zhg (w:World):(Instr.typeAssert (.iface 205 (.agg #[])) 20 202 true).run Tryz.prog w=.ok (.tuple #[.agg #[],.bool false]) w:=by kernel_rfl
theorem zhh (w:World):(Instr.typeAssert (.iface 205 (.agg #[])) 20 203 true).run Tryz.prog w=.ok (.tuple #[.agg #[],.bool false]) w:=by kernel_rfl
theorem zhi (w:World):(Instr.typeAssert (.iface 205 (.agg #[])) 20 204 true).run Tryz.prog w=.ok (.tuple #[.agg #[],.bool false]) w:=by kernel_rfl
theorem zhj (w:World):(Instr.typeAssert (.iface 205 (.agg #[])) 20 205 true).run Tryz.prog w=.ok (.tuple #[.agg #[],.bool true]) w:=by kernel_rfl
theorem zhk (w:World):(Instr.typeAssert (.iface 205 (.agg #[])) 20 206 true).run Tryz.prog w=.ok (.tuple #[.agg #[],.bool false]) w:=by kernel_rfl
theorem zlx (w:World):(Instr.typeAssert (.iface 206 (.agg #[])) 20 196 true).run Tryz.prog w=.ok (.tuple #[.agg #[],.bool false]) w:=by kernel_rfl
theorem zly (w:World):(Instr.typeAssert (.iface 206 (.agg #[])) 20 197 true).run Tryz.prog w=.ok (.tuple #[.agg #[],.bool false]) w:=by kernel_rfl
theorem zlz (w:World):(Instr.typeAssert (.iface 206 (.agg #[])) 20 198 true).run Tryz.prog w=.ok (.tuple #[.agg #[],.bool false]) w:=by kernel_rfl
theorem zl0 (w:World):(Instr.typeAssert (.iface 206 (.agg #[])) 20 199 true).run Tryz.prog w=.ok (.tuple #[.agg #[],.bool false]) w:=by kernel_rfl
theorem zl1 (w:World):(Instr.typeAssert (.iface 206 (.agg #[])) 20 200 true).run Tryz.prog w=.ok (.tuple #[.agg #[],.bool false]) w:=by kernel_rfl
theorem zl2 (w:World):(Instr.typeAssert (.iface 206 (.agg #[])) 20 201 true).run Tryz.prog w=.ok (.tuple #[.agg #[],.bool false]) w:=by kernel_rfl
theorem zl3 (w:World):(Instr.typeAssert (.iface 206 (.agg #[])) 20 202 true).run Tryz.prog w=.ok (.tuple #[.agg #[],.bool false]) w:=by kernel_rfl
theorem zl4 (w:World):(Instr.typeAssert (.iface 206 (.agg #[])) 20 203 true).run Tryz.prog w=.ok (.tuple #[.agg #[],.bool false]) w:=by kernel_rfl
theorem zl5 (w:World):(Instr.typeAssert (.iface 206 (.agg #[])) 20 204 true).run Tryz.prog w=.ok (.tuple #[.agg #[],.bool false]) w:=by kernel_rfl
theorem zl6 (w:World):(Instr.typeAssert (.iface 206 (.agg #[])) 20 205 true).run Tryz.prog w=.ok (.tuple #[.agg #[],.bool false]) w:=by kernel_rfl
theorem zl7 (w:World):(Instr.typeAssert (.iface 206 (.agg #[])) 20 206 true).run Tryz.prog w=.ok (.tuple #[.agg #[],.bool true]) w:=by kernel_rfl
theorem zrs (w:World):(Instr.typeAssert (.iface 214 (.agg #[])) 20 196 true).run Tryz.prog w=.ok (.tuple #[.agg #[],.bool false]) w:=by kernel_rfl
theorem zrt (w:World):(Instr.typeAssert (.iface 214 (.agg #[])) 20 197 true).run Tryz.prog w=.ok (.tuple #[.agg #[],.bool false]) w:=by kernel_rfl
theorem zru (w:World):(Instr.typeAssert (.iface 214 (.agg #[])) 20 198 true).run Tryz.prog w=.ok (.tuple #[.agg #[],.bool false]) w:=by kernel_rfl
theorem zrv (w:World):(Instr.typeAssert (.iface 214 (.agg #[])) 20 199 true).run Tryz.prog w=.ok (.tuple #[.agg #[],.bool false]) w:=by kernel_rfl
theorem zrw (w:World):(Instr.typeAssert (.iface 214 (.agg #[])) 20 200 true).run Tryz.prog w=.ok (.tuple #[.agg #[],.bool false]) w:=by kernel_rfl
theorem zrx (w:World):(Instr.typeAssert (.iface 214 (.agg #[])) 20 201 true).run Tryz.prog w=.ok (.tuple #[.agg #[],.bool false]) w:=by kernel_rfl
theorem zry (w:World):(Instr.typeAssert (.iface 214 (.agg #[])) 20 202 true).run Tryz.prog w=.ok (.tuple #[.agg #[],.bool false]) w:=by kernel_rfl
theorem zrz (w:World):(Instr.typeAssert (.iface 214 (.agg #[])) 20 203 true).run Tryz.prog w=.ok (.tuple #[.agg #[],.bool false]) w:=by kernel_rfl
theorem zr0 (w:World):(Instr.typeAssert (.iface 214 (.agg #[])) 20 204 true).run Tryz.prog w=.ok (.tuple #[.agg #[],.bool false]) w:=by kernel_rfl
theorem zr1 (w:World):(Instr.typeAssert (.iface 214 (.agg #[])) 20 205 true).run Tryz.prog w=.ok (.tuple #[.agg #[],.bool false]) w:=by kernel_rfl
theorem zr2 (w:World):(Instr.typeAssert (.iface 214 (.agg #[])) 20 206 true).run Tryz.prog w=.ok (.tuple #[.agg #[],.bool false]) w:=by kernel_rfl
end Go.Proofs.YtcfmenkigolnoaaGreatDoor
