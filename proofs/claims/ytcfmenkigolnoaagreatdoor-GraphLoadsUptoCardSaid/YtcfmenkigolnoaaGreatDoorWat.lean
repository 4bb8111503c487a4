/- Texts of one kind, one behind the other: each says ahead of itself what it shows. -/
import Derived.Test.YtcfmenkigolnoaaGreatDoorWas
import Derived.Test.YtcfmenkigolnoaaGreatDoorWae
import Derived.Deep.LoopGhost
import Derived.Test.YtcfmenkigolnoaaGreatDoorWap
/- DMd -/
namespace Go.Proofs.YtcfmenkigolnoaaGreatDoor
open Go.RowKit
theorem fitsK8 (b:Bool) (n:Int) (t x:ByteArray) (len:Nat) (r:Bool):zb8 8 b n t x len r=(zck t && (!b && !(n != 0) && !(!x.toList.isEmpty) && !(decide (0 < len)))):=by
 rw [show zb8 8 b n t x len r=(zck t && zb1 b n ⟨#[]⟩ x len) from rfl]
 rw [zc3]
 rw [zm3]
 simp
set_option maxRecDepth 20000 in
set_option maxHeartbeats 6400000 in
theorem refMay8 (b:Bool) (n:Int) (t x:ByteArray) (p:Option Addr) (len cap d:Nat) (r0:Bool) (w:World) (hd:(d:Int)≤60) (ht:t.size≤2097152) (hx:x.size≤2097152):
 Calls Tryz.prog 127 #[.agg #[.int .i64 8,.bool b,.int .i64 n,.string t,.string x,.slice p len cap],.int .i64 d] w fun e w'=>e=.returned (.bool (zb8 8 b n t x len r0))∧Below w.heap.size w w':=by
 have S:=zai (k:=8) (b:=b) (n:=n) (t:=t) (x:=x) (p:=p) (len:=len) (cap:=cap) w rfl
 have b0:=zas w (.cells #[.int .i64 8,.bool b,.int .i64 n,.string t,.string x,.slice p len cap] 60)
 have f0:=S.c0
 have f1:=S.c1
 have f2:=S.c2
 have f3:=S.c3
 have f4:=S.c4
 have f5:=S.c5
 rw [fitsK8]
 obtain ⟨r,hr⟩:∃ r,r=(zck t && (!b && !(n != 0) && !(!x.toList.isEmpty) && !(decide (0 < len)))):=⟨_,rfl⟩
 rw [← hr]
 have hC:=fun W=>zwi t W (by unfold maxLen;omega)
 obtain ⟨w1,hw1⟩:∃ w1,w1=w.alloc (.cells #[.int .i64 8,.bool b,.int .i64 n,.string t,.string x,.slice p len cap] 60):=⟨_,rfl⟩
 rw [← hw1] at S b0
 have HW:=Lib.hid hw1
 have HR:=Lib.hid hr
 clear hw1 hr
 go_enter Tryz.func127,Tryz.ntmps127
 go_upto_region 9 with fail
 rw [← HW.out]
 clear f0 f1 f2 f3 f4 f5
 have f0:=S.c0
 have f2:=S.c2
 have f3:=S.c3
 have f4:=S.c4
 have HR2:=HR.out
 clear HR
 generalize (n != 0)=nb at HR2 ⊢
 generalize (!t.toList.isEmpty)=tb at HR2 ⊢
 generalize (!x.toList.isEmpty)=xb at HR2 ⊢
 generalize decide (0 < len)=lb at HR2 ⊢
 generalize zck t=C at HR2 hC ⊢
 have HR3:=Lib.hid HR2
 clear HR2 ht hx
 go_wp2_with (go_at_call 161;(with_reducible refine (hC _).mono ?_);rintro e w' ⟨rfl,rfl⟩)
 all_goals
  go_ret
  exact ⟨by rw [HR3.out];simp_all <;> (intros;omega),b0⟩
theorem fitsK9 (b:Bool) (n:Int) (t x:ByteArray) (len:Nat) (r:Bool):zb8 9 b n t x len r=(zc8 t && (!b && !(n != 0) && !(!x.toList.isEmpty) && !(decide (0 < len)))):=by
 rw [show zb8 9 b n t x len r=(zc8 t && zb1 b n ⟨#[]⟩ x len) from rfl]
 rw [zc3]
 rw [zm3]
 simp
set_option maxRecDepth 20000 in
set_option maxHeartbeats 6400000 in
theorem refMay9 (b:Bool) (n:Int) (t x:ByteArray) (p:Option Addr) (len cap d:Nat) (r0:Bool) (w:World) (hd:(d:Int)≤60) (ht:t.size≤2097152) (hx:x.size≤2097152):
 Calls Tryz.prog 127 #[.agg #[.int .i64 9,.bool b,.int .i64 n,.string t,.string x,.slice p len cap],.int .i64 d] w fun e w'=>e=.returned (.bool (zb8 9 b n t x len r0))∧Below w.heap.size w w':=by
 have S:=zai (k:=9) (b:=b) (n:=n) (t:=t) (x:=x) (p:=p) (len:=len) (cap:=cap) w rfl
 have b0:=zas w (.cells #[.int .i64 9,.bool b,.int .i64 n,.string t,.string x,.slice p len cap] 60)
 have f0:=S.c0
 have f1:=S.c1
 have f2:=S.c2
 have f3:=S.c3
 have f4:=S.c4
 have f5:=S.c5
 rw [fitsK9]
 obtain ⟨r,hr⟩:∃ r,r=(zc8 t && (!b && !(n != 0) && !(!x.toList.isEmpty) && !(decide (0 < len)))):=⟨_,rfl⟩
 rw [← hr]
 have hC:=fun W=>refName t W (by unfold maxLen;omega)
 obtain ⟨w1,hw1⟩:∃ w1,w1=w.alloc (.cells #[.int .i64 9,.bool b,.int .i64 n,.string t,.string x,.slice p len cap] 60):=⟨_,rfl⟩
 rw [← hw1] at S b0
 have HW:=Lib.hid hw1
 have HR:=Lib.hid hr
 clear hw1 hr
 go_enter Tryz.func127,Tryz.ntmps127
 go_upto_region 9 with fail
 rw [← HW.out]
 clear f0 f1 f2 f3 f4 f5
 have f0:=S.c0
 have f2:=S.c2
 have f3:=S.c3
 have f4:=S.c4
 have HR2:=HR.out
 clear HR
 generalize (n != 0)=nb at HR2 ⊢
 generalize (!t.toList.isEmpty)=tb at HR2 ⊢
 generalize (!x.toList.isEmpty)=xb at HR2 ⊢
 generalize decide (0 < len)=lb at HR2 ⊢
 generalize zc8 t=C at HR2 hC ⊢
 have HR3:=Lib.hid HR2
 clear HR2 ht hx
 go_wp2_with (go_at_call 162;(with_reducible refine (hC _).mono ?_);rintro e w' ⟨rfl,rfl⟩)
 all_goals
  go_ret
  exact ⟨by rw [HR3.out];simp_all <;> (intros;omega),b0⟩
theorem fitsK10 (b:Bool) (n:Int) (t x:ByteArray) (len:Nat) (r:Bool):zb8 10 b n t x len r=(decide ((t.size:Int)≤1048576) && (zck x && (!b && !(n != 0) && !(decide (0 < len))))):=by
 rw [show zb8 10 b n t x len r=(decide (t.size≤1048576) && (zck x && zb1 b n ⟨#[]⟩ ⟨#[]⟩ len)) from rfl]
 rw [zc3]
 rw [zm3,show decide (t.size≤1048576)=decide ((t.size:Int)≤1048576) from decide_eq_decide.2 (by omega)]
 simp
set_option maxRecDepth 20000 in
set_option maxHeartbeats 6400000 in
theorem zv1 (b:Bool) (n:Int) (t x:ByteArray) (p:Option Addr) (len cap d:Nat) (r0:Bool) (w:World) (hd:(d:Int)≤60) (ht:t.size≤2097152) (hx:x.size≤2097152):
 Calls Tryz.prog 127 #[.agg #[.int .i64 10,.bool b,.int .i64 n,.string t,.string x,.slice p len cap],.int .i64 d] w fun e w'=>e=.returned (.bool (zb8 10 b n t x len r0))∧Below w.heap.size w w':=by
 have S:=zai (k:=10) (b:=b) (n:=n) (t:=t) (x:=x) (p:=p) (len:=len) (cap:=cap) w rfl
 have b0:=zas w (.cells #[.int .i64 10,.bool b,.int .i64 n,.string t,.string x,.slice p len cap] 60)
 have f0:=S.c0
 have f1:=S.c1
 have f2:=S.c2
 have f3:=S.c3
 have f4:=S.c4
 have f5:=S.c5
 rw [fitsK10]
 obtain ⟨r,hr⟩:∃ r,r=(decide ((t.size:Int)≤1048576) && (zck x && (!b && !(n != 0) && !(decide (0 < len))))):=⟨_,rfl⟩
 rw [← hr]
 have hC:=fun W=>zwi x W (by unfold maxLen;omega)
 obtain ⟨w1,hw1⟩:∃ w1,w1=w.alloc (.cells #[.int .i64 10,.bool b,.int .i64 n,.string t,.string x,.slice p len cap] 60):=⟨_,rfl⟩
 rw [← hw1] at S b0
 have HW:=Lib.hid hw1
 have HR:=Lib.hid hr
 clear hw1 hr
 go_enter Tryz.func127,Tryz.ntmps127
 go_upto_region 9 with fail
 rw [← HW.out]
 clear f0 f1 f2 f3 f4 f5
 have f0:=S.c0
 have f2:=S.c2
 have f3:=S.c3
 have f4:=S.c4
 have HR2:=HR.out
 clear HR
 generalize (n != 0)=nb at HR2 ⊢
 generalize (!t.toList.isEmpty)=tb at HR2 ⊢
 generalize (!x.toList.isEmpty)=xb at HR2 ⊢
 generalize decide (0 < len)=lb at HR2 ⊢
 generalize zck x=C at HR2 hC ⊢
 have HR3:=Lib.hid HR2
 clear HR2 ht hx
 go_wp2_with (go_at_call 161;(with_reducible refine (hC _).mono ?_);rintro e w' ⟨rfl,rfl⟩)
 all_goals
  go_ret
  exact ⟨by rw [HR3.out];simp_all <;> (intros;omega),b0⟩
end Go.Proofs.YtcfmenkigolnoaaGreatDoor

/- DMe -/
namespace Go.Proofs.YtcfmenkigolnoaaGreatDoor
open Go.RowKit
def zf4 (v:Val) (d:Nat):Prop:=∀ (W:World) (k:Int) (b:Bool) (n:Int) (t x:ByteArray) (q:List Val) (p:Option Addr) (cap:Nat),v=.mk k b n t x q→Fine n t x q.length→Held W (.slice p q.length cap) q→
 Calls Tryz.prog 127 #[.agg #[.int .i64 k,.bool b,.int .i64 n,.string t,.string x,.slice p q.length cap],.int .i64 d] W fun e w'=>e=.returned (.bool (mayP v d))∧Below W.heap.size W w'
set_option maxRecDepth 20000 in
set_option maxHeartbeats 6400000 in
theorem refMayX (k:Int) (b:Bool) (n:Int) (t x:ByteArray) (p:Option Addr) (len cap d:Nat) (r0:Bool) (w:World) (hd:(d:Int)≤60) (hk:k < 0∨10 < k):
 Calls Tryz.prog 127 #[.agg #[.int .i64 k,.bool b,.int .i64 n,.string t,.string x,.slice p len cap],.int .i64 d] w fun e w'=>e=.returned (.bool (zb8 k b n t x len r0))∧Below w.heap.size w w':=by
 have S:=zai (k:=k) (b:=b) (n:=n) (t:=t) (x:=x) (p:=p) (len:=len) (cap:=cap) w rfl
 have b0:=zas w (.cells #[.int .i64 k,.bool b,.int .i64 n,.string t,.string x,.slice p len cap] 60)
 have f0:=S.c0
 have f1:=S.c1
 have f2:=S.c2
 have f3:=S.c3
 have f4:=S.c4
 have f5:=S.c5
 have e:zb8 k b n t x len r0=false:=by
  unfold zb8
  rw [if_neg (by omega),if_neg (by omega),if_neg (by omega),if_neg (by omega),if_neg (by omega),if_neg (by omega),if_neg (by omega),if_neg (by omega),if_neg (by omega),if_neg (by omega)]
 rw [e]
 have e0:(k == 0)=false:=by simp;omega
 have e1:(k == 1)=false:=by simp;omega
 have e2:(k == 2)=false:=by simp;omega
 have e3:(k == 3)=false:=by simp;omega
 have e4:(k == 4)=false:=by simp;omega
 have e5:(k == 5)=false:=by simp;omega
 have e6:(k == 6)=false:=by simp;omega
 have e7:(k == 7)=false:=by simp;omega
 have e8:(k == 8)=false:=by simp;omega
 have e9:(k == 9)=false:=by simp;omega
 have e10:(k == 10)=false:=by simp;omega
 clear hk e
 go_enter Tryz.func127,Tryz.ntmps127
 go_wp2_with fail
 go_ret
 exact ⟨rfl,b0⟩
set_option maxRecDepth 20000 in
set_option maxHeartbeats 6400000 in
theorem refMay5 (b:Bool) (n:Int) (t x:ByteArray) (q:List Val) (p:Option Addr) (cap d:Nat) (w:World) (hd:(d:Int)≤60) (hf:Fine n t x q.length) (hl:Held w (.slice p q.length cap) q) (each:d+1≤60→∀ v∈q,zf4 v (d+1)):
 Calls Tryz.prog 127 #[.agg #[.int .i64 5,.bool b,.int .i64 n,.string t,.string x,.slice p q.length cap],.int .i64 d] w fun e w'=>e=.returned (.bool (zb8 5 b n t x q.length (decide (q.length≤4096) && decide (d+1≤60) && zed q (d+1))))∧Below w.heap.size w w':=by
 obtain ⟨r,hr⟩:∃ r,r=zb8 5 b n t x q.length (decide (q.length≤4096) && decide (d+1≤60) && zed q (d+1)):=⟨_,rfl⟩
 rw [← hr]
 have S:=zai (k:=5) (b:=b) (n:=n) (t:=t) (x:=x) (p:=p) (len:=q.length) (cap:=cap) w rfl
 have b0:=zas w (.cells #[.int .i64 5,.bool b,.int .i64 n,.string t,.string x,.slice p q.length cap] 60)
 obtain ⟨m,hm⟩:∃ m,m=q.length:=⟨_,rfl⟩
 have hr2:r=(decide (m≤4096) && decide (d+1≤60) && zed q (d+1) && (!b && !(n != 0) && !(!t.toList.isEmpty) && !(!x.toList.isEmpty))):=by
  rw [hr,hm,show zb8 5 b n t x q.length (decide (q.length≤4096) && decide (d+1≤60) && zed q (d+1))=(decide (q.length≤4096) && decide (d+1≤60) && zed q (d+1) && zb1 b n t x 0) from rfl,zc3]
  simp
 rw [← hm] at S b0 ⊢
 clear hr
 have f0:=S.c0
 have f1:=S.c1
 have f2:=S.c2
 have f3:=S.c3
 have f4:=S.c4
 have f5:=S.c5
 have HM:=Lib.hid hm
 by_cases hall:((!b && !(n != 0) && !(!t.toList.isEmpty) && !(!x.toList.isEmpty))=true∧m≤4096)∧d+1≤60
 ·obtain ⟨⟨h1,h2⟩,h3⟩:=hall
  rw [h1,decide_eq_true h2,decide_eq_true h3,Bool.true_and,Bool.true_and,Bool.and_true] at hr2
  simp only [Bool.and_eq_true,Bool.not_eq_true',Bool.not_not] at h1
  obtain ⟨⟨⟨rfl,hn0⟩,ht0⟩,hx0⟩:=h1
  have hd1:(d:Int)+1≤60:=by omega
  have HE:=Lib.hid (each h3)
  have HR:=Lib.hid hr2
  have HL:=Lib.hid hl
  have HS:=Lib.hid S
  have h2i:(m:Int)≤4096:=by omega
  clear each hr2 hl hm hf S
  go_enter Tryz.func127,Tryz.ntmps127
  go_wp2_with fail
  go_loopw [10] (fun i wr=>∃ j:Nat,j≤m∧i=.int .i64 j∧Below w.heap.size w wr∧Six wr w.heap.size 5 false n t x p m cap∧Hid (∀ (i:Nat) (h:i < q.length),i < j→mayP q[i] (d+1)=true)) (fun i _=>m - (intOf i).toNat)
  case atStart=>exact ⟨0,Nat.zero_le _,rfl,b0,HS.out,Lib.hid fun _ _ h=>absurd h (by omega)⟩
  case round=>
   clear f0 f1 f2 f3 f4 f5 b0
   obtain ⟨j,hj,rfl,hb,S,HA⟩:=hrel
   have f5:=S.c5
   by_cases hlt:(j:Int) < m
   ·have hj1:j < q.length:=by have:=HM.out;omega
    obtain ⟨g,off,rfl,hh⟩:∃ g off,p=some ⟨g,off,none⟩∧zb5 w g off q:=by
     have hq:=HL.out
     cases q with
     | nil=>simp at hj1
     | cons v r=>exact hq.form
    obtain ⟨k1,b1,n1,t1,x1,q1,p1,cp1,o1⟩:=((zb5.at_ q off hh j hj1).below _ hb).opens
    have hc:=HE.out q[j] (List.getElem_mem hj1) wr k1 b1 n1 t1 x1 q1 p1 cp1 o1.e o1.hf o1.hl
    obtain ⟨c,hcc⟩:∃ c,c=mayP q[j] (d+1):=⟨_,rfl⟩
    rw [← hcc] at hc
    have hc':Calls Tryz.prog 127 #[.agg #[.int .i64 k1,.bool b1,.int .i64 n1,.string t1,.string x1,.slice p1 q1.length cp1],.int .i64 ((d:Int)+1)] wr fun e w'=>e=.returned (.bool c)∧Below wr.heap.size wr w':=hc
    have HC:=Lib.hid hcc
    have HC2:=Lib.hid hc'
    clear hc hc' hcc
    have O1:=Lib.hid o1
    clear o1 hh
    cases c with
    | true=>
      go_wp2_with (first
       |((with_reducible refine zby (.tmp 158) g (off+j*6) k1 b1 n1 t1 x1 _ O1.out.c0 O1.out.c1 O1.out.c2 O1.out.c3 O1.out.c4 O1.out.c5 ?_ ?_ ?_ ?_);rfl;rfl;rfl)
       |(go_at_call 127;(with_reducible refine HC2.out.mono ?_);rintro e w3 ⟨rfl,hb3⟩;have b3:=zab hb hb3 hb.size;have S3:=S.below hb3;clear hb3))
      go_roundw
      case rel=>
       refine ⟨j+1,by omega,by go_num,b3,S3,Lib.hid fun i hi hlt'=>?_⟩
       by_cases e:i=j
       ·subst e;exact HC.out.symm
       ·exact HA.out i hi (by omega)
      case measure=>simp [intOf];omega
    | false=>
      go_wp2_with (first
       |((with_reducible refine zby (.tmp 158) g (off+j*6) k1 b1 n1 t1 x1 _ O1.out.c0 O1.out.c1 O1.out.c2 O1.out.c3 O1.out.c4 O1.out.c5 ?_ ?_ ?_ ?_);rfl;rfl;rfl)
       |(go_at_call 127;(with_reducible refine HC2.out.mono ?_);rintro e w3 ⟨rfl,hb3⟩;have b3:=zab hb hb3 hb.size;clear hb3))
      go_ret
      exact ⟨by rw [HR.out,zg0 q (d+1) j hj1 HC.out.symm];rfl,b3⟩
   ·go_wp2_with fail
    go_ret
    exact ⟨by rw [HR.out,zhm q (d+1) fun i h=>HA.out i h (by have:=HM.out;omega)];rfl,hb⟩
 ·have hr3:r=false:=by
   rw [hr2,Bool.eq_false_iff]
   intro h
   simp only [Bool.and_eq_true,decide_eq_true_eq] at h hall
   exact hall ⟨⟨⟨⟨⟨h.2.1.1.1,h.2.1.1.2⟩,h.2.1.2⟩,h.2.2⟩,h.1.1.1⟩,h.1.1.2⟩
  subst hr3
  have HALL:=Lib.hid hall
  clear hr2 hall each hl hf hm
  obtain ⟨w1,hw1⟩:∃ w1,w1=w.alloc (.cells #[.int .i64 5,.bool b,.int .i64 n,.string t,.string x,.slice p m cap] 60):=⟨_,rfl⟩
  rw [← hw1] at S b0
  have HW:=Lib.hid hw1
  clear hw1
  go_enter Tryz.func127,Tryz.ntmps127
  go_upto_region 9 with fail
  rw [← HW.out]
  clear f0 f1 f2 f3 f4 f5
  have f5:=S.c5
  have HA:=HALL.out
  generalize (n != 0)=nb at HA ⊢
  generalize (!t.toList.isEmpty)=tb at HA ⊢
  generalize (!x.toList.isEmpty)=xb at HA ⊢
  have HA3:=Lib.hid HA
  clear HA HALL
  go_wp2_with fail
  all_goals
   first
   |(go_ret
     exact ⟨rfl,b0⟩)
   |(exfalso
     have:=HA3.out
     simp_all
     omega)
end Go.Proofs.YtcfmenkigolnoaaGreatDoor

/- DMf -/
namespace Go.Proofs.YtcfmenkigolnoaaGreatDoor
open Go.RowKit
theorem zqf (v:Val) (k:Int) (b:Bool) (n:Int) (t x:ByteArray) (q:List Val) (ev:v=.mk k b n t x q) (d:Nat) (hd:d≤60) (each:d+1≤60→∀ u∈q,zf4 u (d+1)):zf4 v d:=by
 subst ev
 intro W k1 b1 n1 t1 x1 q1 p cap e hf hl
 cases e
 rw [show mayP (.mk k b n t x q) d=zb8 k b n t x q.length (decide (q.length≤4096) && decide (d+1≤60) && zed q (d+1)) by conv=>lhs;unfold mayP]
 have hd':(d:Int)≤60:=by omega
 by_cases h0:k=0
 ·subst h0;exact refMay0 b n t x p q.length cap d _ W hd' hf.ht hf.hx
 by_cases h1:k=1
 ·subst h1;exact refMay1 b n t x p q.length cap d _ W hd' hf.ht hf.hx
 by_cases h2:k=2
 ·subst h2;exact refMay2 b n t x p q.length cap d _ W hd' hf.ht hf.hx
 by_cases h3:k=3
 ·subst h3;exact refMay3 b n t x p q.length cap d _ W hd' hf.ht hf.hx
 by_cases h4:k=4
 ·subst h4;exact refMay4 b n t x p q.length cap d _ W hd' hf.ht hf.hx
 by_cases h5:k=5
 ·subst h5;exact refMay5 b n t x q p cap d W hd' hf hl each
 by_cases h6:k=6
 ·subst h6;exact refMay6 b n t x p q.length cap d _ W hd' hf.ht hf.hx
 by_cases h7:k=7
 ·subst h7;exact refMay7 b n t x p q.length cap d _ W hd' hf.ht hf.hx
 by_cases h8:k=8
 ·subst h8;exact refMay8 b n t x p q.length cap d _ W hd' hf.ht hf.hx
 by_cases h9:k=9
 ·subst h9;exact refMay9 b n t x p q.length cap d _ W hd' hf.ht hf.hx
 by_cases h10:k=10
 ·subst h10;exact zv1 b n t x p q.length cap d _ W hd' hf.ht hf.hx
 exact refMayX k b n t x p q.length cap d _ W hd' (by omega)
mutual
theorem zm4:(v:Val)→(d:Nat)→d≤60→zf4 v d
 | .mk k b n t x q,d,hd=>zqf _ k b n t x q rfl d hd (fun h=>zje q (d+1) h)
theorem zje:(q:List Val)→(d:Nat)→d≤60→∀ u∈q,zf4 u d
 | [],_,_,_,h=>absurd h (by simp)
 | v::r,d,hd,u,h=>by
   rcases List.mem_cons.1 h with h | h
   ·rw [h];exact zm4 v d hd
   ·exact zje r d hd u h
end
set_option maxHeartbeats 1600000 in
theorem zm5 (k:Int) (b:Bool) (n:Int) (t x:ByteArray) (q:List Val) (p:Option Addr) (cap:Nat) (w:World) (hf:Fine n t x q.length) (hl:Held w (.slice p q.length cap) q):
 Calls Tryz.prog 108 #[.agg #[.int .i64 k,.bool b,.int .i64 n,.string t,.string x,.slice p q.length cap]] w fun e w'=>e=.returned (.bool (mayP (.mk k b n t x q) 0))∧Below w.heap.size w w':=by
 obtain ⟨w1,hw1⟩:∃ w1,w1=w.alloc (.cells #[.int .i64 k,.bool b,.int .i64 n,.string t,.string x,.slice p q.length cap] 60):=⟨_,rfl⟩
 have S:Six w1 w.heap.size k b n t x p q.length cap:=by rw [hw1];exact zai _ rfl
 have b0:Below w.heap.size w w1:=by rw [hw1];exact zas _ _
 have hc:=zm4 (.mk k b n t x q) 0 (by omega) w1 k b n t x q p cap rfl hf (Held.below q hl b0)
 have hc':Calls Tryz.prog 127 #[.agg #[.int .i64 k,.bool b,.int .i64 n,.string t,.string x,.slice p q.length cap],.int .i64 0] w1 fun e w'=>e=.returned (.bool (mayP (.mk k b n t x q) 0))∧Below w1.heap.size w1 w':=hc
 have HW:=Lib.hid hw1
 clear hw1 hl hf hc
 generalize mayP (.mk k b n t x q) 0=r at hc' ⊢
 go_enter Tryz.func108,Tryz.ntmps108
 go_wp2_with (first
  |(rw [← HW.out];(with_reducible refine zaj (.tmp 1) w.heap.size S ?_ ?_ ?_ ?_);rfl;rfl;rfl)
  |(go_at_call 127;(with_reducible refine hc'.mono ?_);rintro e w3 ⟨rfl,hb3⟩;replace b0:=zab b0 hb3 b0.size))
 go_ret
 exact ⟨rfl,b0⟩
end Go.Proofs.YtcfmenkigolnoaaGreatDoor

/- GRW -/
namespace Go.Proofs.YtcfmenkigolnoaaGreatDoor
open Go.RowKit
theorem zic (s:ByteArray) (w:World) (hs:s.size≤2097152):Calls Tryz.prog 42 #[.string s] w fun e w'=>e=.returned (.bool (zci s))∧w=w':=by
 have hmax:s.size≤maxLen:=by unfold maxLen;omega
 by_cases h0:s.size=0
 ·have e:zci s=false:=by simp [zci,h0]
  rw [e]
  have h1:decide ((1:Int)≤s.size)=false:=decide_eq_false (by omega)
  clear e h0
  go_enter Tryz.func42,Tryz.ntmps42
  go_wp2_with fail
  go_ret
  exact ⟨rfl,rfl⟩
 ·have h1:decide ((1:Int)≤s.size)=true:=decide_eq_true (by omega)
  by_cases h2:s.size≤1048576
  ·have e:zci s=true:=by simp [zci,h0,h2]
   have h3:decide ((s.size:Int)≤1048576)=true:=decide_eq_true (by omega)
   rw [e]
   clear e h0
   go_enter Tryz.func42,Tryz.ntmps42
   go_wp2_with fail
   go_ret
   exact ⟨rfl,rfl⟩
  ·have e:zci s=false:=by simp [zci,h2]
   have h3:decide ((s.size:Int)≤1048576)=false:=decide_eq_false (by omega)
   rw [e]
   clear e h0
   go_enter Tryz.func42,Tryz.ntmps42
   go_wp2_with fail
   go_ret
   exact ⟨rfl,rfl⟩
def IdxPost (W:World) (q:Bool) (e:Ending) (w':World):Prop:=∃ r:Int,e=.returned (.int .i64 r)∧(q=true→0≤r)∧(q=false→r < 0)∧W=w'
set_option maxHeartbeats 1600000 in
set_option maxRecDepth 20000 in
theorem zqg (V:Value) (ts:List ByteArray) (t:ByteArray) (W:World) (h:zcu W V ts) (hn:ts.length≤2097152):Calls Tryz.prog 55 #[V,.string t] W (IdxPost W (memB t ts)):=by
 obtain ⟨p,cap,rfl,hc⟩:=h
 obtain ⟨n,hl⟩:∃ n,n=ts.length:=⟨_,rfl⟩
 obtain ⟨r,hr⟩:∃ r,r=memB t ts:=⟨_,rfl⟩
 rw [← hr,← hl]
 rw [← hl] at hn
 have HC:=Lib.hid hc
 have HL:=Lib.hid hl
 have HR:=Lib.hid hr
 clear hc hl hr
 go_enter Tryz.func55,Tryz.ntmps55
 go_wp2_with fail
 go_loopg [5] n (fun gg s5 wr=>∃ j:Nat,j+gg=n∧s5=.int .i64 j∧Hid (∀ i (h:i < ts.length),i < j→ts[i]≠t)∧wr=W)
 case atStart=>exact ⟨0,by omega,rfl,Lib.hid (fun i _ h=>absurd h (by omega)),rfl⟩
 case round=>
  obtain ⟨j,hjg,rfl,HA,rfl⟩:=hrel
  by_cases hj:(j:Int) < n
  ·have hj1:j < ts.length:=by have:=HL.out;omega
   obtain ⟨g,off,rfl,hcj⟩:=HC.out (by intro q;rw [q] at hj1;simp at hj1)
   obtain ⟨y,hy⟩:∃ y,y=ts[j]:=⟨_,rfl⟩
   have cj:wr.cell? ⟨g,off+j,none⟩=some (.string y):=by
    rw [hcj j hj1,hy]
    simp [hj1]
   have HY:=Lib.hid hy
   clear hcj hy
   by_cases q:y=t
   ·subst q
    have HR2:Hid (r=true):=Lib.hid (by rw [HR.out,zef,HY.out];exact List.getElem_mem hj1)
    go_wp2_with fail
    go_ret
    exact ⟨j,rfl,fun _=>by omega,fun h=>by rw [HR2.out] at h;simp at h,rfl⟩
   ·have q2:(y.toList == t.toList)=false:=zn5 q
    have HA2:Hid (∀ i (h:i < ts.length),i < j+1→ts[i]≠t):=Lib.hid fun i h1 h2=>by
     by_cases e:i=j
     ·subst e
      rw [← HY.out]
      exact q
     ·exact HA.out i h1 (by omega)
    clear q
    go_wp2_with fail
    go_roundg (gk - 1)
    case measure=>omega
    case rel=>exact ⟨j+1,by omega,by go_num,HA2,rfl⟩
  ·have HR2:Hid (r=false):=Lib.hid (by
    rw [HR.out]
    refine zhz fun h=>?_
    obtain ⟨i,hi,e⟩:=List.getElem_of_mem h
    exact HA.out i hi (by have:=HL.out;omega) e)
   go_wp2_with fail
   go_ret
   exact ⟨-1,rfl,fun h=>by rw [HR2.out] at h;simp at h,fun _=>by decide,rfl⟩
theorem zgg (ls:List ByteArray) (i:Nat) (hi:i < ls.length):((ls.take (i+1)).all zci && decide ((ls.take (i+1)).map bl).Nodup)=(((ls.take i).all zci && decide ((ls.take i).map bl).Nodup) && (zci ls[i] && !memB ls[i] (ls.take i))):=by
 rw [List.take_succ_eq_append_getElem hi,List.all_append,List.map_append]
 rw [Bool.eq_iff_iff]
 simp only [Bool.and_eq_true,decide_eq_true_eq,List.nodup_append,List.all_cons,List.all_nil,List.map_cons,List.map_nil,List.mem_singleton,Bool.not_eq_true',and_true]
 constructor
 ·rintro ⟨⟨h1,h2⟩,h3,_,h5⟩
  refine ⟨⟨h1,h3⟩,h2,zhz fun h=>?_⟩
  exact h5 _ (List.mem_map.2 ⟨_,h,rfl⟩) _ rfl rfl
 ·rintro ⟨⟨h1,h3⟩,h2,h4⟩
  refine ⟨⟨h1,h2⟩,h3,by simp,fun a ha b hb e=>?_⟩
  subst hb e
  obtain ⟨t,ht,e2⟩:=List.mem_map.1 ha
  have:=(zef ls[i] (ls.take i)).2 (by rw [← zoy e2];exact ht)
  rw [h4] at this
  simp at this
def zd8 (ls:List ByteArray):Bool:=ls.all zci && decide (ls.map bl).Nodup
theorem zid {ls:List ByteArray} {i:Nat} (hi:i < ls.length) (h:(zci ls[i] && !memB ls[i] (ls.take i))=false):zcv ls=false:=by
 have h1:zd8 (ls.take (i+1))=false:=by
  unfold zd8
  rw [zgg ls i hi,h,Bool.and_false]
 rw [Bool.eq_false_iff] at h1 ⊢
 intro q
 refine h1 ?_
 unfold zcv at q
 unfold zd8
 simp only [Bool.and_eq_true,decide_eq_true_eq,List.all_eq_true] at q ⊢
 refine ⟨fun x hx=>q.1.2 x (List.mem_of_mem_take hx),?_⟩
 rw [List.map_take]
 exact q.2.sublist (List.take_sublist _ _)
theorem zjf {ls:List ByteArray} (h:zd8 ls=true):zcv ls=decide (ls.length≤65536):=by
 unfold zd8 at h
 unfold zcv
 rw [Bool.and_assoc,h,Bool.and_true]
def capK (v:Value):Prop:=∀ p n c,v=.slice p n c→n≤c
set_option maxHeartbeats 3200000 in
set_option maxRecDepth 20000 in
theorem zof (V:Value) (ls:List ByteArray) (W:World) (h:zcu W V ls) (hcap:capK V) (ht:∀ t∈ls,t.size≤2097152) (hn:ls.length≤2097152):Calls Tryz.prog 40 #[V] W fun e w'=>e=.returned (.bool (zcv ls))∧Below W.heap.size W w':=by
 obtain ⟨p,cap,rfl,hc⟩:=id h
 have hcp:=hcap p _ cap rfl
 obtain ⟨n,hl⟩:∃ n,n=ls.length:=⟨_,rfl⟩
 obtain ⟨r,hr⟩:∃ r,r=zcv ls:=⟨_,rfl⟩
 rw [← hr,← hl]
 rw [← hl] at hn hcp
 have HS:=Lib.hid h
 have HL:=Lib.hid hl
 have HR:=Lib.hid hr
 have HT:=Lib.hid ht
 clear hc hl hr h ht hcap
 go_enter Tryz.func40,Tryz.ntmps40
 go_wp2_with fail
 go_loopg [3] n (fun gg s3 wr=>∃ j:Nat,j+gg=n∧s3=.int .i64 j∧Hid (zd8 (ls.take j)=true)∧Hid (Below W.heap.size W wr))
 case atStart=>exact ⟨0,by omega,rfl,Lib.hid (by simp [zd8]),Lib.hid (Below.refl _ _)⟩
 case round=>
  obtain ⟨j,hjg,rfl,HA,HB⟩:=hrel
  by_cases hj:(j:Int) < n
  ·have hj1:j < ls.length:=by have:=HL.out;omega
   obtain ⟨pp,cc,e0,hcv⟩:=HS.out.below HB.out
   injection e0 with e1 e2 e3
   subst e1
   obtain ⟨g,off,rfl,hcj⟩:=hcv (by intro q;rw [q] at hj1;simp at hj1)
   obtain ⟨t,hte⟩:∃ t,t=ls[j]:=⟨_,rfl⟩
   have cj:wr.cell? ⟨g,off+j,none⟩=some (.string t):=by
    rw [hcj j hj1,hte]
    simp [hj1]
   have hts:t.size≤2097152:=HT.out t (by rw [hte];exact List.getElem_mem hj1)
   have hpre:zcu wr (.slice (some ⟨g,off,none⟩) j cap) (ls.take j):=⟨some ⟨g,off,none⟩,cap,by rw [List.length_take];congr 1;omega,fun _=>⟨g,off,rfl,fun i hi=>by
    rw [List.length_take] at hi
    rw [hcj i (by omega)]
    simp [List.getD_eq_getElem?_getD,show i < j by omega]⟩⟩
   have hjc:j≤cap:=by omega
   have hjc2:(j:Int)≤cap:=by omega
   have HW:=Lib.hid (fun W'=>zic t W' hts)
   have HI:=Lib.hid (fun W' (b:Below wr.heap.size wr W')=>zqg _ (ls.take j) t W' (hpre.below b) (by rw [List.length_take];omega))
   obtain ⟨r1,hr1⟩:∃ r1,r1=zci t:=⟨_,rfl⟩
   obtain ⟨r2,hr2⟩:∃ r2,r2=memB t (ls.take j):=⟨_,rfl⟩
   rw [← hr1] at HW
   rw [← hr2] at HI
   have HZ:Hid ((r1 && !r2)=false→r=false):=Lib.hid fun h=>by
    rw [HR.out]
    refine zid hj1 ?_
    rw [← hte,← hr1,← hr2]
    exact h
   have HY:Hid ((r1 && !r2)=true→zd8 (ls.take (j+1))=true):=Lib.hid fun h=>by
    have h2:=HA.out
    unfold zd8 at h2 ⊢
    rw [zgg ls j hj1,h2,← hte,← hr1,← hr2,h]
    rfl
   clear hcj hcv e2 e3 hte hr1 hr2 hpre HA
   have hB:=HB.out
   have ck:=Below.refl wr.heap.size wr
   clear HB
   cases r1 with
   | false=>
     obtain rfl:r=false:=HZ.out rfl
     go_upto_region 4 with fail
     refine wp_region_held_drew (S:=fun W'=>W'.cell? ⟨g,off+j,none⟩=some (.string t)) (by kernel_rfl) cj (fun _=>?_)
     replace cj:wr.drew.cell? ⟨g,off+j,none⟩=_:=cj
     replace hB:=hB.drew
     replace ck:=ck.drew
     generalize wr.drew=wD at*
     refine tg (i:=0) (.slice (some ⟨g,off,none⟩) n cap) rfl (cj) ?_
     refine tg (i:=1) (.int .i64 (j:Int)) rfl (cj) ?_
     refine tg (i:=2) (.pointer (some ⟨g,off+j,none⟩)) rfl (cj) ?_
     refine tk (i:=3) (v:=.string t) rfl (Or.inl ⟨by rfl,fun W' h=>by have c0:=h;go_simp⟩) (cj) ?_
     refine tr 4 rfl (fun K hK=>?_)
     rw [if_pos (by rfl)]
     go_simp
     refine (HW.out _).mono ?_
     rintro e0 w3 ⟨rfl,rfl⟩
     refine hK.out _ _ (cj) (fun _=>?_)
     clear hK K
     try simp only [putS]
     refine tg (i:=5) (.bool true) rfl (cj) ?_
     refine tg (i:=6) (.bool true) rfl (cj) ?_
     refine tn (i:=7) rfl (cj) ?_
     refine tn (i:=8) rfl (cj) ?_
     refine tn (i:=10) rfl (cj) ?_
     refine tn (i:=11) rfl (cj) ?_
     refine tn (i:=9) rfl (cj) ?_
     refine tn (i:=12) rfl (cj) ?_
     refine tn (i:=13) rfl (cj) ?_
     refine tn (i:=14) rfl (cj) ?_
     refine tn (i:=15) rfl (cj) ?_
     refine tg (i:=16) (.bool true) rfl (cj) ?_
     refine wpAnyH_done (by kernel_rfl) ?_ _
     go_wp2_with fail
     go_ret
     exact ⟨rfl,hB⟩
   | true=>
     cases r2 with
     | true=>
       obtain rfl:r=false:=HZ.out rfl
       go_upto_region 4 with fail
       refine wp_region_held_drew (S:=fun W'=>W'.cell? ⟨g,off+j,none⟩=some (.string t)) (by kernel_rfl) cj (fun _=>?_)
       replace cj:wr.drew.cell? ⟨g,off+j,none⟩=_:=cj
       replace hB:=hB.drew
       replace ck:=ck.drew
       generalize wr.drew=wD at*
       refine tg (i:=0) (.slice (some ⟨g,off,none⟩) n cap) rfl (cj) ?_
       refine tg (i:=1) (.int .i64 (j:Int)) rfl (cj) ?_
       refine tg (i:=2) (.pointer (some ⟨g,off+j,none⟩)) rfl (cj) ?_
       refine tk (i:=3) (v:=.string t) rfl (Or.inl ⟨by rfl,fun W' h=>by have c0:=h;go_simp⟩) (cj) ?_
       refine tr 4 rfl (fun K hK=>?_)
       rw [if_pos (by rfl)]
       go_simp
       refine (HW.out _).mono ?_
       rintro e0 w3 ⟨rfl,rfl⟩
       refine hK.out _ _ (cj) (fun _=>?_)
       clear hK K
       try simp only [putS]
       refine tg (i:=5) (.bool false) rfl (cj) ?_
       refine tg (i:=6) (.bool false) rfl (cj) ?_
       refine tg (i:=7) (.slice (some ⟨g,off,none⟩) n cap) rfl (cj) ?_
       refine tg (i:=8) (.int .i64 (j:Int)) rfl (cj) ?_
       refine tg (i:=10) (.slice (some ⟨g,off,none⟩) n cap) rfl (cj) ?_
       refine tg (i:=11) (.int .i64 (j:Int)) rfl (cj) ?_
       refine tg (i:=9) (.slice (some ⟨g,off,none⟩) j cap) rfl (cj) ?_
       refine tg (i:=12) (.pointer (some ⟨g,off+j,none⟩)) rfl (cj) ?_
       refine tk (i:=13) (v:=.string t) rfl (Or.inl ⟨by rfl,fun W' h=>by have c0:=h;go_simp⟩) (cj) ?_
       refine tr 14 rfl (fun K hK=>?_)
       rw [if_pos (by rfl)]
       go_simp
       refine (HI.out _ ck).mono ?_
       rintro e0 w4 ⟨ri,rfl,hi1,hi2,rfl⟩
       have hri:=hi1 rfl
       clear hi1 hi2
       refine hK.out _ _ (cj) (fun _=>?_)
       clear hK K
       try simp only [putS]
       refine tg (i:=15) (.bool true) rfl (cj) ?_
       refine tg (i:=16) (.bool true) rfl (cj) ?_
       refine wpAnyH_done (by kernel_rfl) ?_ _
       go_wp2_with fail
       go_ret
       exact ⟨rfl,hB⟩
     | false=>
       go_upto_region 4 with fail
       refine wp_region_held_drew (S:=fun W'=>W'.cell? ⟨g,off+j,none⟩=some (.string t)) (by kernel_rfl) cj (fun _=>?_)
       replace cj:wr.drew.cell? ⟨g,off+j,none⟩=_:=cj
       replace hB:=hB.drew
       replace ck:=ck.drew
       generalize wr.drew=wD at*
       refine tg (i:=0) (.slice (some ⟨g,off,none⟩) n cap) rfl (cj) ?_
       refine tg (i:=1) (.int .i64 (j:Int)) rfl (cj) ?_
       refine tg (i:=2) (.pointer (some ⟨g,off+j,none⟩)) rfl (cj) ?_
       refine tk (i:=3) (v:=.string t) rfl (Or.inl ⟨by rfl,fun W' h=>by have c0:=h;go_simp⟩) (cj) ?_
       refine tr 4 rfl (fun K hK=>?_)
       rw [if_pos (by rfl)]
       go_simp
       refine (HW.out _).mono ?_
       rintro e0 w3 ⟨rfl,rfl⟩
       refine hK.out _ _ (cj) (fun _=>?_)
       clear hK K
       try simp only [putS]
       refine tg (i:=5) (.bool false) rfl (cj) ?_
       refine tg (i:=6) (.bool false) rfl (cj) ?_
       refine tg (i:=7) (.slice (some ⟨g,off,none⟩) n cap) rfl (cj) ?_
       refine tg (i:=8) (.int .i64 (j:Int)) rfl (cj) ?_
       refine tg (i:=10) (.slice (some ⟨g,off,none⟩) n cap) rfl (cj) ?_
       refine tg (i:=11) (.int .i64 (j:Int)) rfl (cj) ?_
       refine tg (i:=9) (.slice (some ⟨g,off,none⟩) j cap) rfl (cj) ?_
       refine tg (i:=12) (.pointer (some ⟨g,off+j,none⟩)) rfl (cj) ?_
       refine tk (i:=13) (v:=.string t) rfl (Or.inl ⟨by rfl,fun W' h=>by have c0:=h;go_simp⟩) (cj) ?_
       refine tr 14 rfl (fun K hK=>?_)
       rw [if_pos (by rfl)]
       go_simp
       refine (HI.out _ ck).mono ?_
       rintro e0 w4 ⟨ri,rfl,hi1,hi2,rfl⟩
       have hri:=hi2 rfl
       have hrd:decide (0≤ri)=false:=decide_eq_false (by omega)
       clear hi1 hi2
       refine hK.out _ _ (cj) (fun _=>?_)
       clear hK K
       try simp only [putS]
       refine tg (i:=15) (.bool false) rfl (cj) ?_
       refine tg (i:=16) (.bool false) rfl (cj) ?_
       refine wpAnyH_done (by kernel_rfl) ?_ _
       go_wp2_with fail
       go_roundg (gk - 1)
       case measure=>omega
       case rel=>exact ⟨j+1,by omega,by go_num,Lib.hid (HY.out rfl),Lib.hid hB⟩
  ·have HZ:Hid (r=decide (n≤65536)):=Lib.hid (by
    have e:ls.take j=ls:=by rw [List.take_of_length_le];have:=HL.out;omega
    have h:=HA.out
    rw [e] at h
    rw [HR.out,zjf h,HL.out])
   go_wp2_with fail
   go_ret
   refine ⟨?_,HB.out⟩
   rw [HZ.out]
   simp
   try omega
end Go.Proofs.YtcfmenkigolnoaaGreatDoor
