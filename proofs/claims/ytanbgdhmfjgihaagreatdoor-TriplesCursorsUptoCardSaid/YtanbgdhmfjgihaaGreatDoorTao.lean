/- Texts of one kind, one behind the other: each says ahead of itself what it shows. -/
import Derived.Test.YtanbgdhmfjgihaaGreatDoorTan
import Derived.Test.YtanbgdhmfjgihaaGreatDoorTah
import Derived.Deep.LoopGhost
import Derived.Test.YtanbgdhmfjgihaaGreatDoorTak
import Derived.Test.YtanbgdhmfjgihaaGreatDoorTai
namespace Go.Proofs.YtanbgdhmfjgihaaGreatDoor
open Go.RowKit
set_option maxHeartbeats 12800000
set_option maxRecDepth 20000
theorem fitsK8 (b:Bool) (n:Int) (t x:ByteArray) (len:Nat) (r:Bool):zbg 8 b n t x len r=(zb1 t && (!b && !(n != 0) && !(!x.toList.isEmpty) && !(decide (0 < len)))):=by
 rw [show zbg 8 b n t x len r=(zb1 t && zbm b n ⟨#[]⟩ x len) from rfl]
 rw [zcp]
 rw [zoo]
 simp
theorem refMay8 (b:Bool) (n:Int) (t x:ByteArray) (p:Option Addr) (len cap d:Nat) (r0:Bool) (w:World) (hd:(d:Int)≤60) (ht:t.size≤2097152) (hx:x.size≤2097152):
 Calls Tryz.prog 87 #[.agg #[.int .i64 8,.bool b,.int .i64 n,.string t,.string x,.slice p len cap],.int .i64 d] w fun e w'=>e=.returned (.bool (zbg 8 b n t x len r0))∧Below w.heap.size w w':=by
 have S:=zaf (k:=8) (b:=b) (n:=n) (t:=t) (x:=x) (p:=p) (len:=len) (cap:=cap) w rfl
 have b0:=za0 w (.cells #[.int .i64 8,.bool b,.int .i64 n,.string t,.string x,.slice p len cap] 39)
 have f0:=S.c0
 have f1:=S.c1
 have f2:=S.c2
 have f3:=S.c3
 have f4:=S.c4
 have f5:=S.c5
 rw [fitsK8]
 obtain ⟨r,hr⟩:∃ r,r=(zb1 t && (!b && !(n != 0) && !(!x.toList.isEmpty) && !(decide (0 < len)))):=⟨_,rfl⟩
 rw [← hr]
 have hC:=fun W=>zx5 t W (by unfold maxLen;omega)
 obtain ⟨w1,hw1⟩:∃ w1,w1=w.alloc (.cells #[.int .i64 8,.bool b,.int .i64 n,.string t,.string x,.slice p len cap] 39):=⟨_,rfl⟩
 rw [← hw1] at S b0
 have HW:=Lib.hid hw1
 have HR:=Lib.hid hr
 clear hw1 hr
 go_enter Tryz.func87,Tryz.ntmps87
 go_upto_region 9 with fail
 rw [← HW.out]
 clear f0 f1 f2 f3 f4 f5
 have f0:=S.c0
 have f2:=S.c2
 have f3:=S.c3
 have f4:=S.c4
 have HR2:=HR.out
 clear HR
 generalize (n != 0)=nb at HR2 ⊢
 generalize (!t.toList.isEmpty)=tb at HR2 ⊢
 generalize (!x.toList.isEmpty)=xb at HR2 ⊢
 generalize decide (0 < len)=lb at HR2 ⊢
 generalize zb1 t=C at HR2 hC ⊢
 have HR3:=Lib.hid HR2
 clear HR2 ht hx
 go_wp2_with (go_at_call 113;(with_reducible refine (hC _).mono ?_);rintro e w' ⟨rfl,rfl⟩)
 all_goals
  go_ret
  exact ⟨by rw [HR3.out];simp_all <;> (intros;omega),b0⟩
theorem fitsK9 (b:Bool) (n:Int) (t x:ByteArray) (len:Nat) (r:Bool):zbg 9 b n t x len r=(zcu t && (!b && !(n != 0) && !(!x.toList.isEmpty) && !(decide (0 < len)))):=by
 rw [show zbg 9 b n t x len r=(zcu t && zbm b n ⟨#[]⟩ x len) from rfl]
 rw [zcp]
 rw [zoo]
 simp
theorem refMay9 (b:Bool) (n:Int) (t x:ByteArray) (p:Option Addr) (len cap d:Nat) (r0:Bool) (w:World) (hd:(d:Int)≤60) (ht:t.size≤2097152) (hx:x.size≤2097152):
 Calls Tryz.prog 87 #[.agg #[.int .i64 9,.bool b,.int .i64 n,.string t,.string x,.slice p len cap],.int .i64 d] w fun e w'=>e=.returned (.bool (zbg 9 b n t x len r0))∧Below w.heap.size w w':=by
 have S:=zaf (k:=9) (b:=b) (n:=n) (t:=t) (x:=x) (p:=p) (len:=len) (cap:=cap) w rfl
 have b0:=za0 w (.cells #[.int .i64 9,.bool b,.int .i64 n,.string t,.string x,.slice p len cap] 39)
 have f0:=S.c0
 have f1:=S.c1
 have f2:=S.c2
 have f3:=S.c3
 have f4:=S.c4
 have f5:=S.c5
 rw [fitsK9]
 obtain ⟨r,hr⟩:∃ r,r=(zcu t && (!b && !(n != 0) && !(!x.toList.isEmpty) && !(decide (0 < len)))):=⟨_,rfl⟩
 rw [← hr]
 have hC:=fun W=>refName t W (by unfold maxLen;omega)
 obtain ⟨w1,hw1⟩:∃ w1,w1=w.alloc (.cells #[.int .i64 9,.bool b,.int .i64 n,.string t,.string x,.slice p len cap] 39):=⟨_,rfl⟩
 rw [← hw1] at S b0
 have HW:=Lib.hid hw1
 have HR:=Lib.hid hr
 clear hw1 hr
 go_enter Tryz.func87,Tryz.ntmps87
 go_upto_region 9 with fail
 rw [← HW.out]
 clear f0 f1 f2 f3 f4 f5
 have f0:=S.c0
 have f2:=S.c2
 have f3:=S.c3
 have f4:=S.c4
 have HR2:=HR.out
 clear HR
 generalize (n != 0)=nb at HR2 ⊢
 generalize (!t.toList.isEmpty)=tb at HR2 ⊢
 generalize (!x.toList.isEmpty)=xb at HR2 ⊢
 generalize decide (0 < len)=lb at HR2 ⊢
 generalize zcu t=C at HR2 hC ⊢
 have HR3:=Lib.hid HR2
 clear HR2 ht hx
 go_wp2_with (go_at_call 114;(with_reducible refine (hC _).mono ?_);rintro e w' ⟨rfl,rfl⟩)
 all_goals
  go_ret
  exact ⟨by rw [HR3.out];simp_all <;> (intros;omega),b0⟩
theorem fitsK10 (b:Bool) (n:Int) (t x:ByteArray) (len:Nat) (r:Bool):zbg 10 b n t x len r=(decide ((t.size:Int)≤1048576) && (zb1 x && (!b && !(n != 0) && !(decide (0 < len))))):=by
 rw [show zbg 10 b n t x len r=(decide (t.size≤1048576) && (zb1 x && zbm b n ⟨#[]⟩ ⟨#[]⟩ len)) from rfl]
 rw [zcp]
 rw [zoo,show decide (t.size≤1048576)=decide ((t.size:Int)≤1048576) from decide_eq_decide.2 (by omega)]
 simp
theorem zwq (b:Bool) (n:Int) (t x:ByteArray) (p:Option Addr) (len cap d:Nat) (r0:Bool) (w:World) (hd:(d:Int)≤60) (ht:t.size≤2097152) (hx:x.size≤2097152):
 Calls Tryz.prog 87 #[.agg #[.int .i64 10,.bool b,.int .i64 n,.string t,.string x,.slice p len cap],.int .i64 d] w fun e w'=>e=.returned (.bool (zbg 10 b n t x len r0))∧Below w.heap.size w w':=by
 have S:=zaf (k:=10) (b:=b) (n:=n) (t:=t) (x:=x) (p:=p) (len:=len) (cap:=cap) w rfl
 have b0:=za0 w (.cells #[.int .i64 10,.bool b,.int .i64 n,.string t,.string x,.slice p len cap] 39)
 have f0:=S.c0
 have f1:=S.c1
 have f2:=S.c2
 have f3:=S.c3
 have f4:=S.c4
 have f5:=S.c5
 rw [fitsK10]
 obtain ⟨r,hr⟩:∃ r,r=(decide ((t.size:Int)≤1048576) && (zb1 x && (!b && !(n != 0) && !(decide (0 < len))))):=⟨_,rfl⟩
 rw [← hr]
 have hC:=fun W=>zx5 x W (by unfold maxLen;omega)
 obtain ⟨w1,hw1⟩:∃ w1,w1=w.alloc (.cells #[.int .i64 10,.bool b,.int .i64 n,.string t,.string x,.slice p len cap] 39):=⟨_,rfl⟩
 rw [← hw1] at S b0
 have HW:=Lib.hid hw1
 have HR:=Lib.hid hr
 clear hw1 hr
 go_enter Tryz.func87,Tryz.ntmps87
 go_upto_region 9 with fail
 rw [← HW.out]
 clear f0 f1 f2 f3 f4 f5
 have f0:=S.c0
 have f2:=S.c2
 have f3:=S.c3
 have f4:=S.c4
 have HR2:=HR.out
 clear HR
 generalize (n != 0)=nb at HR2 ⊢
 generalize (!t.toList.isEmpty)=tb at HR2 ⊢
 generalize (!x.toList.isEmpty)=xb at HR2 ⊢
 generalize decide (0 < len)=lb at HR2 ⊢
 generalize zb1 x=C at HR2 hC ⊢
 have HR3:=Lib.hid HR2
 clear HR2 ht hx
 go_wp2_with (go_at_call 113;(with_reducible refine (hC _).mono ?_);rintro e w' ⟨rfl,rfl⟩)
 all_goals
  go_ret
  exact ⟨by rw [HR3.out];simp_all <;> (intros;omega),b0⟩
def zg9 (v:Val) (d:Nat):Prop:=∀ (W:World) (k:Int) (b:Bool) (n:Int) (t x:ByteArray) (q:List Val) (p:Option Addr) (cap:Nat),v=.mk k b n t x q→Fine n t x q.length→Held W (.slice p q.length cap) q→
 Calls Tryz.prog 87 #[.agg #[.int .i64 k,.bool b,.int .i64 n,.string t,.string x,.slice p q.length cap],.int .i64 d] W fun e w'=>e=.returned (.bool (mayP v d))∧Below W.heap.size W w'
theorem refMayX (k:Int) (b:Bool) (n:Int) (t x:ByteArray) (p:Option Addr) (len cap d:Nat) (r0:Bool) (w:World) (hd:(d:Int)≤60) (hk:k < 0∨10 < k):
 Calls Tryz.prog 87 #[.agg #[.int .i64 k,.bool b,.int .i64 n,.string t,.string x,.slice p len cap],.int .i64 d] w fun e w'=>e=.returned (.bool (zbg k b n t x len r0))∧Below w.heap.size w w':=by
 have S:=zaf (k:=k) (b:=b) (n:=n) (t:=t) (x:=x) (p:=p) (len:=len) (cap:=cap) w rfl
 have b0:=za0 w (.cells #[.int .i64 k,.bool b,.int .i64 n,.string t,.string x,.slice p len cap] 39)
 have f0:=S.c0
 have f1:=S.c1
 have f2:=S.c2
 have f3:=S.c3
 have f4:=S.c4
 have f5:=S.c5
 have e:zbg k b n t x len r0=false:=by
  unfold zbg
  rw [if_neg (by omega),if_neg (by omega),if_neg (by omega),if_neg (by omega),if_neg (by omega),if_neg (by omega),if_neg (by omega),if_neg (by omega),if_neg (by omega),if_neg (by omega)]
 rw [e]
 have e0:(k == 0)=false:=by simp;omega
 have e1:(k == 1)=false:=by simp;omega
 have e2:(k == 2)=false:=by simp;omega
 have e3:(k == 3)=false:=by simp;omega
 have e4:(k == 4)=false:=by simp;omega
 have e5:(k == 5)=false:=by simp;omega
 have e6:(k == 6)=false:=by simp;omega
 have e7:(k == 7)=false:=by simp;omega
 have e8:(k == 8)=false:=by simp;omega
 have e9:(k == 9)=false:=by simp;omega
 have e10:(k == 10)=false:=by simp;omega
 clear hk e
 go_enter Tryz.func87,Tryz.ntmps87
 go_wp2_with fail
 go_ret
 exact ⟨rfl,b0⟩
theorem refMay5 (b:Bool) (n:Int) (t x:ByteArray) (q:List Val) (p:Option Addr) (cap d:Nat) (w:World) (hd:(d:Int)≤60) (hf:Fine n t x q.length) (hl:Held w (.slice p q.length cap) q) (each:d+1≤60→∀ v∈q,zg9 v (d+1)):
 Calls Tryz.prog 87 #[.agg #[.int .i64 5,.bool b,.int .i64 n,.string t,.string x,.slice p q.length cap],.int .i64 d] w fun e w'=>e=.returned (.bool (zbg 5 b n t x q.length (decide (q.length≤4096) && decide (d+1≤60) && zdv q (d+1))))∧Below w.heap.size w w':=by
 obtain ⟨r,hr⟩:∃ r,r=zbg 5 b n t x q.length (decide (q.length≤4096) && decide (d+1≤60) && zdv q (d+1)):=⟨_,rfl⟩
 rw [← hr]
 have S:=zaf (k:=5) (b:=b) (n:=n) (t:=t) (x:=x) (p:=p) (len:=q.length) (cap:=cap) w rfl
 have b0:=za0 w (.cells #[.int .i64 5,.bool b,.int .i64 n,.string t,.string x,.slice p q.length cap] 39)
 obtain ⟨m,hm⟩:∃ m,m=q.length:=⟨_,rfl⟩
 have hr2:r=(decide (m≤4096) && decide (d+1≤60) && zdv q (d+1) && (!b && !(n != 0) && !(!t.toList.isEmpty) && !(!x.toList.isEmpty))):=by
  rw [hr,hm,show zbg 5 b n t x q.length (decide (q.length≤4096) && decide (d+1≤60) && zdv q (d+1))=(decide (q.length≤4096) && decide (d+1≤60) && zdv q (d+1) && zbm b n t x 0) from rfl,zcp]
  simp
 rw [← hm] at S b0 ⊢
 clear hr
 have f0:=S.c0
 have f1:=S.c1
 have f2:=S.c2
 have f3:=S.c3
 have f4:=S.c4
 have f5:=S.c5
 have HM:=Lib.hid hm
 by_cases hall:((!b && !(n != 0) && !(!t.toList.isEmpty) && !(!x.toList.isEmpty))=true∧m≤4096)∧d+1≤60
 ·obtain ⟨⟨h1,h2⟩,h3⟩:=hall
  rw [h1,decide_eq_true h2,decide_eq_true h3,Bool.true_and,Bool.true_and,Bool.and_true] at hr2
  simp only [Bool.and_eq_true,Bool.not_eq_true',Bool.not_not] at h1
  obtain ⟨⟨⟨rfl,hn0⟩,ht0⟩,hx0⟩:=h1
  have hd1:(d:Int)+1≤60:=by omega
  have HE:=Lib.hid (each h3)
  have HR:=Lib.hid hr2
  have HL:=Lib.hid hl
  have HS:=Lib.hid S
  have h2i:(m:Int)≤4096:=by omega
  clear each hr2 hl hm hf S
  go_enter Tryz.func87,Tryz.ntmps87
  go_wp2_with fail
  go_loopw [10] (fun i wr=>∃ j:Nat,j≤m∧i=.int .i64 j∧Below w.heap.size w wr∧Six wr w.heap.size 5 false n t x p m cap∧Hid (∀ (i:Nat) (h:i < q.length),i < j→mayP q[i] (d+1)=true)) (fun i _=>m - (intOf i).toNat)
  case atStart=>exact ⟨0,Nat.zero_le _,rfl,b0,HS.out,Lib.hid fun _ _ h=>absurd h (by omega)⟩
  case round=>
   clear f0 f1 f2 f3 f4 f5 b0
   obtain ⟨j,hj,rfl,hb,S,HA⟩:=hrel
   have f5:=S.c5
   by_cases hlt:(j:Int) < m
   ·have hj1:j < q.length:=by have:=HM.out;omega
    obtain ⟨g,off,rfl,hh⟩:∃ g off,p=some ⟨g,off,none⟩∧zar w g off q:=by
     have hq:=HL.out
     cases q with
     | nil=>simp at hj1
     | cons v r=>exact hq.form
    obtain ⟨k1,b1,n1,t1,x1,q1,p1,cp1,o1⟩:=((zar.at_ q off hh j hj1).below _ hb).opens
    have hc:=HE.out q[j] (List.getElem_mem hj1) wr k1 b1 n1 t1 x1 q1 p1 cp1 o1.e o1.hf o1.hl
    obtain ⟨c,hcc⟩:∃ c,c=mayP q[j] (d+1):=⟨_,rfl⟩
    rw [← hcc] at hc
    have hc':Calls Tryz.prog 87 #[.agg #[.int .i64 k1,.bool b1,.int .i64 n1,.string t1,.string x1,.slice p1 q1.length cp1],.int .i64 ((d:Int)+1)] wr fun e w'=>e=.returned (.bool c)∧Below wr.heap.size wr w':=hc
    have HC:=Lib.hid hcc
    have HC2:=Lib.hid hc'
    clear hc hc' hcc
    have O1:=Lib.hid o1
    clear o1 hh
    cases c with
    | true=>
      go_wp2_with (first
       |((with_reducible refine zax (.tmp 158) g (off+j*6) k1 b1 n1 t1 x1 _ O1.out.c0 O1.out.c1 O1.out.c2 O1.out.c3 O1.out.c4 O1.out.c5 ?_ ?_ ?_ ?_);rfl;rfl;rfl)
       |(go_at_call 87;(with_reducible refine HC2.out.mono ?_);rintro e w3 ⟨rfl,hb3⟩;have b3:=zak hb hb3 hb.size;have S3:=S.below hb3;clear hb3))
      go_roundw
      case rel=>
       refine ⟨j+1,by omega,by go_num,b3,S3,Lib.hid fun i hi hlt'=>?_⟩
       by_cases e:i=j
       ·subst e;exact HC.out.symm
       ·exact HA.out i hi (by omega)
      case measure=>simp [intOf];omega
    | false=>
      go_wp2_with (first
       |((with_reducible refine zax (.tmp 158) g (off+j*6) k1 b1 n1 t1 x1 _ O1.out.c0 O1.out.c1 O1.out.c2 O1.out.c3 O1.out.c4 O1.out.c5 ?_ ?_ ?_ ?_);rfl;rfl;rfl)
       |(go_at_call 87;(with_reducible refine HC2.out.mono ?_);rintro e w3 ⟨rfl,hb3⟩;have b3:=zak hb hb3 hb.size;clear hb3))
      go_ret
      exact ⟨by rw [HR.out,zmq q (d+1) j hj1 HC.out.symm];rfl,b3⟩
   ·go_wp2_with fail
    go_ret
    exact ⟨by rw [HR.out,zkd q (d+1) fun i h=>HA.out i h (by have:=HM.out;omega)];rfl,hb⟩
 ·have hr3:r=false:=by
   rw [hr2,Bool.eq_false_iff]
   intro h
   simp only [Bool.and_eq_true,decide_eq_true_eq] at h hall
   exact hall ⟨⟨⟨⟨⟨h.2.1.1.1,h.2.1.1.2⟩,h.2.1.2⟩,h.2.2⟩,h.1.1.1⟩,h.1.1.2⟩
  subst hr3
  have HALL:=Lib.hid hall
  clear hr2 hall each hl hf hm
  obtain ⟨w1,hw1⟩:∃ w1,w1=w.alloc (.cells #[.int .i64 5,.bool b,.int .i64 n,.string t,.string x,.slice p m cap] 39):=⟨_,rfl⟩
  rw [← hw1] at S b0
  have HW:=Lib.hid hw1
  clear hw1
  go_enter Tryz.func87,Tryz.ntmps87
  go_upto_region 9 with fail
  rw [← HW.out]
  clear f0 f1 f2 f3 f4 f5
  have f5:=S.c5
  have HA:=HALL.out
  generalize (n != 0)=nb at HA ⊢
  generalize (!t.toList.isEmpty)=tb at HA ⊢
  generalize (!x.toList.isEmpty)=xb at HA ⊢
  have HA3:=Lib.hid HA
  clear HA HALL
  go_wp2_with fail
  all_goals
   first
   |(go_ret
     exact ⟨rfl,b0⟩)
   |(exfalso
     have:=HA3.out
     simp_all
     omega)
theorem zsu (v:Val) (k:Int) (b:Bool) (n:Int) (t x:ByteArray) (q:List Val) (ev:v=.mk k b n t x q) (d:Nat) (hd:d≤60) (each:d+1≤60→∀ u∈q,zg9 u (d+1)):zg9 v d:=by
 subst ev
 intro W k1 b1 n1 t1 x1 q1 p cap e hf hl
 cases e
 rw [show mayP (.mk k b n t x q) d=zbg k b n t x q.length (decide (q.length≤4096) && decide (d+1≤60) && zdv q (d+1)) by conv=>lhs;unfold mayP]
 have hd':(d:Int)≤60:=by omega
 by_cases h0:k=0
 ·subst h0;exact refMay0 b n t x p q.length cap d _ W hd' hf.ht hf.hx
 by_cases h1:k=1
 ·subst h1;exact refMay1 b n t x p q.length cap d _ W hd' hf.ht hf.hx
 by_cases h2:k=2
 ·subst h2;exact refMay2 b n t x p q.length cap d _ W hd' hf.ht hf.hx
 by_cases h3:k=3
 ·subst h3;exact refMay3 b n t x p q.length cap d _ W hd' hf.ht hf.hx
 by_cases h4:k=4
 ·subst h4;exact refMay4 b n t x p q.length cap d _ W hd' hf.ht hf.hx
 by_cases h5:k=5
 ·subst h5;exact refMay5 b n t x q p cap d W hd' hf hl each
 by_cases h6:k=6
 ·subst h6;exact refMay6 b n t x p q.length cap d _ W hd' hf.ht hf.hx
 by_cases h7:k=7
 ·subst h7;exact refMay7 b n t x p q.length cap d _ W hd' hf.ht hf.hx
 by_cases h8:k=8
 ·subst h8;exact refMay8 b n t x p q.length cap d _ W hd' hf.ht hf.hx
 by_cases h9:k=9
 ·subst h9;exact refMay9 b n t x p q.length cap d _ W hd' hf.ht hf.hx
 by_cases h10:k=10
 ·subst h10;exact zwq b n t x p q.length cap d _ W hd' hf.ht hf.hx
 exact refMayX k b n t x p q.length cap d _ W hd' (by omega)
mutual
theorem zop:(v:Val)→(d:Nat)→d≤60→zg9 v d
 | .mk k b n t x q,d,hd=>zsu _ k b n t x q rfl d hd (fun h=>zl9 q (d+1) h)
theorem zl9:(q:List Val)→(d:Nat)→d≤60→∀ u∈q,zg9 u d
 | [],_,_,_,h=>absurd h (by simp)
 | v::r,d,hd,u,h=>by
   rcases List.mem_cons.1 h with h | h
   ·rw [h];exact zop v d hd
   ·exact zl9 r d hd u h
end
theorem refMay (k:Int) (b:Bool) (n:Int) (t x:ByteArray) (q:List Val) (p:Option Addr) (cap:Nat) (w:World) (hf:Fine n t x q.length) (hl:Held w (.slice p q.length cap) q):
 Calls Tryz.prog 49 #[.agg #[.int .i64 k,.bool b,.int .i64 n,.string t,.string x,.slice p q.length cap]] w fun e w'=>e=.returned (.bool (mayP (.mk k b n t x q) 0))∧Below w.heap.size w w':=by
 obtain ⟨w1,hw1⟩:∃ w1,w1=w.alloc (.cells #[.int .i64 k,.bool b,.int .i64 n,.string t,.string x,.slice p q.length cap] 39):=⟨_,rfl⟩
 have S:Six w1 w.heap.size k b n t x p q.length cap:=by rw [hw1];exact zaf _ rfl
 have b0:Below w.heap.size w w1:=by rw [hw1];exact za0 _ _
 have hc:=zop (.mk k b n t x q) 0 (by omega) w1 k b n t x q p cap rfl hf (Held.below q hl b0)
 have hc':Calls Tryz.prog 87 #[.agg #[.int .i64 k,.bool b,.int .i64 n,.string t,.string x,.slice p q.length cap],.int .i64 0] w1 fun e w'=>e=.returned (.bool (mayP (.mk k b n t x q) 0))∧Below w1.heap.size w1 w':=hc
 have HW:=Lib.hid hw1
 clear hw1 hl hf hc
 generalize mayP (.mk k b n t x q) 0=r at hc' ⊢
 go_enter Tryz.func49,Tryz.ntmps49
 go_wp2_with (first
  |(rw [← HW.out];(with_reducible refine zaa (.tmp 1) w.heap.size S ?_ ?_ ?_ ?_);rfl;rfl;rfl)
  |(go_at_call 87;(with_reducible refine hc'.mono ?_);rintro e w3 ⟨rfl,hb3⟩;replace b0:=zak b0 hb3 b0.size))
 go_ret
 exact ⟨rfl,b0⟩
structure V6 where
 k:Int
 b:Bool
 n:Int
 t:ByteArray
 x:ByteArray
 p:Option Addr
 len:Nat
 cap:Nat
structure Is (W:World) (v:V6) (u:Val) (q:List Val):Prop where
 e:u=.mk v.k v.b v.n v.t v.x q
 hq:v.len=q.length
 hf:Fine v.n v.t v.x q.length
 hl:Held W (.slice v.p v.len v.cap) q
theorem Is.below {W W':World} {v:V6} {u:Val} {q:List Val} (h:Is W v u q) (b:Below W.heap.size W W'):Is W' v u q:=⟨h.e,h.hq,h.hf,Held.below q h.hl b⟩
theorem zd6:(Tryz.prog.info? 41).map (·.size)=some 18:=by kernel_rfl
def za4 (W:World) (g:Nat) (s q o:V6):Prop:=W.heap[g]?=some (.cells #[.int .i64 s.k,.bool s.b,.int .i64 s.n,.string s.t,.string s.x,.slice s.p s.len s.cap,.int .i64 q.k,.bool q.b,.int .i64 q.n,.string q.t,.string q.x,.slice q.p q.len q.cap,.int .i64 o.k,.bool o.b,.int .i64 o.n,.string o.t,.string o.x,.slice o.p o.len o.cap] 41)
section
variable {w w':World} {g e:Nat} {s q o:V6}
theorem za4.below (h:za4 w g s q o) (c:Below w.heap.size w w'):za4 w' g s q o:=(c.block g (zac h)).trans h
theorem za4.only (h:za4 w g s q o) (c:Only e w w') (d:g≠e):za4 w' g s q o:=(c.block g (zac h) d).trans h
theorem za4.alloc (h:za4 w g s q o) (b:Obj):za4 (w.alloc b) g s q o:=zaw _ h
theorem za4.lt (h:za4 w g s q o):g < w.heap.size:=zac h
theorem zc9 (w:World) (e:w.heap.size=g):za4 (w.alloc (.cells #[.int .i64 s.k,.bool s.b,.int .i64 s.n,.string s.t,.string s.x,.slice s.p s.len s.cap,.int .i64 q.k,.bool q.b,.int .i64 q.n,.string q.t,.string q.x,.slice q.p q.len q.cap,.int .i64 o.k,.bool o.b,.int .i64 o.n,.string o.t,.string o.x,.slice o.p o.len o.cap] 41)) g s q o:=zah _ _ e
theorem za4.c0 (h:za4 w g s q o):w.cell? ⟨g,0,none⟩=some (.int .i64 s.k):=zab h _ rfl
theorem za4.c1 (h:za4 w g s q o):w.cell? ⟨g,1,none⟩=some (.bool s.b):=zab h _ rfl
theorem za4.c2 (h:za4 w g s q o):w.cell? ⟨g,2,none⟩=some (.int .i64 s.n):=zab h _ rfl
theorem za4.c3 (h:za4 w g s q o):w.cell? ⟨g,3,none⟩=some (.string s.t):=zab h _ rfl
theorem za4.c4 (h:za4 w g s q o):w.cell? ⟨g,4,none⟩=some (.string s.x):=zab h _ rfl
theorem za4.c5 (h:za4 w g s q o):w.cell? ⟨g,5,none⟩=some (.slice s.p s.len s.cap):=zab h _ rfl
theorem za4.r0 (h:za4 w g s q o):w.rangeAt g 0 [.int .i64 s.k,.bool s.b,.int .i64 s.n,.string s.t,.string s.x,.slice s.p s.len s.cap]:=zcy h.c0 h.c1 h.c2 h.c3 h.c4 h.c5
theorem za4.c6 (h:za4 w g s q o):w.cell? ⟨g,6,none⟩=some (.int .i64 q.k):=zab h _ rfl
theorem za4.c7 (h:za4 w g s q o):w.cell? ⟨g,7,none⟩=some (.bool q.b):=zab h _ rfl
theorem za4.c8 (h:za4 w g s q o):w.cell? ⟨g,8,none⟩=some (.int .i64 q.n):=zab h _ rfl
theorem za4.c9 (h:za4 w g s q o):w.cell? ⟨g,9,none⟩=some (.string q.t):=zab h _ rfl
theorem za4.c10 (h:za4 w g s q o):w.cell? ⟨g,10,none⟩=some (.string q.x):=zab h _ rfl
theorem za4.c11 (h:za4 w g s q o):w.cell? ⟨g,11,none⟩=some (.slice q.p q.len q.cap):=zab h _ rfl
theorem za4.r1 (h:za4 w g s q o):w.rangeAt g 6 [.int .i64 q.k,.bool q.b,.int .i64 q.n,.string q.t,.string q.x,.slice q.p q.len q.cap]:=zcy h.c6 h.c7 h.c8 h.c9 h.c10 h.c11
theorem za4.c12 (h:za4 w g s q o):w.cell? ⟨g,12,none⟩=some (.int .i64 o.k):=zab h _ rfl
theorem za4.c13 (h:za4 w g s q o):w.cell? ⟨g,13,none⟩=some (.bool o.b):=zab h _ rfl
theorem za4.c14 (h:za4 w g s q o):w.cell? ⟨g,14,none⟩=some (.int .i64 o.n):=zab h _ rfl
theorem za4.c15 (h:za4 w g s q o):w.cell? ⟨g,15,none⟩=some (.string o.t):=zab h _ rfl
theorem za4.c16 (h:za4 w g s q o):w.cell? ⟨g,16,none⟩=some (.string o.x):=zab h _ rfl
theorem za4.c17 (h:za4 w g s q o):w.cell? ⟨g,17,none⟩=some (.slice o.p o.len o.cap):=zab h _ rfl
theorem za4.r2 (h:za4 w g s q o):w.rangeAt g 12 [.int .i64 o.k,.bool o.b,.int .i64 o.n,.string o.t,.string o.x,.slice o.p o.len o.cap]:=zcy h.c12 h.c13 h.c14 h.c15 h.c16 h.c17
end
theorem zal {ops:Array Oper} {rest:List Oper} {o:Oper} {a:Act} {w:World} {Q:Exit→Act→World→Prop} (y:Operand) (g off:Nat) (v:V6) (h6:w.rangeAt g off [.int .i64 v.k,.bool v.b,.int .i64 v.n,.string v.t,.string v.x,.slice v.p v.len v.cap])
 (hgd:o.guard=none) (ho:o.op=.load 39 y) (hx:a.eval y=.pointer (some ⟨g,off,none⟩))
 (h:wpList Tryz.prog ops Q rest (a.put o.dst (.agg #[.int .i64 v.k,.bool v.b,.int .i64 v.n,.string v.t,.string v.x,.slice v.p v.len v.cap])) w):wpList Tryz.prog ops Q (o::rest) a w:=
 wpList_load_mid hgd 39 y ho g off hx [.int .i64 v.k,.bool v.b,.int .i64 v.n,.string v.t,.string v.x,.slice v.p v.len v.cap] _ h6 Tryz.underlying39 rfl zas h
theorem zaq {ops:Array Oper} {rest:List Oper} {o:Oper} {a:Act} {w:World} {Q:Exit→Act→World→Prop} (y:Operand) (g off:Nat) (v:V6) (h6:w.rangeAt g off [.int .i64 v.k,.bool v.b,.int .i64 v.n,.string v.t,.string v.x,.slice v.p v.len v.cap])
 (hw:Region.wanted o (yielded ops a.tmps)=true) (ho:o.op=.load 39 y) (hx:a.eval y=.pointer (some ⟨g,off,none⟩))
 (h:wpList Tryz.prog ops Q rest (a.put o.dst (.agg #[.int .i64 v.k,.bool v.b,.int .i64 v.n,.string v.t,.string v.x,.slice v.p v.len v.cap])) w):wpList Tryz.prog ops Q (o::rest) a w:=by
 unfold wpList
 rw [if_pos hw]
 refine .inl ?_
 unfold Oper.wp execOp
 simp only [ho,hx,Instr.loadAt,Instr.sureAddr,Sem.run_bind,Sem.run_pure,Result.andThen_ok,run_loadVar_mid (P:=Tryz.prog) w g off 39 [.int .i64 v.k,.bool v.b,.int .i64 v.n,.string v.t,.string v.x,.slice v.p v.len v.cap] _ h6 Tryz.underlying39 rfl zas]
 exact h
def chkP (s q o:V6) (us uq uo:Val):Bool:=zbc s.k && zbd q.k && objP o.k && mayP us 0 && mayP uq 0 && mayP uo 0
theorem zwr (s q o:V6) (us uq uo:Val) (ls lq lo:List Val) (W:World) (hG:Gd W) (hs:Is W s us ls) (hq:Is W q uq lq) (ho:Is W o uo lo):
 Calls Tryz.prog 13 #[.agg #[.int .i64 s.k,.bool s.b,.int .i64 s.n,.string s.t,.string s.x,.slice s.p s.len s.cap,.int .i64 q.k,.bool q.b,.int .i64 q.n,.string q.t,.string q.x,.slice q.p q.len q.cap,.int .i64 o.k,.bool o.b,.int .i64 o.n,.string o.t,.string o.x,.slice o.p o.len o.cap]] W fun e w'=>e=.returned (.bool (chkP s q o us uq uo))∧Low W.heap.size W w':=by
 obtain ⟨W0,hW0⟩:∃ W0,W0=W.alloc (.cells #[.int .i64 s.k,.bool s.b,.int .i64 s.n,.string s.t,.string s.x,.slice s.p s.len s.cap,.int .i64 q.k,.bool q.b,.int .i64 q.n,.string q.t,.string q.x,.slice q.p q.len q.cap,.int .i64 o.k,.bool o.b,.int .i64 o.n,.string o.t,.string o.x,.slice o.p o.len o.cap] 41):=⟨_,rfl⟩
 have B:za4 W0 W.heap.size s q o:=by rw [hW0];exact zc9 _ rfl
 have b0:Low W.heap.size W W0:=by rw [hW0];exact low1 _ _
 have hc1:=fun w=>subjAt s.k s.b s.n s.t s.x s.p s.len s.cap w
 have hc2:=fun w=>predAt q.k q.b q.n q.t q.x q.p q.len q.cap w
 have hc3:=fun w=>objAt o.k o.b o.n o.t o.x o.p o.len o.cap w
 have hc4:=fun w (h:Low W.heap.size W w)=>zmr us s.k s.b s.n s.t s.x ls _ w hs.e (hG.below h.is) hs.hf.ht hs.hf.hx (hs.below h.is).hl
 have hc5:=fun w (h:Low W.heap.size W w)=>zmr uq q.k q.b q.n q.t q.x lq _ w hq.e (hG.below h.is) hq.hf.ht hq.hf.hx (hq.below h.is).hl
 have hc6:=fun w (h:Low W.heap.size W w)=>zmr uo o.k o.b o.n o.t o.x lo _ w ho.e (hG.below h.is) ho.hf.ht ho.hf.hx (ho.below h.is).hl
 have HW:=Lib.hid hW0
 clear hW0 hs hq ho hG
 unfold chkP
 generalize zbc s.k=r1 at hc1 ⊢
 generalize zbd q.k=r2 at hc2 ⊢
 generalize objP o.k=r3 at hc3 ⊢
 generalize mayP us 0=r4 at hc4 ⊢
 generalize mayP uq 0=r5 at hc5 ⊢
 generalize mayP uo 0=r6 at hc6 ⊢
 cases r1 with
 | false=>
   clear hc2
   clear hc3
   clear hc4
   clear hc5
   clear hc6
   rw [show (false && r2 && r3 && r4 && r5 && r6)=false by simp]
   go_enter Tryz.func13,Tryz.ntmps13
   go_wp2_with (first
    |(rw [← HW.out];(with_reducible refine zal (.tmp 3) W.heap.size 0 s B.r0 ?_ ?_ ?_ ?_);rfl;rfl;rfl)
    |(go_at_call 45;(with_reducible refine (hc1 _).mono ?_);rintro e w3 ⟨rfl,hb3⟩;replace b0:=zad b0 hb3 b0.size;replace B:=B.below hb3.is;clear hb3))
   go_ret
   exact ⟨rfl,b0⟩
 | true=>
   cases r2 with
   | false=>
     clear hc3
     clear hc4
     clear hc5
     clear hc6
     rw [show (true && false && r3 && r4 && r5 && r6)=false by simp]
     go_enter Tryz.func13,Tryz.ntmps13
     go_wp2_with (first
      |(rw [← HW.out];(with_reducible refine zal (.tmp 3) W.heap.size 0 s B.r0 ?_ ?_ ?_ ?_);rfl;rfl;rfl)
      |((with_reducible refine zaq (.tmp 7) W.heap.size 6 q B.r1 ?_ ?_ ?_ ?_);rfl;rfl;rfl)
      |(go_at_call 45;(with_reducible refine (hc1 _).mono ?_);rintro e w3 ⟨rfl,hb3⟩;replace b0:=zad b0 hb3 b0.size;replace B:=B.below hb3.is;clear hb3)
      |(go_at_call 46;(with_reducible refine (hc2 _).mono ?_);rintro e w3 ⟨rfl,hb3⟩;replace b0:=zad b0 hb3 b0.size;replace B:=B.below hb3.is;clear hb3))
     go_ret
     exact ⟨rfl,b0⟩
   | true=>
     cases r3 with
     | false=>
       clear hc4
       clear hc5
       clear hc6
       rw [show (true && true && false && r4 && r5 && r6)=false by simp]
       go_enter Tryz.func13,Tryz.ntmps13
       go_wp2_with (first
        |(rw [← HW.out];(with_reducible refine zal (.tmp 3) W.heap.size 0 s B.r0 ?_ ?_ ?_ ?_);rfl;rfl;rfl)
        |((with_reducible refine zaq (.tmp 7) W.heap.size 6 q B.r1 ?_ ?_ ?_ ?_);rfl;rfl;rfl)
        |((with_reducible refine zaq (.tmp 12) W.heap.size 12 o B.r2 ?_ ?_ ?_ ?_);rfl;rfl;rfl)
        |(go_at_call 45;(with_reducible refine (hc1 _).mono ?_);rintro e w3 ⟨rfl,hb3⟩;replace b0:=zad b0 hb3 b0.size;replace B:=B.below hb3.is;clear hb3)
        |(go_at_call 46;(with_reducible refine (hc2 _).mono ?_);rintro e w3 ⟨rfl,hb3⟩;replace b0:=zad b0 hb3 b0.size;replace B:=B.below hb3.is;clear hb3)
        |(go_at_call 47;(with_reducible refine (hc3 _).mono ?_);rintro e w3 ⟨rfl,hb3⟩;replace b0:=zad b0 hb3 b0.size;replace B:=B.below hb3.is;clear hb3))
       go_ret
       exact ⟨rfl,b0⟩
     | true=>
       cases r4 with
       | false=>
         clear hc5
         clear hc6
         rw [show (true && true && true && false && r5 && r6)=false by simp]
         go_enter Tryz.func13,Tryz.ntmps13
         go_wp2_with (first
          |(rw [← HW.out];(with_reducible refine zal (.tmp 3) W.heap.size 0 s B.r0 ?_ ?_ ?_ ?_);rfl;rfl;rfl)
          |((with_reducible refine zaq (.tmp 7) W.heap.size 6 q B.r1 ?_ ?_ ?_ ?_);rfl;rfl;rfl)
          |((with_reducible refine zaq (.tmp 12) W.heap.size 12 o B.r2 ?_ ?_ ?_ ?_);rfl;rfl;rfl)
          |((with_reducible refine zaq (.tmp 17) W.heap.size 0 s B.r0 ?_ ?_ ?_ ?_);rfl;rfl;rfl)
          |(go_at_call 45;(with_reducible refine (hc1 _).mono ?_);rintro e w3 ⟨rfl,hb3⟩;replace b0:=zad b0 hb3 b0.size;replace B:=B.below hb3.is;clear hb3)
          |(go_at_call 46;(with_reducible refine (hc2 _).mono ?_);rintro e w3 ⟨rfl,hb3⟩;replace b0:=zad b0 hb3 b0.size;replace B:=B.below hb3.is;clear hb3)
          |(go_at_call 47;(with_reducible refine (hc3 _).mono ?_);rintro e w3 ⟨rfl,hb3⟩;replace b0:=zad b0 hb3 b0.size;replace B:=B.below hb3.is;clear hb3)
          |(go_at_call 48;(with_reducible refine (hc4 _ b0).mono ?_);rintro e w3 ⟨rfl,hb3⟩;replace b0:=zad b0 hb3 b0.size;replace B:=B.below hb3.is;clear hb3))
         go_ret
         exact ⟨rfl,b0⟩
       | true=>
         cases r5 with
         | false=>
           clear hc6
           rw [show (true && true && true && true && false && r6)=false by simp]
           go_enter Tryz.func13,Tryz.ntmps13
           go_wp2_with (first
            |(rw [← HW.out];(with_reducible refine zal (.tmp 3) W.heap.size 0 s B.r0 ?_ ?_ ?_ ?_);rfl;rfl;rfl)
            |((with_reducible refine zaq (.tmp 7) W.heap.size 6 q B.r1 ?_ ?_ ?_ ?_);rfl;rfl;rfl)
            |((with_reducible refine zaq (.tmp 12) W.heap.size 12 o B.r2 ?_ ?_ ?_ ?_);rfl;rfl;rfl)
            |((with_reducible refine zaq (.tmp 17) W.heap.size 0 s B.r0 ?_ ?_ ?_ ?_);rfl;rfl;rfl)
            |((with_reducible refine zaq (.tmp 22) W.heap.size 6 q B.r1 ?_ ?_ ?_ ?_);rfl;rfl;rfl)
            |(go_at_call 45;(with_reducible refine (hc1 _).mono ?_);rintro e w3 ⟨rfl,hb3⟩;replace b0:=zad b0 hb3 b0.size;replace B:=B.below hb3.is;clear hb3)
            |(go_at_call 46;(with_reducible refine (hc2 _).mono ?_);rintro e w3 ⟨rfl,hb3⟩;replace b0:=zad b0 hb3 b0.size;replace B:=B.below hb3.is;clear hb3)
            |(go_at_call 47;(with_reducible refine (hc3 _).mono ?_);rintro e w3 ⟨rfl,hb3⟩;replace b0:=zad b0 hb3 b0.size;replace B:=B.below hb3.is;clear hb3)
            |(go_at_call 48;(with_reducible refine (hc4 _ b0).mono ?_);rintro e w3 ⟨rfl,hb3⟩;replace b0:=zad b0 hb3 b0.size;replace B:=B.below hb3.is;clear hb3)
            |(go_at_call 48;(with_reducible refine (hc5 _ b0).mono ?_);rintro e w3 ⟨rfl,hb3⟩;replace b0:=zad b0 hb3 b0.size;replace B:=B.below hb3.is;clear hb3))
           go_ret
           exact ⟨rfl,b0⟩
         | true=>
           cases r6 with
           | false=>
             rw [show (true && true && true && true && true && false)=false by simp]
             go_enter Tryz.func13,Tryz.ntmps13
             go_wp2_with (first
              |(rw [← HW.out];(with_reducible refine zal (.tmp 3) W.heap.size 0 s B.r0 ?_ ?_ ?_ ?_);rfl;rfl;rfl)
              |((with_reducible refine zaq (.tmp 7) W.heap.size 6 q B.r1 ?_ ?_ ?_ ?_);rfl;rfl;rfl)
              |((with_reducible refine zaq (.tmp 12) W.heap.size 12 o B.r2 ?_ ?_ ?_ ?_);rfl;rfl;rfl)
              |((with_reducible refine zaq (.tmp 17) W.heap.size 0 s B.r0 ?_ ?_ ?_ ?_);rfl;rfl;rfl)
              |((with_reducible refine zaq (.tmp 22) W.heap.size 6 q B.r1 ?_ ?_ ?_ ?_);rfl;rfl;rfl)
              |((with_reducible refine zaq (.tmp 27) W.heap.size 12 o B.r2 ?_ ?_ ?_ ?_);rfl;rfl;rfl)
              |(go_at_call 45;(with_reducible refine (hc1 _).mono ?_);rintro e w3 ⟨rfl,hb3⟩;replace b0:=zad b0 hb3 b0.size;replace B:=B.below hb3.is;clear hb3)
              |(go_at_call 46;(with_reducible refine (hc2 _).mono ?_);rintro e w3 ⟨rfl,hb3⟩;replace b0:=zad b0 hb3 b0.size;replace B:=B.below hb3.is;clear hb3)
              |(go_at_call 47;(with_reducible refine (hc3 _).mono ?_);rintro e w3 ⟨rfl,hb3⟩;replace b0:=zad b0 hb3 b0.size;replace B:=B.below hb3.is;clear hb3)
              |(go_at_call 48;(with_reducible refine (hc4 _ b0).mono ?_);rintro e w3 ⟨rfl,hb3⟩;replace b0:=zad b0 hb3 b0.size;replace B:=B.below hb3.is;clear hb3)
              |(go_at_call 48;(with_reducible refine (hc5 _ b0).mono ?_);rintro e w3 ⟨rfl,hb3⟩;replace b0:=zad b0 hb3 b0.size;replace B:=B.below hb3.is;clear hb3)
              |(go_at_call 48;(with_reducible refine (hc6 _ b0).mono ?_);rintro e w3 ⟨rfl,hb3⟩;replace b0:=zad b0 hb3 b0.size;replace B:=B.below hb3.is;clear hb3))
             go_ret
             exact ⟨rfl,b0⟩
           | true=>
             go_enter Tryz.func13,Tryz.ntmps13
             go_wp2_with (first
              |(rw [← HW.out];(with_reducible refine zal (.tmp 3) W.heap.size 0 s B.r0 ?_ ?_ ?_ ?_);rfl;rfl;rfl)
              |((with_reducible refine zaq (.tmp 7) W.heap.size 6 q B.r1 ?_ ?_ ?_ ?_);rfl;rfl;rfl)
              |((with_reducible refine zaq (.tmp 12) W.heap.size 12 o B.r2 ?_ ?_ ?_ ?_);rfl;rfl;rfl)
              |((with_reducible refine zaq (.tmp 17) W.heap.size 0 s B.r0 ?_ ?_ ?_ ?_);rfl;rfl;rfl)
              |((with_reducible refine zaq (.tmp 22) W.heap.size 6 q B.r1 ?_ ?_ ?_ ?_);rfl;rfl;rfl)
              |((with_reducible refine zaq (.tmp 27) W.heap.size 12 o B.r2 ?_ ?_ ?_ ?_);rfl;rfl;rfl)
              |(go_at_call 45;(with_reducible refine (hc1 _).mono ?_);rintro e w3 ⟨rfl,hb3⟩;replace b0:=zad b0 hb3 b0.size;replace B:=B.below hb3.is;clear hb3)
              |(go_at_call 46;(with_reducible refine (hc2 _).mono ?_);rintro e w3 ⟨rfl,hb3⟩;replace b0:=zad b0 hb3 b0.size;replace B:=B.below hb3.is;clear hb3)
              |(go_at_call 47;(with_reducible refine (hc3 _).mono ?_);rintro e w3 ⟨rfl,hb3⟩;replace b0:=zad b0 hb3 b0.size;replace B:=B.below hb3.is;clear hb3)
              |(go_at_call 48;(with_reducible refine (hc4 _ b0).mono ?_);rintro e w3 ⟨rfl,hb3⟩;replace b0:=zad b0 hb3 b0.size;replace B:=B.below hb3.is;clear hb3)
              |(go_at_call 48;(with_reducible refine (hc5 _ b0).mono ?_);rintro e w3 ⟨rfl,hb3⟩;replace b0:=zad b0 hb3 b0.size;replace B:=B.below hb3.is;clear hb3)
              |(go_at_call 48;(with_reducible refine (hc6 _ b0).mono ?_);rintro e w3 ⟨rfl,hb3⟩;replace b0:=zad b0 hb3 b0.size;replace B:=B.below hb3.is;clear hb3))
             go_ret
             exact ⟨rfl,b0⟩
theorem zc0 (a b:Bool) (w:World):Calls Tryz.prog 68 #[.bool a,.bool b] w fun e w'=>e=.returned (.int .i64 (if a then -1 else if b then 1 else 0))∧w'=w:=by
 cases a <;> cases b
 all_goals
  go_enter Tryz.func68,Tryz.ntmps68
  go_wp2_with fail
  go_ret
  exact ⟨rfl,rfl⟩
theorem zoq (lang k:Int) (w:World):Calls Tryz.prog 67 #[.int .i64 lang,.int .i64 k] w fun e w'=>e=.returned (.int .i64 (zau lang k))∧w'=w:=by
 by_cases h5:k=5
 ·subst h5
  rw [show zau lang 5=1 from rfl]
  go_enter Tryz.func67,Tryz.ntmps67
  go_wp2_with fail
  go_ret
  exact ⟨rfl,rfl⟩
 by_cases h6:k=6
 ·subst h6
  rw [show zau lang 6=2 from rfl]
  go_enter Tryz.func67,Tryz.ntmps67
  go_wp2_with fail
  go_ret
  exact ⟨rfl,rfl⟩
 by_cases h7:k=7
 ·subst h7
  rw [show zau lang 7=3 from rfl]
  go_enter Tryz.func67,Tryz.ntmps67
  go_wp2_with fail
  go_ret
  exact ⟨rfl,rfl⟩
 by_cases h9:k=9
 ·subst h9
  rw [show zau lang 9=4 from rfl]
  go_enter Tryz.func67,Tryz.ntmps67
  go_wp2_with fail
  go_ret
  exact ⟨rfl,rfl⟩
 by_cases h8:k=8
 ·subst h8
  rw [show zau lang 8=5 from rfl]
  go_enter Tryz.func67,Tryz.ntmps67
  go_wp2_with fail
  go_ret
  exact ⟨rfl,rfl⟩
 by_cases h10:k=10
 ·subst h10
  rw [show zau lang 10=6 from rfl]
  go_enter Tryz.func67,Tryz.ntmps67
  go_wp2_with fail
  go_ret
  exact ⟨rfl,rfl⟩
 by_cases h4:k=4
 ·subst h4
  rw [show zau lang 4=7 from rfl]
  go_enter Tryz.func67,Tryz.ntmps67
  go_wp2_with fail
  go_ret
  exact ⟨rfl,rfl⟩
 by_cases h1:k=1
 ·subst h1
  rw [show zau lang 1=8 from rfl]
  go_enter Tryz.func67,Tryz.ntmps67
  go_wp2_with fail
  go_ret
  exact ⟨rfl,rfl⟩
 by_cases h2:k=2
 ·subst h2
  rw [show zau lang 2=9 from rfl]
  go_enter Tryz.func67,Tryz.ntmps67
  go_wp2_with fail
  go_ret
  exact ⟨rfl,rfl⟩
 by_cases h3:k=3
 ·subst h3
  rw [show zau lang 3=9 from rfl]
  go_enter Tryz.func67,Tryz.ntmps67
  go_wp2_with fail
  go_ret
  exact ⟨rfl,rfl⟩
 by_cases h0:k=0
 ·subst h0
  by_cases hl:lang=1
  ·subst hl
   rw [show zau 1 0=0 from rfl]
   go_enter Tryz.func67,Tryz.ntmps67
   go_wp2_with fail
   go_ret
   exact ⟨rfl,rfl⟩
  ·rw [show zau lang 0=10 by unfold zau;rw [if_pos rfl,if_neg hl]]
   have e1:(lang == 1)=false:=by simpa using hl
   go_enter Tryz.func67,Tryz.ntmps67
   go_wp2_with fail
   go_ret
   exact ⟨rfl,rfl⟩
 rw [show zau lang k=11 by unfold zau;simp [h0,h1,h2,h3,h4,h5,h6,h7,h8,h9,h10]]
 have e0:(k == 0)=false:=by simpa using h0
 have e1:(k == 1)=false:=by simpa using h1
 have e2:(k == 2)=false:=by simpa using h2
 have e3:(k == 3)=false:=by simpa using h3
 have e4:(k == 4)=false:=by simpa using h4
 have e5:(k == 5)=false:=by simpa using h5
 have e6:(k == 6)=false:=by simpa using h6
 have e7:(k == 7)=false:=by simpa using h7
 have e8:(k == 8)=false:=by simpa using h8
 have e9:(k == 9)=false:=by simpa using h9
 have e10:(k == 10)=false:=by simpa using h10
 clear h0 h1 h2 h3 h4 h5 h6 h7 h8 h9 h10
 go_enter Tryz.func67,Tryz.ntmps67
 go_wp2_with fail
 go_ret
 exact ⟨rfl,rfl⟩
def zor (v:Val):Prop:=∀ (lang:Int) (W:World) (k:Int) (b:Bool) (n:Int) (t x:ByteArray) (q:List Val) (p:Option Addr) (cap:Nat) (v2:Val) (k2:Int) (b2:Bool) (n2:Int) (t2 x2:ByteArray) (q2:List Val) (p2:Option Addr) (cap2:Nat),
 v=.mk k b n t x q→v2=.mk k2 b2 n2 t2 x2 q2→Fine n t x q.length→Fine n2 t2 x2 q2.length→Held W (.slice p q.length cap) q→Held W (.slice p2 q2.length cap2) q2→
 Calls Tryz.prog 34 #[.int .i64 lang,.agg #[.int .i64 k,.bool b,.int .i64 n,.string t,.string x,.slice p q.length cap],.agg #[.int .i64 k2,.bool b2,.int .i64 n2,.string t2,.string x2,.slice p2 q2.length cap2]] W
  fun e w'=>e=.returned (.int .i64 (zan lang v v2))∧Below W.heap.size W w'
theorem rowsAt (lang:Int) (l l2:List Val) (p p2:Option Addr) (cap cap2:Nat) (w:World) (hl:Held w (.slice p l.length cap) l) (hl2:Held w (.slice p2 l2.length cap2) l2) (hn:l.length≤2097152) (hn2:l2.length≤2097152) (each:∀ v∈l,zor v):
 Calls Tryz.prog 71 #[.int .i64 lang,.slice p l.length cap,.slice p2 l2.length cap2] w fun e w'=>e=.returned (.int .i64 (zbh lang l l2))∧Below w.heap.size w w':=by
 obtain ⟨z,hz⟩:∃ z,z=zbh lang l l2:=⟨_,rfl⟩
 rw [← hz]
 have HZ:=Lib.hid hz
 have HL:=Lib.hid hl
 have HL2:=Lib.hid hl2
 have HE:=Lib.hid each
 clear hl hl2 each hz
 go_enter Tryz.func71,Tryz.ntmps71
 go_wp2_with fail
 go_loopw [7] (fun i wr=>∃ j:Nat,j≤l.length∧j≤l2.length∧i=.int .i64 j∧Below w.heap.size w wr∧Hid (z=zbh lang (l.drop j) (l2.drop j))) (fun i _=>l.length - (intOf i).toNat)
 case atStart=>exact ⟨0,Nat.zero_le _,Nat.zero_le _,rfl,Below.refl _ _,Lib.hid (by rw [List.drop_zero,List.drop_zero];exact HZ.out)⟩
 case round=>
  obtain ⟨j,hj,hj2,rfl,hb,HA⟩:=hrel
  by_cases hlt:j < l.length
  ·by_cases hlt2:j < l2.length
   ·obtain ⟨g,off,rfl,hh⟩:∃ g off,p=some ⟨g,off,none⟩∧zar w g off l:=by
     have hq:=HL.out
     cases l with
     | nil=>simp at hlt
     | cons v r=>exact hq.form
    obtain ⟨g2,off2,rfl,hh2⟩:∃ g2 off2,p2=some ⟨g2,off2,none⟩∧zar w g2 off2 l2:=by
     have hq:=HL2.out
     cases l2 with
     | nil=>simp at hlt2
     | cons v r=>exact hq.form
    obtain ⟨k,b,n,t,x,q,p,cp,o1⟩:=(zar.at_ l off hh j hlt).opens
    obtain ⟨k2,b2,n2,t2,x2,q2,p2,cp2,o2⟩:=(zar.at_ l2 off2 hh2 j hlt2).opens
    have hc:=fun W (hb:Below w.heap.size w W)=>HE.out l[j] (List.getElem_mem hlt) lang W k b n t x q p cp l2[j] k2 b2 n2 t2 x2 q2 p2 cp2 o1.e o2.e o1.hf o2.hf (Held.below q o1.hl hb) (Held.below q2 o2.hl hb)
    obtain ⟨r,hr⟩:∃ r,r=zan lang l[j] l2[j]:=⟨_,rfl⟩
    rw [← hr] at hc
    have hA:=HA.out
    rw [zl2 lang l l2 j hlt hlt2,← hr] at hA
    have R1:∀ w',Below w.heap.size w w'→w'.rangeAt g (off+j*6) [.int .i64 k,.bool b,.int .i64 n,.string t,.string x,.slice p q.length cp]:=fun w' h=>(o1.below h).range
    have R2:∀ w',Below w.heap.size w w'→w'.rangeAt g2 (off2+j*6) [.int .i64 k2,.bool b2,.int .i64 n2,.string t2,.string x2,.slice p2 q2.length cp2]:=fun w' h=>(o2.below h).range
    have HC:=Lib.hid hc
    have HA2:=Lib.hid hA
    have HR1:=Lib.hid R1
    have HR2:=Lib.hid R2
    clear o1 o2 hr hc R1 R2 hh hh2 hA HA
    have hlti:(j:Int) < l.length:=by omega
    have hlti2:(j:Int) < l2.length:=by omega
    go_wp2_with fail
    refine wp_region_held_drew (S:=fun w'=>Below w.heap.size w w') (by kernel_rfl) hb.drew (fun hHeld=>?_)
    refine tg (i:=0) (.int .i64 lang) rfl hHeld ?_
    refine tg (i:=1) (.slice (some ⟨g,off,none⟩) l.length cap) rfl hHeld ?_
    refine tg (i:=2) (.int .i64 j) rfl hHeld ?_
    refine tg (i:=3) (.pointer (some ⟨g,off+j*6,none⟩)) rfl hHeld ?_
    refine tk (i:=4) rfl (yieldsIf_load_mid (by rfl) 39 (.tmp 24) rfl g (off+j*6) rfl _ _ (fun w h=>HR1.out w h) Tryz.underlying39 rfl zas) hHeld ?_
    refine tg (i:=5) (.slice (some ⟨g2,off2,none⟩) l2.length cap2) rfl hHeld ?_
    refine tg (i:=6) (.int .i64 j) rfl hHeld ?_
    refine tg (i:=7) (.pointer (some ⟨g2,off2+j*6,none⟩)) rfl hHeld ?_
    refine tk (i:=8) rfl (yieldsIf_load_mid (by rfl) 39 (.tmp 28) rfl g2 (off2+j*6) rfl _ _ (fun w h=>HR2.out w h) Tryz.underlying39 rfl zas) hHeld ?_
    refine tr 9 rfl (fun K hK=>?_)
    rw [if_pos (by rfl)]
    go_simp
    refine (HC.out _ hHeld).mono ?_
    rintro e w3 ⟨rfl,hb3⟩
    refine hK.out _ _ (zak hHeld hb3 hHeld.size) (fun hHeld2=>?_)
    clear hK K hb3 hHeld
    try simp only [putS]
    refine tg (i:=10) (.int .i64 r) rfl hHeld2 ?_
    refine wpAnyH_done (by kernel_rfl) ?_ _
    by_cases hr0:r=0
    ·have e2:(r != 0)=false:=by simp [hr0]
     have HA3:=Lib.hid (show z=zbh lang (l.drop (j+1)) (l2.drop (j+1)) by rw [HA2.out,hr0,zbi])
     clear HA2
     go_wp2_with fail
     go_roundw
     case rel=>exact ⟨j+1,by omega,by omega,by go_num,hHeld2,HA3⟩
     case measure=>simp [intOf];omega
    ·have e2:(r != 0)=true:=by simpa using hr0
     have HA3:=Lib.hid (show z=r by rw [HA2.out];exact if_neg hr0)
     clear HA2
     go_wp2_with fail
     go_ret
     exact ⟨by rw [HA3.out];rfl,hHeld2⟩
   ·obtain rfl:j=l2.length:=by omega
    have HA3:=Lib.hid (show z=1 by rw [HA.out];exact zl3 lang l l2 _ hlt (Nat.le_refl _))
    clear HA
    go_wp2_with (go_at_call 68;(with_reducible refine (zc0 _ _ _).mono ?_);rintro e w' ⟨rfl,rfl⟩)
    go_ret
    exact ⟨by rw [HA3.out];simp,hb⟩
  ·obtain rfl:j=l.length:=by omega
   by_cases hs:l.length < l2.length
   ·have HA3:=Lib.hid (show z=-1 by rw [HA.out];exact zkn lang l l2 hs)
    clear HA
    go_wp2_with (go_at_call 68;(with_reducible refine (zc0 _ _ _).mono ?_);rintro e w' ⟨rfl,rfl⟩)
    go_ret
    exact ⟨by rw [HA3.out];simp,hb⟩
   ·have HA3:=Lib.hid (show z=0 by rw [HA.out];exact zoc lang l l2 (by omega))
    clear HA
    go_wp2_with (go_at_call 68;(with_reducible refine (zc0 _ _ _).mono ?_);rintro e w' ⟨rfl,rfl⟩)
    go_ret
    exact ⟨by rw [HA3.out];simp,hb⟩
end Go.Proofs.YtanbgdhmfjgihaaGreatDoor
