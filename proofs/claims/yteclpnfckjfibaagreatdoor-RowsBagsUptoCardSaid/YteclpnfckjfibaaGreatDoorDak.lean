/- Texts of one kind, one behind the other: each says ahead of itself what it shows. -/
import Derived.Test.YteclpnfckjfibaaGreatDoorDaj
import Derived.Test.YteclpnfckjfibaaGreatDoorDad
import Derived.Deep.LoopGhost
import Derived.Test.YteclpnfckjfibaaGreatDoorDah
import Derived.Test.YteclpnfckjfibaaGreatDoorDai
import Derived.Deep.QuietTactic
import Derived.BigQuiet
import Derived.Maps.OwnOps
import Derived.Maps.OwnSet
import Derived.Maps.AppendAt
import Derived.Maps.Views
import Derived.Carry
namespace Go.Proofs.YteclpnfckjfibaaGreatDoor
open Go.RowKit
set_option maxHeartbeats 12800000
set_option maxRecDepth 20000
theorem fitsK8 (b:Bool) (n:Int) (t x:ByteArray) (len:Nat) (r:Bool):zb2 8 b n t x len r=(zcw t && (!b && !(n != 0) && !(!x.toList.isEmpty) && !(decide (0 < len)))):=by
 rw [show zb2 8 b n t x len r=(zcw t && zca b n ⟨#[]⟩ x len) from rfl]
 rw [zds]
 rw [zrj]
 simp
theorem refMay8 (b:Bool) (n:Int) (t x:ByteArray) (p:Option Addr) (len cap d:Nat) (r0:Bool) (w:World) (hd:(d:Int)≤60) (ht:t.size≤2097152) (hx:x.size≤2097152):
 Calls Tryz.prog 98 #[.agg #[.int .i64 8,.bool b,.int .i64 n,.string t,.string x,.slice p len cap],.int .i64 d] w fun e w'=>e=.returned (.bool (zb2 8 b n t x len r0))∧Below w.heap.size w w':=by
 have S:=zaj (k:=8) (b:=b) (n:=n) (t:=t) (x:=x) (p:=p) (len:=len) (cap:=cap) w rfl
 have b0:=zav w (.cells #[.int .i64 8,.bool b,.int .i64 n,.string t,.string x,.slice p len cap] 48)
 have f0:=S.c0
 have f1:=S.c1
 have f2:=S.c2
 have f3:=S.c3
 have f4:=S.c4
 have f5:=S.c5
 rw [fitsK8]
 obtain ⟨r,hr⟩:∃ r,r=(zcw t && (!b && !(n != 0) && !(!x.toList.isEmpty) && !(decide (0 < len)))):=⟨_,rfl⟩
 rw [← hr]
 have hC:=fun W=>z3u t W (by unfold maxLen;omega)
 obtain ⟨w1,hw1⟩:∃ w1,w1=w.alloc (.cells #[.int .i64 8,.bool b,.int .i64 n,.string t,.string x,.slice p len cap] 48):=⟨_,rfl⟩
 rw [← hw1] at S b0
 have HW:=Lib.hid hw1
 have HR:=Lib.hid hr
 clear hw1 hr
 go_enter Tryz.func98,Tryz.ntmps98
 go_upto_region 9 with fail
 rw [← HW.out]
 clear f0 f1 f2 f3 f4 f5
 have f0:=S.c0
 have f2:=S.c2
 have f3:=S.c3
 have f4:=S.c4
 have HR2:=HR.out
 clear HR
 generalize (n != 0)=nb at HR2 ⊢
 generalize (!t.toList.isEmpty)=tb at HR2 ⊢
 generalize (!x.toList.isEmpty)=xb at HR2 ⊢
 generalize decide (0 < len)=lb at HR2 ⊢
 generalize zcw t=C at HR2 hC ⊢
 have HR3:=Lib.hid HR2
 clear HR2 ht hx
 go_wp2_with (go_at_call 155;(with_reducible refine (hC _).mono ?_);rintro e w' ⟨rfl,rfl⟩)
 all_goals
  go_ret
  exact ⟨by rw [HR3.out];simp_all <;> (intros;omega),b0⟩
theorem fitsK9 (b:Bool) (n:Int) (t x:ByteArray) (len:Nat) (r:Bool):zb2 9 b n t x len r=(zcc t && (!b && !(n != 0) && !(!x.toList.isEmpty) && !(decide (0 < len)))):=by
 rw [show zb2 9 b n t x len r=(zcc t && zca b n ⟨#[]⟩ x len) from rfl]
 rw [zds]
 rw [zrj]
 simp
theorem refMay9 (b:Bool) (n:Int) (t x:ByteArray) (p:Option Addr) (len cap d:Nat) (r0:Bool) (w:World) (hd:(d:Int)≤60) (ht:t.size≤2097152) (hx:x.size≤2097152):
 Calls Tryz.prog 98 #[.agg #[.int .i64 9,.bool b,.int .i64 n,.string t,.string x,.slice p len cap],.int .i64 d] w fun e w'=>e=.returned (.bool (zb2 9 b n t x len r0))∧Below w.heap.size w w':=by
 have S:=zaj (k:=9) (b:=b) (n:=n) (t:=t) (x:=x) (p:=p) (len:=len) (cap:=cap) w rfl
 have b0:=zav w (.cells #[.int .i64 9,.bool b,.int .i64 n,.string t,.string x,.slice p len cap] 48)
 have f0:=S.c0
 have f1:=S.c1
 have f2:=S.c2
 have f3:=S.c3
 have f4:=S.c4
 have f5:=S.c5
 rw [fitsK9]
 obtain ⟨r,hr⟩:∃ r,r=(zcc t && (!b && !(n != 0) && !(!x.toList.isEmpty) && !(decide (0 < len)))):=⟨_,rfl⟩
 rw [← hr]
 have hC:=fun W=>zyn t W (by unfold maxLen;omega)
 obtain ⟨w1,hw1⟩:∃ w1,w1=w.alloc (.cells #[.int .i64 9,.bool b,.int .i64 n,.string t,.string x,.slice p len cap] 48):=⟨_,rfl⟩
 rw [← hw1] at S b0
 have HW:=Lib.hid hw1
 have HR:=Lib.hid hr
 clear hw1 hr
 go_enter Tryz.func98,Tryz.ntmps98
 go_upto_region 9 with fail
 rw [← HW.out]
 clear f0 f1 f2 f3 f4 f5
 have f0:=S.c0
 have f2:=S.c2
 have f3:=S.c3
 have f4:=S.c4
 have HR2:=HR.out
 clear HR
 generalize (n != 0)=nb at HR2 ⊢
 generalize (!t.toList.isEmpty)=tb at HR2 ⊢
 generalize (!x.toList.isEmpty)=xb at HR2 ⊢
 generalize decide (0 < len)=lb at HR2 ⊢
 generalize zcc t=C at HR2 hC ⊢
 have HR3:=Lib.hid HR2
 clear HR2 ht hx
 go_wp2_with (go_at_call 61;(with_reducible refine (hC _).mono ?_);rintro e w' ⟨rfl,rfl⟩)
 all_goals
  go_ret
  exact ⟨by rw [HR3.out];simp_all <;> (intros;omega),b0⟩
theorem fitsK10 (b:Bool) (n:Int) (t x:ByteArray) (len:Nat) (r:Bool):zb2 10 b n t x len r=(decide ((t.size:Int)≤1048576) && (zcw x && (!b && !(n != 0) && !(decide (0 < len))))):=by
 rw [show zb2 10 b n t x len r=(decide (t.size≤1048576) && (zcw x && zca b n ⟨#[]⟩ ⟨#[]⟩ len)) from rfl]
 rw [zds]
 rw [zrj,show decide (t.size≤1048576)=decide ((t.size:Int)≤1048576) from decide_eq_decide.2 (by omega)]
 simp
theorem z1w (b:Bool) (n:Int) (t x:ByteArray) (p:Option Addr) (len cap d:Nat) (r0:Bool) (w:World) (hd:(d:Int)≤60) (ht:t.size≤2097152) (hx:x.size≤2097152):
 Calls Tryz.prog 98 #[.agg #[.int .i64 10,.bool b,.int .i64 n,.string t,.string x,.slice p len cap],.int .i64 d] w fun e w'=>e=.returned (.bool (zb2 10 b n t x len r0))∧Below w.heap.size w w':=by
 have S:=zaj (k:=10) (b:=b) (n:=n) (t:=t) (x:=x) (p:=p) (len:=len) (cap:=cap) w rfl
 have b0:=zav w (.cells #[.int .i64 10,.bool b,.int .i64 n,.string t,.string x,.slice p len cap] 48)
 have f0:=S.c0
 have f1:=S.c1
 have f2:=S.c2
 have f3:=S.c3
 have f4:=S.c4
 have f5:=S.c5
 rw [fitsK10]
 obtain ⟨r,hr⟩:∃ r,r=(decide ((t.size:Int)≤1048576) && (zcw x && (!b && !(n != 0) && !(decide (0 < len))))):=⟨_,rfl⟩
 rw [← hr]
 have hC:=fun W=>z3u x W (by unfold maxLen;omega)
 obtain ⟨w1,hw1⟩:∃ w1,w1=w.alloc (.cells #[.int .i64 10,.bool b,.int .i64 n,.string t,.string x,.slice p len cap] 48):=⟨_,rfl⟩
 rw [← hw1] at S b0
 have HW:=Lib.hid hw1
 have HR:=Lib.hid hr
 clear hw1 hr
 go_enter Tryz.func98,Tryz.ntmps98
 go_upto_region 9 with fail
 rw [← HW.out]
 clear f0 f1 f2 f3 f4 f5
 have f0:=S.c0
 have f2:=S.c2
 have f3:=S.c3
 have f4:=S.c4
 have HR2:=HR.out
 clear HR
 generalize (n != 0)=nb at HR2 ⊢
 generalize (!t.toList.isEmpty)=tb at HR2 ⊢
 generalize (!x.toList.isEmpty)=xb at HR2 ⊢
 generalize decide (0 < len)=lb at HR2 ⊢
 generalize zcw x=C at HR2 hC ⊢
 have HR3:=Lib.hid HR2
 clear HR2 ht hx
 go_wp2_with (go_at_call 155;(with_reducible refine (hC _).mono ?_);rintro e w' ⟨rfl,rfl⟩)
 all_goals
  go_ret
  exact ⟨by rw [HR3.out];simp_all <;> (intros;omega),b0⟩
def zkz (v:Val) (d:Nat):Prop:=∀ (W:World) (k:Int) (b:Bool) (n:Int) (t x:ByteArray) (q:List Val) (p:Option Addr) (cap:Nat),v=.mk k b n t x q→Fine n t x q.length→Held W (.slice p q.length cap) q→
 Calls Tryz.prog 98 #[.agg #[.int .i64 k,.bool b,.int .i64 n,.string t,.string x,.slice p q.length cap],.int .i64 d] W fun e w'=>e=.returned (.bool (mayP v d))∧Below W.heap.size W w'
theorem refMayX (k:Int) (b:Bool) (n:Int) (t x:ByteArray) (p:Option Addr) (len cap d:Nat) (r0:Bool) (w:World) (hd:(d:Int)≤60) (hk:k < 0∨10 < k):
 Calls Tryz.prog 98 #[.agg #[.int .i64 k,.bool b,.int .i64 n,.string t,.string x,.slice p len cap],.int .i64 d] w fun e w'=>e=.returned (.bool (zb2 k b n t x len r0))∧Below w.heap.size w w':=by
 have S:=zaj (k:=k) (b:=b) (n:=n) (t:=t) (x:=x) (p:=p) (len:=len) (cap:=cap) w rfl
 have b0:=zav w (.cells #[.int .i64 k,.bool b,.int .i64 n,.string t,.string x,.slice p len cap] 48)
 have f0:=S.c0
 have f1:=S.c1
 have f2:=S.c2
 have f3:=S.c3
 have f4:=S.c4
 have f5:=S.c5
 have e:zb2 k b n t x len r0=false:=by
  unfold zb2
  rw [if_neg (by omega),if_neg (by omega),if_neg (by omega),if_neg (by omega),if_neg (by omega),if_neg (by omega),if_neg (by omega),if_neg (by omega),if_neg (by omega),if_neg (by omega)]
 rw [e]
 have e0:(k == 0)=false:=by simp;omega
 have e1:(k == 1)=false:=by simp;omega
 have e2:(k == 2)=false:=by simp;omega
 have e3:(k == 3)=false:=by simp;omega
 have e4:(k == 4)=false:=by simp;omega
 have e5:(k == 5)=false:=by simp;omega
 have e6:(k == 6)=false:=by simp;omega
 have e7:(k == 7)=false:=by simp;omega
 have e8:(k == 8)=false:=by simp;omega
 have e9:(k == 9)=false:=by simp;omega
 have e10:(k == 10)=false:=by simp;omega
 clear hk e
 go_enter Tryz.func98,Tryz.ntmps98
 go_wp2_with fail
 go_ret
 exact ⟨rfl,b0⟩
theorem refMay5 (b:Bool) (n:Int) (t x:ByteArray) (q:List Val) (p:Option Addr) (cap d:Nat) (w:World) (hd:(d:Int)≤60) (hf:Fine n t x q.length) (hl:Held w (.slice p q.length cap) q) (each:d+1≤60→∀ v∈q,zkz v (d+1)):
 Calls Tryz.prog 98 #[.agg #[.int .i64 5,.bool b,.int .i64 n,.string t,.string x,.slice p q.length cap],.int .i64 d] w fun e w'=>e=.returned (.bool (zb2 5 b n t x q.length (decide (q.length≤4096) && decide (d+1≤60) && zd5 q (d+1))))∧Below w.heap.size w w':=by
 obtain ⟨r,hr⟩:∃ r,r=zb2 5 b n t x q.length (decide (q.length≤4096) && decide (d+1≤60) && zd5 q (d+1)):=⟨_,rfl⟩
 rw [← hr]
 have S:=zaj (k:=5) (b:=b) (n:=n) (t:=t) (x:=x) (p:=p) (len:=q.length) (cap:=cap) w rfl
 have b0:=zav w (.cells #[.int .i64 5,.bool b,.int .i64 n,.string t,.string x,.slice p q.length cap] 48)
 obtain ⟨m,hm⟩:∃ m,m=q.length:=⟨_,rfl⟩
 have hr2:r=(decide (m≤4096) && decide (d+1≤60) && zd5 q (d+1) && (!b && !(n != 0) && !(!t.toList.isEmpty) && !(!x.toList.isEmpty))):=by
  rw [hr,hm,show zb2 5 b n t x q.length (decide (q.length≤4096) && decide (d+1≤60) && zd5 q (d+1))=(decide (q.length≤4096) && decide (d+1≤60) && zd5 q (d+1) && zca b n t x 0) from rfl,zds]
  simp
 rw [← hm] at S b0 ⊢
 clear hr
 have f0:=S.c0
 have f1:=S.c1
 have f2:=S.c2
 have f3:=S.c3
 have f4:=S.c4
 have f5:=S.c5
 have HM:=Lib.hid hm
 by_cases hall:((!b && !(n != 0) && !(!t.toList.isEmpty) && !(!x.toList.isEmpty))=true∧m≤4096)∧d+1≤60
 ·obtain ⟨⟨h1,h2⟩,h3⟩:=hall
  rw [h1,decide_eq_true h2,decide_eq_true h3,Bool.true_and,Bool.true_and,Bool.and_true] at hr2
  simp only [Bool.and_eq_true,Bool.not_eq_true',Bool.not_not] at h1
  obtain ⟨⟨⟨rfl,hn0⟩,ht0⟩,hx0⟩:=h1
  have hd1:(d:Int)+1≤60:=by omega
  have HE:=Lib.hid (each h3)
  have HR:=Lib.hid hr2
  have HL:=Lib.hid hl
  have HS:=Lib.hid S
  have h2i:(m:Int)≤4096:=by omega
  clear each hr2 hl hm hf S
  go_enter Tryz.func98,Tryz.ntmps98
  go_wp2_with fail
  go_loopw [10] (fun i wr=>∃ j:Nat,j≤m∧i=.int .i64 j∧Below w.heap.size w wr∧Six wr w.heap.size 5 false n t x p m cap∧Hid (∀ (i:Nat) (h:i < q.length),i < j→mayP q[i] (d+1)=true)) (fun i _=>m - (intOf i).toNat)
  case atStart=>exact ⟨0,Nat.zero_le _,rfl,b0,HS.out,Lib.hid fun _ _ h=>absurd h (by omega)⟩
  case round=>
   clear f0 f1 f2 f3 f4 f5 b0
   obtain ⟨j,hj,rfl,hb,S,HA⟩:=hrel
   have f5:=S.c5
   by_cases hlt:(j:Int) < m
   ·have hj1:j < q.length:=by have:=HM.out;omega
    obtain ⟨g,off,rfl,hh⟩:∃ g off,p=some ⟨g,off,none⟩∧zbp w g off q:=by
     have hq:=HL.out
     cases q with
     | nil=>simp at hj1
     | cons v r=>exact hq.form
    obtain ⟨k1,b1,n1,t1,x1,q1,p1,cp1,o1⟩:=((zbp.at_ q off hh j hj1).below _ hb).opens
    have hc:=HE.out q[j] (List.getElem_mem hj1) wr k1 b1 n1 t1 x1 q1 p1 cp1 o1.e o1.hf o1.hl
    obtain ⟨c,hcc⟩:∃ c,c=mayP q[j] (d+1):=⟨_,rfl⟩
    rw [← hcc] at hc
    have hc':Calls Tryz.prog 98 #[.agg #[.int .i64 k1,.bool b1,.int .i64 n1,.string t1,.string x1,.slice p1 q1.length cp1],.int .i64 ((d:Int)+1)] wr fun e w'=>e=.returned (.bool c)∧Below wr.heap.size wr w':=hc
    have HC:=Lib.hid hcc
    have HC2:=Lib.hid hc'
    clear hc hc' hcc
    have O1:=Lib.hid o1
    clear o1 hh
    cases c with
    | true=>
      go_wp2_with (first
       |((with_reducible refine zax (.tmp 158) g (off+j*6) k1 b1 n1 t1 x1 _ O1.out.c0 O1.out.c1 O1.out.c2 O1.out.c3 O1.out.c4 O1.out.c5 ?_ ?_ ?_ ?_);rfl;rfl;rfl)
       |(go_at_call 98;(with_reducible refine HC2.out.mono ?_);rintro e w3 ⟨rfl,hb3⟩;have b3:=zab hb hb3 hb.size;have S3:=S.below hb3;clear hb3))
      go_roundw
      case rel=>
       refine ⟨j+1,by omega,by go_num,b3,S3,Lib.hid fun i hi hlt'=>?_⟩
       by_cases e:i=j
       ·subst e;exact HC.out.symm
       ·exact HA.out i hi (by omega)
      case measure=>simp [intOf];omega
    | false=>
      go_wp2_with (first
       |((with_reducible refine zax (.tmp 158) g (off+j*6) k1 b1 n1 t1 x1 _ O1.out.c0 O1.out.c1 O1.out.c2 O1.out.c3 O1.out.c4 O1.out.c5 ?_ ?_ ?_ ?_);rfl;rfl;rfl)
       |(go_at_call 98;(with_reducible refine HC2.out.mono ?_);rintro e w3 ⟨rfl,hb3⟩;have b3:=zab hb hb3 hb.size;clear hb3))
      go_ret
      exact ⟨by rw [HR.out,zp5 q (d+1) j hj1 HC.out.symm];rfl,b3⟩
   ·go_wp2_with fail
    go_ret
    exact ⟨by rw [HR.out,znn q (d+1) fun i h=>HA.out i h (by have:=HM.out;omega)];rfl,hb⟩
 ·have hr3:r=false:=by
   rw [hr2,Bool.eq_false_iff]
   intro h
   simp only [Bool.and_eq_true,decide_eq_true_eq] at h hall
   exact hall ⟨⟨⟨⟨⟨h.2.1.1.1,h.2.1.1.2⟩,h.2.1.2⟩,h.2.2⟩,h.1.1.1⟩,h.1.1.2⟩
  subst hr3
  have HALL:=Lib.hid hall
  clear hr2 hall each hl hf hm
  obtain ⟨w1,hw1⟩:∃ w1,w1=w.alloc (.cells #[.int .i64 5,.bool b,.int .i64 n,.string t,.string x,.slice p m cap] 48):=⟨_,rfl⟩
  rw [← hw1] at S b0
  have HW:=Lib.hid hw1
  clear hw1
  go_enter Tryz.func98,Tryz.ntmps98
  go_upto_region 9 with fail
  rw [← HW.out]
  clear f0 f1 f2 f3 f4 f5
  have f5:=S.c5
  have HA:=HALL.out
  generalize (n != 0)=nb at HA ⊢
  generalize (!t.toList.isEmpty)=tb at HA ⊢
  generalize (!x.toList.isEmpty)=xb at HA ⊢
  have HA3:=Lib.hid HA
  clear HA HALL
  go_wp2_with fail
  all_goals
   first
   |(go_ret
     exact ⟨rfl,b0⟩)
   |(exfalso
     have:=HA3.out
     simp_all
     omega)
theorem zv4 (v:Val) (k:Int) (b:Bool) (n:Int) (t x:ByteArray) (q:List Val) (ev:v=.mk k b n t x q) (d:Nat) (hd:d≤60) (each:d+1≤60→∀ u∈q,zkz u (d+1)):zkz v d:=by
 subst ev
 intro W k1 b1 n1 t1 x1 q1 p cap e hf hl
 cases e
 rw [show mayP (.mk k b n t x q) d=zb2 k b n t x q.length (decide (q.length≤4096) && decide (d+1≤60) && zd5 q (d+1)) by conv=>lhs;unfold mayP]
 have hd':(d:Int)≤60:=by omega
 by_cases h0:k=0
 ·subst h0;exact refMay0 b n t x p q.length cap d _ W hd' hf.ht hf.hx
 by_cases h1:k=1
 ·subst h1;exact refMay1 b n t x p q.length cap d _ W hd' hf.ht hf.hx
 by_cases h2:k=2
 ·subst h2;exact refMay2 b n t x p q.length cap d _ W hd' hf.ht hf.hx
 by_cases h3:k=3
 ·subst h3;exact refMay3 b n t x p q.length cap d _ W hd' hf.ht hf.hx
 by_cases h4:k=4
 ·subst h4;exact refMay4 b n t x p q.length cap d _ W hd' hf.ht hf.hx
 by_cases h5:k=5
 ·subst h5;exact refMay5 b n t x q p cap d W hd' hf hl each
 by_cases h6:k=6
 ·subst h6;exact refMay6 b n t x p q.length cap d _ W hd' hf.ht hf.hx
 by_cases h7:k=7
 ·subst h7;exact refMay7 b n t x p q.length cap d _ W hd' hf.ht hf.hx
 by_cases h8:k=8
 ·subst h8;exact refMay8 b n t x p q.length cap d _ W hd' hf.ht hf.hx
 by_cases h9:k=9
 ·subst h9;exact refMay9 b n t x p q.length cap d _ W hd' hf.ht hf.hx
 by_cases h10:k=10
 ·subst h10;exact z1w b n t x p q.length cap d _ W hd' hf.ht hf.hx
 exact refMayX k b n t x p q.length cap d _ W hd' (by omega)
mutual
theorem zrk:(v:Val)→(d:Nat)→d≤60→zkz v d
 | .mk k b n t x q,d,hd=>zv4 _ k b n t x q rfl d hd (fun h=>zo9 q (d+1) h)
theorem zo9:(q:List Val)→(d:Nat)→d≤60→∀ u∈q,zkz u d
 | [],_,_,_,h=>absurd h (by simp)
 | v::r,d,hd,u,h=>by
   rcases List.mem_cons.1 h with h | h
   ·rw [h];exact zrk v d hd
   ·exact zo9 r d hd u h
end
theorem refMay (k:Int) (b:Bool) (n:Int) (t x:ByteArray) (q:List Val) (p:Option Addr) (cap:Nat) (w:World) (hf:Fine n t x q.length) (hl:Held w (.slice p q.length cap) q):
 Calls Tryz.prog 53 #[.agg #[.int .i64 k,.bool b,.int .i64 n,.string t,.string x,.slice p q.length cap]] w fun e w'=>e=.returned (.bool (mayP (.mk k b n t x q) 0))∧Below w.heap.size w w':=by
 obtain ⟨w1,hw1⟩:∃ w1,w1=w.alloc (.cells #[.int .i64 k,.bool b,.int .i64 n,.string t,.string x,.slice p q.length cap] 48):=⟨_,rfl⟩
 have S:Six w1 w.heap.size k b n t x p q.length cap:=by rw [hw1];exact zaj _ rfl
 have b0:Below w.heap.size w w1:=by rw [hw1];exact zav _ _
 have hc:=zrk (.mk k b n t x q) 0 (by omega) w1 k b n t x q p cap rfl hf (Held.below q hl b0)
 have hc':Calls Tryz.prog 98 #[.agg #[.int .i64 k,.bool b,.int .i64 n,.string t,.string x,.slice p q.length cap],.int .i64 0] w1 fun e w'=>e=.returned (.bool (mayP (.mk k b n t x q) 0))∧Below w1.heap.size w1 w':=hc
 have HW:=Lib.hid hw1
 clear hw1 hl hf hc
 generalize mayP (.mk k b n t x q) 0=r at hc' ⊢
 go_enter Tryz.func53,Tryz.ntmps53
 go_wp2_with (first
  |(rw [← HW.out];(with_reducible refine zac (.tmp 1) w.heap.size S ?_ ?_ ?_ ?_);rfl;rfl;rfl)
  |(go_at_call 98;(with_reducible refine hc'.mono ?_);rintro e w3 ⟨rfl,hb3⟩;replace b0:=zab b0 hb3 b0.size))
 go_ret
 exact ⟨rfl,b0⟩
def zpa (w:World) (v:Val) (e:Ending) (w':World):Prop:=∃ A,e=.returned (.tuple #[A,.int .i64 (if mayP v 0 then 0 else 1)])∧Bts w' A (if mayP v 0 then encP v else [])∧Below w.heap.size w w'
theorem Bts.nil0 (w:World):Bts w (.slice none 0 0) []:=⟨none,0,rfl,.inl rfl⟩
theorem z1x (v:Val) (k:Int) (b:Bool) (n:Int) (t x:ByteArray) (q:List Val) (p:Option Addr) (cap:Nat) (w:World) (hG:Gd w) (ev:v=.mk k b n t x q) (hf:Fine n t x q.length) (hl:Held w (.slice p q.length cap) q) (hw:13*wOne v≤800000000):
 Calls Tryz.prog 109 #[.agg #[.int .i64 k,.bool b,.int .i64 n,.string t,.string x,.slice p q.length cap]] w (zpa w v):=by
 obtain ⟨W0,hW0⟩:∃ W0,W0=w.alloc (.cells #[.int .i64 k,.bool b,.int .i64 n,.string t,.string x,.slice p q.length cap] 48):=⟨_,rfl⟩
 have S:Six W0 w.heap.size k b n t x p q.length cap:=by rw [hW0];exact zaj _ rfl
 have b0:Below w.heap.size w W0:=by rw [hW0];exact zav _ _
 have hc:=fun W (h:Below w.heap.size w W)=>zuh v k b n t x q (.slice p q.length cap) W ev (hG.below h) hf.ht hf.hx (Held.below q hl h)
 have he:=fun W (h:Below w.heap.size w W)=>z3t v W W (.slice none 0 0) [] k b n t x q p cap ev hf (Held.below q hl h) (OwnB.start W) (by simpa using hw)
 unfold zc6 at he
 unfold zpa
 have H0:=Lib.hid hW0
 clear hW0 hl hf hG ev
 cases hm:mayP v 0 with
 | false=>
   rw [hm] at hc
   go_enter Tryz.func109,Tryz.ntmps109
   go_wp2_with (first
    |((try rw [← H0.out]);(with_reducible refine zac (.tmp 1) w.heap.size S ?_ ?_ ?_ ?_);rfl;rfl;rfl)
    |(go_at_call 56;(with_reducible refine (hc _ b0).mono ?_);rintro e w' ⟨rfl,hb⟩;replace S:=S.below hb.is;replace b0:=zab b0 hb.is b0.size;clear hb))
   go_ret2
   exact ⟨_,rfl,Bts.nil0 _,b0⟩
 | true=>
   rw [hm] at hc
   go_enter Tryz.func109,Tryz.ntmps109
   go_wp2_with (first
    |((try rw [← H0.out]);(with_reducible refine zac (.tmp 1) w.heap.size S ?_ ?_ ?_ ?_);rfl;rfl;rfl)
    |(go_at_call 56;(with_reducible refine (hc _ b0).mono ?_);rintro e w' ⟨rfl,hb⟩;replace S:=S.below hb.is;replace b0:=zab b0 hb.is b0.size;clear hb)
    |(go_at_call 166;(with_reducible refine (he _ b0).mono ?_);rintro e w3 ⟨A3,rfl,O3⟩;have b3:=zab b0 O3.bel b0.size;have HO:=Lib.hid O3;clear O3))
   go_ret2
   exact ⟨_,rfl,by simpa using HO.out.bts,b3⟩
def bsB (l:List UInt8):ByteArray:=⟨l.toArray⟩
theorem z1y (l:List UInt8):(bsB l).size=l.length:=by show l.toArray.size=_;simp
theorem convB (w2:World) (A:Value) (m:List UInt8) (h:Bts w2 A m):(convert 101 9 A).run Tryz.prog w2=.ok (.string (bsB m)) w2:=by
 obtain ⟨p,cap,rfl,h⟩:=h
 rcases h with rfl | ⟨g,off,rfl,h⟩
 ·cases p with
  | none=>exact run_convert_bytes_nil (P:=Tryz.prog) (w:=w2) 101 5 Tryz.underlying101 Tryz.underlying5 0 cap 9 Tryz.underlying9
  | some a=>exact run_convert_bytes_back (P:=Tryz.prog) w2 101 9 5 a cap [] Tryz.underlying101 Tryz.underlying5 Tryz.underlying9 (fun j hj=>absurd hj (by simp))
 ·exact run_convert_bytes_back (P:=Tryz.prog) w2 101 9 5 ⟨g,off,none⟩ cap m Tryz.underlying101 Tryz.underlying5 Tryz.underlying9 (fun j hj=>by
   rw [Addr.add_mid]
   exact h j _ (by rw [List.getElem?_eq_getElem hj]))
theorem encP_ne (v:Val):encP v≠[]:=by
 cases v
 unfold encP
 simp
theorem z1z (v:Val) (W:World) (c:List Value) (P:Nat→Prop) (h:zdp W P c v) (hG:Gd W) (hm:mayP v 0=true) (hw:13*wOne v≤800000000):
 Calls Tryz.prog 109 #[.agg c.toArray] W fun e w'=>∃ g off cap,e=.returned (.tuple #[.slice (some ⟨g,off,none⟩) (encP v).length cap,.int .i64 0])∧(∀ j u,(vals (encP v))[j]?=some u→w'.cell? ((⟨g,off,none⟩:Addr).add j)=some u)∧Below W.heap.size W w':=by
 obtain ⟨k,b,n,t,x,q⟩:=v
 obtain ⟨L,rfl,hf,hq⟩:=h
 obtain ⟨p,cap,rfl⟩:=zb4 (zbe.held q hq)
 refine (z1x _ k b n t x q p cap W hG rfl hf (zbe.held q hq) hw).mono ?_
 rintro e w' ⟨A,rfl,hb,hbel⟩
 rw [hm] at hb ⊢
 simp only [if_true] at hb ⊢
 obtain ⟨p2,cap2,rfl,hb⟩:=hb
 rcases hb with hb | ⟨g,off,rfl,hb⟩
 ·exact absurd hb (encP_ne _)
 ·refine ⟨g,off,cap2,rfl,fun j u hu=>?_,hbel⟩
  unfold vals at hu
  rw [List.getElem?_map] at hu
  cases hc:(encP (.mk k b n t x q))[j]? with
  | none=>rw [hc] at hu;cases hu
  | some c=>
    rw [hc] at hu
    cases hu
    rw [Addr.add_mid]
    exact hb j c hc
theorem zy1 (r:List Val) (j:Nat) (hj:j < r.length):(zao (r.take j)).length+(encP r[j]).length≤13*wAll r:=by
 have h1:=zdg (r.take j)
 have h2:=zum r[j]
 have h3:=znu r j hj
 omega
theorem zig (r:List Val) (u:Value) (W:World) (hG:Gd W) (h:zai valE W (Old W) u r) (hm:∀ v∈r,mayP v 0=true) (hw:13*wAll r≤700000000) (hn:r.length≤2097152):
 Calls Tryz.prog 69 #[u] W fun e w'=>e=.returned (.string (bsB (zao r)))∧Below W.heap.size W w':=by
 obtain ⟨i0,hi,hz0,hz1,hz2⟩:=info_parts zf0
 obtain ⟨n,hln⟩:∃ n,n=r.length:=⟨_,rfl⟩
 obtain ⟨p,cap,rfl⟩:=h.slice
 obtain ⟨ans,hans⟩:∃ a,a=zao r:=⟨_,rfl⟩
 rw [← hans]
 rw [← hln] at hn
 have HL:=Lib.hid hln
 have HH:=Lib.hid h
 have HM:=Lib.hid hm
 have HG:=Lib.hid hG
 have HN:=Lib.hid hans
 have HWt:=Lib.hid hw
 rw [← hln]
 clear h hln hm hG hans hw
 go_enter Tryz.func69,Tryz.ntmps69
 go_wp2_with fail
 go_loopg [3,10] n (fun gg s3 s10 wr=>∃ (j:Nat) (l:List UInt8),j+gg=n∧s10=.int .i64 j∧Hid (l=zao (r.take j))∧Hid (OwnB W s3 l wr))
 case atStart=>exact ⟨0,[],by omega,rfl,Lib.hid (by simp [zao]),Lib.hid (OwnB.start W)⟩
 case round=>
  obtain ⟨j,l,hjg,rfl,HLL,HO⟩:=hrel
  by_cases hlt:(j:Int) < n
  ·have hj1:j < r.length:=by have:=HL.out;omega
   have hbel:=HO.out.bel
   obtain ⟨g,off,cap',c,e0,hg,hrl,hra⟩:=(HH.out.stays (zae hbel)).at_ j hj1
   injection e0 with e1 e2 e3
   subst e1
   replace hra:wr.rangeAt g (off+j*6) c:=hra
   have hlen:c.length=6:=valE.len hrl
   have hbs:=hbel.size
   have hone:=valE.one hrl
   obtain ⟨v,hv⟩:∃ v,v=r[j]:=⟨_,rfl⟩
   have hle:=zy1 r j hj1
   rw [← hv] at hle hrl
   rw [← HLL.out] at hle
   have hmv:=HM.out v (by rw [hv];exact List.getElem_mem hj1)
   have hwv:13*wOne v≤800000000:=by
    have:=zqd (l:=r) (v:=v) (by rw [hv];exact List.getElem_mem hj1)
    have:=HWt.out
    omega
   have hsum:l.length+(encP v).length≤700000000:=by have:=HWt.out;omega
   have HNX:Hid (l++encP v=zao (r.take (j+1))):=Lib.hid (by rw [zi5 r j hj1,HLL.out,hv])
   have HR:=Lib.hid (And.intro hrl hra)
   clear hrl hra e2 e3 hbel hle hv
   go_upto_region 5 with (first
    |((with_reducible refine za3 (.tmp 12) g (off+j*6) 48 c 6 _ HR.out.2 hlen Tryz.underlying48 rfl zap ?_ ?_ ?_ ?_);rfl;rfl;rfl)
    |((with_reducible refine zar (.tmp 5) (.tmp 13) wr.heap.size 48 48 _ c 6 (zaf _ _ rfl) hlen ?_ ?_ ?_ ?_ zap rfl hone ?_);rfl;rfl;rfl;rfl;intro wX oX hX))
   have bX:Below wr.heap.size wr wX:=zam (zav wr _) oX (Nat.le_refl _) (by simp)
   have bWX:Below W.heap.size W wX:=HO.out.bel.trans (bX.mono hbs)
   have hcall:=z1z v wX c (Old wX) (valE.stays (zae bX) HR.out.1) (HG.out.below bWX) hmv hwv
   have HC:=Lib.hid hcall
   have hOX:=HO.out.after bX
   clear oX bX bWX hcall HO
   go_wp2_with (first
    |((with_reducible refine zah (.tmp 5) wr.heap.size 48 48 c 6 _ hX hlen Tryz.underlying48 rfl zap ?_ ?_ ?_ ?_);rfl;rfl;rfl)
    |(go_at_call 109;(with_reducible refine HC.out.mono ?_);rintro e w3 ⟨ge,oe,ke,rfl,hce,hb3⟩
      have hO3:=hOX.after hb3
      have hown:=hO3.own
      have hlo:=hO3.lo)
    |(at_builtin;refine wpList_append_own_at _ rfl _ _ 101 rfl W.heap.size 5 i0 (.int .u8 0) 1 1 Tryz.underlying101 hi hz0 hz1 hz2 rfl (by decide) _ _ _ rfl hown ⟨ge,oe,none⟩ (encP v).length ke (vals (encP v)) rfl (by rw [zs5,Nat.mul_one]) hce (by intro u hu;unfold vals at hu;obtain ⟨b,_,rfl⟩:=List.mem_map.1 hu;rfl) (by unfold maxLen;omega) (by omega) hlo ?_))
   intro v' w5 hown' hgrow _ hloc
   have hO5:OwnB W v' (l++encP v) w5:=hO3.say hown' hgrow (by simp) (by rw [zba])
   have HO5:=Lib.hid hO5
   clear hO5 hown' hgrow hloc hO3 hown hce hb3 hOX hX
   go_wp2_with fail
   go_roundg (gk - 1)
   case measure=>omega
   case rel=>exact ⟨j+1,l++encP v,by omega,by go_num,HNX,HO5⟩
  ·have e:l=ans:=by rw [HLL.out,HN.out,List.take_of_length_le];have:=HL.out;omega
   subst e
   have hconv:=convB wr _ l HO.out.bts
   have HB:=Lib.hid HO.out.bel
   clear HO HN
   go_wp2_with fail
   go_ret
   exact ⟨rfl,HB.out⟩
section
def zmy (v:Value):Option (DataW Value × List MemPlace):=some (.held v,[])
def HMap (w:World) (P:Program) (k:TypeId) (b n:Nat) (f:Lit→Option Value):Prop:=
 ∃ D,w.ownsMap P k zmy b n D∧∀ kl,WideAt.IsKeyLit kl→Maps.has D kl=(f kl).isSome∧∀ z,D.atKey kl (.held z)=.held ((f kl).getD z)
open Classical in
noncomputable def updH (f:Lit→Option Value) (k:Lit) (v:Value):Lit→Option Value:=fun x=>if x=k then some v else f x
theorem zer (f:Lit→Option Value) (k:Lit) (v:Value):updH f k v k=some v:=by unfold updH;exact if_pos rfl
theorem zdi {f:Lit→Option Value} {k x:Lit} {v:Value} (h:x≠k):updH f k v x=f x:=by unfold updH;exact if_neg h
section
variable {w w':World} {P:Program} {k:TypeId} {b n:Nat} {f:Lit→Option Value}
theorem HMap.made (w:World) (P:Program) (k:TypeId):HMap (w.alloc (.map #[] 0)) P k w.heap.size 0 (fun _=>none):=
 ⟨_,World.ownsMap_made w P k zmy,fun _ _=>⟨rfl,fun _=>rfl⟩⟩
theorem HMap.lt (h:HMap w P k b n f):b < w.heap.size:=by obtain ⟨D,h,_⟩:=h;exact h.lt
theorem HMap.block (h:HMap w P k b n f):∃ es clock,w.heap[b]?=some (.map es clock):=by obtain ⟨D,⟨es,c,e,_⟩,_⟩:=h;exact ⟨es,c,e⟩
theorem HMap.keep (h:HMap w P k b n f) (e:w'.heap[b]?=w.heap[b]?):HMap w' P k b n f:=by
 obtain ⟨D,⟨es,c,h1,h2,h3,h4⟩,r⟩:=h
 exact ⟨D,⟨es,c,e.trans h1,h2,h3,h4⟩,r⟩
theorem HMap.look_ok {t e:TypeId} (h:HMap w P k b n f) (K:Go.Maps.Keyed P k) (ht:P.underlying t=some (.map k e)) {z:Value} (hz:(zeroValue e).run P w=.ok z w) {key:Value} {kl:Lit} (hkey:keyOf P k key=some kl) (hl:WideAt.IsKeyLit kl):
 (Instr.lookup t (.map (some b)) key true).run P w=.ok (.tuple #[(f kl).getD z,.bool (f kl).isSome]) w:=by
 obtain ⟨D,h,r⟩:=h
 obtain ⟨v,ps,hrun,hv⟩:=h.look_ok K ht hz (zd:=.held z) (zp:=[]) rfl hkey
 rw [(r kl hl).1] at hrun
 rw [(r kl hl).2 z] at hv
 simp only [zmy,Option.some.injEq,Prod.mk.injEq,DataW.held.injEq] at hv
 rw [hrun,hv.1]
theorem HMap.look {t e:TypeId} (h:HMap w P k b n f) (K:Go.Maps.Keyed P k) (ht:P.underlying t=some (.map k e)) {z:Value} (hz:(zeroValue e).run P w=.ok z w) {key:Value} {kl:Lit} (hkey:keyOf P k key=some kl) (hl:WideAt.IsKeyLit kl):
 (Instr.lookup t (.map (some b)) key false).run P w=.ok ((f kl).getD z) w:=by
 obtain ⟨D,h,r⟩:=h
 obtain ⟨v,ps,hrun,hv⟩:=h.lookup K ht hz (zd:=.held z) (zp:=[]) rfl hkey
 rw [(r kl hl).2 z] at hv
 simp only [zmy,Option.some.injEq,Prod.mk.injEq,DataW.held.injEq] at hv
 rw [hrun,hv.1]
theorem HMap.update {t e:TypeId} (h:HMap w P k b n f) (K:Go.Maps.Keyed P k) (ht:P.underlying t=some (.map k e)) (hn:n < maxLen) {key:Value} {kl:Lit} (hkey:keyOf P k key=some kl) (hl:WideAt.IsKeyLit kl) (v:Value):
 ∃ w',(Instr.mapUpdate t (.map (some b)) key v).run P w=.ok () w'∧HMap w' P k b (n+1) (updH f kl v)∧w.grownBy w' (some b):=by
 obtain ⟨D,h,r⟩:=h
 obtain ⟨w',hrun,h',g⟩:=h.update K ht hn hkey (d:=.held v) (ps:=[]) rfl
 refine ⟨w',hrun,⟨_,h',fun x hx=>?_⟩,g⟩
 by_cases e:x=kl
 ·subst e
  rw [zer,Maps.has_put_same h.isMap hl]
  exact ⟨rfl,fun z=>Maps.atKey_put_same h.isMap hl _ _⟩
 ·rw [zdi e,Maps.has_put_other e]
  exact ⟨(r x hx).1,fun z=>by rw [Maps.atKey_put_other e];exact (r x hx).2 z⟩
end
section
variable {P:Program} {w:World} {ops:Array Oper} {rest:List Oper} {o:Oper} {a:Act} {Q:Exit→Act→World→Prop} {f:Lit→Option Value}
theorem zcs (hg:o.guard=none) (m x:Operand) (t:TypeId) (hop:o.op=Op.lookup t m x false) (k e:TypeId) (K:Go.Maps.Keyed P k) (ht:P.underlying t=some (.map k e)) {z:Value} (hz:(zeroValue e).run P w=.ok z w) (b n:Nat)
 (hm:a.eval m=.map (some b)) (hown:HMap w P k b n f) (key:Value) (kl:Lit) (hx:a.eval x=key) (hkey:keyOf P k key=some kl) (hl:WideAt.IsKeyLit kl)
 (hK:wpList P ops Q rest (a.put o.dst ((f kl).getD z)) w):wpList P ops Q (o::rest) a w:=by
 refine wpList_plain hg fun K' hK'=>?_
 have hrun:=hown.look K ht hz hkey hl
 unfold Oper.wp
 simp [execOp,hop,hm,hx,hrun,Result.andThen]
 exact hK' _ _ hK
theorem zi6 (hg:o.guard=none) (m x:Operand) (t:TypeId) (hop:o.op=Op.lookup t m x true) (k e:TypeId) (K:Go.Maps.Keyed P k) (ht:P.underlying t=some (.map k e)) {z:Value} (hz:(zeroValue e).run P w=.ok z w) (b n:Nat)
 (hm:a.eval m=.map (some b)) (hown:HMap w P k b n f) (key:Value) (kl:Lit) (hx:a.eval x=key) (hkey:keyOf P k key=some kl) (hl:WideAt.IsKeyLit kl)
 (hK:wpList P ops Q rest (a.put o.dst (.tuple #[(f kl).getD z,.bool (f kl).isSome])) w):wpList P ops Q (o::rest) a w:=by
 refine wpList_plain hg fun K' hK'=>?_
 have hrun:=hown.look_ok K ht hz hkey hl
 unfold Oper.wp
 simp [execOp,hop,hm,hx,hrun,Result.andThen]
 exact hK' _ _ hK
theorem zdt (hg:o.guard=none) (m x v:Operand) (t:TypeId) (hop:o.op=Op.mapUpdate t m x v) (k e:TypeId) (K:Go.Maps.Keyed P k) (ht:P.underlying t=some (.map k e)) (b n:Nat)
 (hm:a.eval m=.map (some b)) (hown:HMap w P k b n f) (hn:n < maxLen) (key val:Value) (kl:Lit) (hx:a.eval x=key) (hv:a.eval v=val) (hkey:keyOf P k key=some kl) (hl:WideAt.IsKeyLit kl)
 (hK:∀ w',HMap w' P k b (n+1) (updH f kl val)→w.grownBy w' (some b)→wpList P ops Q rest (a.put o.dst undef) w'):wpList P ops Q (o::rest) a w:=by
 refine wpList_plain hg fun K' hK'=>?_
 obtain ⟨w',hrun,r1,r2⟩:=hown.update K ht hn hkey hl val
 unfold Oper.wp
 simp [execOp,hop,hm,hx,hv,hrun,Result.andThen]
 exact hK' _ _ (hK w' r1 r2)
end
end
def grp {κ:Type} [DecidableEq κ] (E:List (κ × Int)) (x:κ):List Int:=(E.filter fun e=>decide (e.1=x)).map (·.2)
theorem zup {κ:Type} [DecidableEq κ] (E:List (κ × Int)) (y:κ) (i:Int) (x:κ):grp (E++[(y,i)]) x=if y=x then grp E x++[i] else grp E x:=by
 unfold grp
 rw [List.filter_append,List.map_append]
 by_cases h:y=x <;> simp [h]
theorem zy2 {κ:Type} [DecidableEq κ] (E:List (κ × Int)) (x:κ):(grp E x).length≤E.length:=by
 unfold grp
 rw [List.length_map]
 exact List.length_filter_le _ _
def zy3 {κ:Type} [DecidableEq κ] (kt:TypeId) (K:κ→Lit) (w:World) (base b:Nat) (E:List (κ × Int)):Prop:=
 ∃ n f,n≤E.length∧HMap w Tryz.prog kt b n f∧(∀ x,(f (K x)=none∧grp E x=[])∨∃ v,f (K x)=some v∧w.ownsRow base 3 1 v (grp E x).length ((grp E x).map (Value.int .i64)))∧
  ∀ x y v u g,x≠y→f (K x)=some v→f (K y)=some u→v.ownBlock=some g→u.ownBlock≠some g
section
variable {κ:Type} [DecidableEq κ] {kt:TypeId} {K:κ→Lit} {w w':World} {base b:Nat} {E:List (κ × Int)}
theorem zy3.keep (h:zy3 kt K w base b E) (hk:∀ i,(i=b∨base≤i)→i < w.heap.size→w'.heap[i]?=w.heap[i]?):zy3 kt K w' base b E:=by
 obtain ⟨n,f,h1,h2,h3,h4⟩:=h
 refine ⟨n,f,h1,h2.keep (hk b (.inl rfl) h2.lt),fun x=>?_,h4⟩
 rcases h3 x with h | ⟨v,e,ho⟩
 ·exact .inl h
 ·exact .inr ⟨v,e,zbf ho fun g q=>hk g (.inr (ho.lt g q).1) (ho.lt g q).2⟩
theorem zpb {f:Lit→Option Value} (h3:∀ x,(f (K x)=none∧grp E x=[])∨∃ v,f (K x)=some v∧w.ownsRow base 3 1 v (grp E x).length ((grp E x).map (Value.int .i64))) (x:κ):
 w.ownsRow base 3 1 ((f (K x)).getD (.slice none 0 0)) (grp E x).length ((grp E x).map (Value.int .i64)):=by
 rcases h3 x with ⟨e,q⟩ | ⟨v,e,ho⟩
 ·rw [e,q]
  exact World.ownsRow_nil _ _ _ _
 ·rw [e]
  exact ho
theorem zv5 {w5 w6 w7:World} {f:Lit→Option Value} {x:κ} {i:Int} {v':Value} (inj:∀ x y,K x=K y→x=y) (hb:b < base)
 (h3:∀ x,(f (K x)=none∧grp E x=[])∨∃ v,f (K x)=some v∧w.ownsRow base 3 1 v (grp E x).length ((grp E x).map (Value.int .i64)))
 (h4:∀ x y v u g,x≠y→f (K x)=some v→f (K y)=some u→v.ownBlock=some g→u.ownBlock≠some g) (b5:Below w.heap.size w w5)
 (ho:w6.ownsRow base 3 1 v' ((grp E x).length+1) ((grp E x).map (Value.int .i64)++[.int .i64 i])) (hg6:w5.grownBy w6 ((f (K x)).getD (.slice none 0 0)).ownBlock)
 (hloc:v'.ownBlock=((f (K x)).getD (.slice none 0 0)).ownBlock∨v'.ownBlock=some w5.heap.size) (hg7:w6.grownBy w7 (some b)):(∀ y,(updH f (K x) v' (K y)=none∧grp (E++[(x,i)]) y=[])∨∃ v,updH f (K x) v' (K y)=some v∧w7.ownsRow base 3 1 v (grp (E++[(x,i)]) y).length ((grp (E++[(x,i)]) y).map (Value.int .i64)))∧
 ∀ y z v u g,y≠z→updH f (K x) v' (K y)=some v→updH f (K x) v' (K z)=some u→v.ownBlock=some g→u.ownBlock≠some g:=by
 have low:∀ {u:Value} {m:Nat} {xs:List Value} {W:World},W.ownsRow base 3 1 u m xs→∀ g,u.ownBlock=some g→some b≠some g:=fun h g e q=>by
  have:=(h.lt g e).1
  cases q
  omega
 have apart:∀ y u,y≠x→f (K y)=some u→w.ownsRow base 3 1 u (grp E y).length ((grp E y).map (Value.int .i64))→∀ g,u.ownBlock=some g→((f (K x)).getD (.slice none 0 0)).ownBlock≠some g∧v'.ownBlock≠some g:=fun y u hne e hu g hgu=>by
  have a1:((f (K x)).getD (.slice none 0 0)).ownBlock≠some g:=by
   cases q:f (K x) with
   | none=>intro r;cases r
   | some v=>exact h4 y x u v g hne e q hgu
  refine ⟨a1,?_⟩
  rcases hloc with r | r
  ·rw [r];exact a1
  ·rw [r]
   intro q
   have:=(hu.lt g hgu).2
   have:=b5.size
   cases q
   omega
 refine ⟨fun y=>?_,fun y z v u g hne ey ez hv=>?_⟩
 ·by_cases e:y=x
  ·subst e
   refine .inr ⟨v',zer _ _ _,?_⟩
   rw [zup,if_pos rfl,List.length_append,List.map_append]
   exact zc2 ho hg7 (fun g q=>low ho g q)
  ·have ne:K y≠K x:=fun q=>e (inj _ _ q)
   rw [zdi ne,zup,if_neg (fun q=>e q.symm)]
   rcases h3 y with h | ⟨u,eu,hu⟩
   ·exact .inl h
   ·refine .inr ⟨u,eu,?_⟩
    have k5:w5.ownsRow base 3 1 u (grp E y).length ((grp E y).map (Value.int .i64)):=zbf hu fun g q=>b5.block g (hu.lt g q).2
    exact zc2 (zc2 k5 hg6 (fun g q=>(apart y u e eu hu g q).1)) hg7 (fun g q=>low hu g q)
 ·have full:∀ y,f (K y)=some v∨True:=fun _=>.inr trivial
  by_cases e1:y=x
  ·subst e1
   rw [zer] at ey
   cases ey
   have ne:K z≠K y:=fun q=>hne (inj _ _ q).symm
   rw [zdi ne] at ez
   rcases h3 z with ⟨q,_⟩ | ⟨u',eu,hu⟩
   ·rw [q] at ez;cases ez
   ·rw [ez] at eu
    cases eu
    intro q
    exact (apart z u (fun q=>hne q.symm) ez hu g q).2 hv
  ·have ne1:K y≠K x:=fun q=>e1 (inj _ _ q)
   rw [zdi ne1] at ey
   by_cases e2:z=x
   ·subst e2
    rw [zer] at ez
    cases ez
    rcases h3 y with ⟨q,_⟩ | ⟨u',eu,hu⟩
    ·rw [q] at ey;cases ey
    ·rw [ey] at eu
     cases eu
     exact (apart y v e1 ey hu g hv).2
   ·have ne2:K z≠K x:=fun q=>e2 (inj _ _ q)
    rw [zdi ne2] at ez
    exact h4 y z v u g hne ey ez hv
end
def zed (w:World) (base b:Nat) (E:List (List UInt8 × Int)) (Av:Nat→Prop):Prop:=
 ∃ n f,n≤E.length∧HMap w Tryz.prog 9 b n f∧(∀ x,(f (.string x)=none∧grp E x=[])∨∃ v,f (.string x)=some v∧w.ownsRow base 3 1 v (grp E x).length ((grp E x).map (Value.int .i64)))∧
  (∀ x y v u g,x≠y→f (.string x)=some v→f (.string y)=some u→v.ownBlock=some g→u.ownBlock≠some g)∧∀ x v g,f (.string x)=some v→v.ownBlock=some g→¬ Av g
theorem zih:∀ x y,Lit.string x=Lit.string y→x=y:=fun x y e=>by injection e
theorem zed.start {w:World} {base b:Nat} {Av:Nat→Prop} (h:w.heap[b]?=some (.map #[] 0)):zed w base b [] Av:=by
 obtain ⟨D,⟨es,cl,e,r⟩,q⟩:=HMap.made w Tryz.prog 9
 have e2:(w.alloc (.map #[] 0)).heap[w.heap.size]?=some (.map #[] 0):=zaf _ _ rfl
 rw [e2] at e
 cases e
 exact ⟨0,_,Nat.le_refl _,⟨D,⟨#[],0,h,r⟩,q⟩,fun x=>.inl ⟨rfl,rfl⟩,(fun _ _ _ _ _ _ h=>by cases h),fun _ _ _ h=>by cases h⟩
theorem zed.keep {w w':World} {base b:Nat} {E:List (List UInt8 × Int)} {Av Av':Nat→Prop} (h:zed w base b E Av) (hk:∀ i,(i=b∨base≤i∧¬ Av i)→i < w.heap.size→w'.heap[i]?=w.heap[i]?) (ha:∀ i,i < w.heap.size→¬ Av i→¬ Av' i):zed w' base b E Av':=by
 obtain ⟨n,f,h1,h2,h3,h4,h5⟩:=h
 refine ⟨n,f,h1,h2.keep (hk b (.inl rfl) h2.lt),fun x=>?_,h4,fun x v g e q=>?_⟩
 ·rcases h3 x with h | ⟨v,e,ho⟩
  ·exact .inl h
  ·exact .inr ⟨v,e,zbf ho fun g q=>hk g (.inr ⟨(ho.lt g q).1,h5 x v g e q⟩) (ho.lt g q).2⟩
 ·rcases h3 x with ⟨e2,_⟩ | ⟨v2,e2,ho⟩
  ·rw [e] at e2;cases e2
  ·rw [e] at e2
   cases e2
   exact ha g (ho.lt g q).2 (h5 x v g e q)
theorem zqg {P:Program} {ops:Array Oper} {S:World→Prop} {o:Oper} {a:Act} {f:Lit→Option Value} (hw:Region.wanted o (yielded ops a.tmps)=true) (m x:Operand) (t:TypeId) (hop:o.op=Op.lookup t m x false) (k e:TypeId) (K:Go.Maps.Keyed P k) (ht:P.underlying t=some (.map k e)) {z:Value} (hz:∀ w,(zeroValue e).run P w=.ok z w) (b n:Nat)
 (hm:a.eval m=.map (some b)) (hown:∀ w,S w→HMap w P k b n f) (key:Value) (kl:Lit) (hx:a.eval x=key) (hkey:keyOf P k key=some kl) (hl:WideAt.IsKeyLit kl):YieldsIf P ops S o ((f kl).getD z) a:=
 .inl ⟨hw,fun w h=>by
  have hrun:=(hown w h).look K ht (hz w) hkey hl
  simp [execOp,hop,hm,hx,hrun,Result.andThen]⟩
theorem zom {P:Program} {w:World} {o:Oper} {a:Act} {K':Act→World→Prop} {Q:Exit→Act→World→Prop} {f:Lit→Option Value} (m x v:Operand) (t:TypeId) (hop:o.op=Op.mapUpdate t m x v) (k e:TypeId) (K:Go.Maps.Keyed P k) (ht:P.underlying t=some (.map k e)) (b n:Nat)
 (hm:a.eval m=.map (some b)) (hown:HMap w P k b n f) (hn:n < maxLen) (key val:Value) (kl:Lit) (hx:a.eval x=key) (hv:a.eval v=val) (hkey:keyOf P k key=some kl) (hl:WideAt.IsKeyLit kl)
 (hK:∀ w',HMap w' P k b (n+1) (updH f kl val)→w.grownBy w' (some b)→K' (a.put o.dst undef) w'):o.wp P a w K' Q:=by
 obtain ⟨w',hrun,r1,r2⟩:=hown.update K ht hn hkey hl val
 unfold Oper.wp
 simp [execOp,hop,hm,hx,hv,hrun,Result.andThen]
 exact hK w' r1 r2
theorem bl_bsB (l:List UInt8):bl (bsB l)=l:=by unfold bl bsB;simp
theorem keyB {l:List UInt8} (h:l.length≤900000000):keyOf Tryz.prog 9 (.string (bsB l))=some (.string l):=by
 have:=Go.WideMaps.keyOf_string_mk (P:=Tryz.prog) (s:=bsB l) Tryz.underlying9 (by rw [z1y];unfold maxLen;omega)
 rw [this]
 show some (Lit.string (bl (bsB l)))=_
 rw [bl_bsB]
def zby (sh:List (Nat × Nat)) (r:List Val):List Val:=(sh.map (·.1)).map (atV r)
def zbh (sh:List (Nat × Nat)) (r:List Val):List Val:=(sh.map (·.2)).map (atV r)
def evI (sh:List (Nat × Nat)) (rows:List (List Val)):List (List UInt8 × Int):=rows.zipIdx.filterMap fun p=>if (zbh sh p.1).all isB then some (zao (zbh sh p.1),(p.2:Int)) else none
def zbi (sh:List (Nat × Nat)) (rows:List (List Val)):List Int:=rows.zipIdx.filterMap fun p=>if (zbh sh p.1).all isB then none else some (p.2:Int)
theorem evI_yes {sh:List (Nat × Nat)} {rows:List (List Val)} {j:Nat} (hj:j < rows.length) (h:(zbh sh rows[j]).all isB=true):evI sh (rows.take (j+1))=evI sh (rows.take j)++[(zao (zbh sh rows[j]),(j:Int))]∧zbi sh (rows.take (j+1))=zbi sh (rows.take j):=by
 unfold evI zbi
 rw [List.take_succ_eq_append_getElem hj,List.zipIdx_append,List.filterMap_append,List.filterMap_append,List.length_take]
 have e:∀ k,([rows[j]].zipIdx k)=[(rows[j],k)]:=fun _=>rfl
 rw [e]
 have hmn:0+min j rows.length=j:=by omega
 constructor
 ·simp only [List.filterMap_cons,List.filterMap_nil,h,if_true,hmn]
 ·simp only [List.filterMap_cons,List.filterMap_nil,h,if_true,List.append_nil]
theorem evI_no {sh:List (Nat × Nat)} {rows:List (List Val)} {j:Nat} (hj:j < rows.length) (h:(zbh sh rows[j]).all isB=false):evI sh (rows.take (j+1))=evI sh (rows.take j)∧zbi sh (rows.take (j+1))=zbi sh (rows.take j)++[(j:Int)]:=by
 unfold evI zbi
 rw [List.take_succ_eq_append_getElem hj,List.zipIdx_append,List.filterMap_append,List.filterMap_append,List.length_take]
 have e:∀ k,([rows[j]].zipIdx k)=[(rows[j],k)]:=fun _=>rfl
 rw [e]
 have hmn:0+min j rows.length=j:=by omega
 constructor
 ·simp only [List.filterMap_cons,List.filterMap_nil,h,Bool.false_eq_true,if_false,List.append_nil]
 ·simp only [List.filterMap_cons,List.filterMap_nil,h,Bool.false_eq_true,if_false,hmn]
theorem znz (sh:List (Nat × Nat)) (rows:List (List Val)):(evI sh rows).length≤rows.length∧(zbi sh rows).length≤rows.length:=by
 unfold evI zbi
 constructor
 ·refine Nat.le_trans (List.length_filterMap_le _ _) ?_
  rw [List.length_zipIdx]
  exact Nat.le_refl _
 ·refine Nat.le_trans (List.length_filterMap_le _ _) ?_
  rw [List.length_zipIdx]
  exact Nat.le_refl _
theorem zh7:(Tryz.prog.info? 90).map (·.size)=some 5:=by kernel_rfl
theorem zk0 {A B R M L:Value} (hA:A.oneCell'=true) (hB:B.oneCell'=true) (hR:R.oneCell'=true) (hM:M.oneCell'=true) (hL:L.oneCell'=true):∀ u∈[A,B,R,M,L],u.oneCell'=true:=by
 intro u hu
 simp only [List.mem_cons,List.mem_nil_iff,or_false] at hu
 rcases hu with rfl | rfl | rfl | rfl | rfl <;> assumption
structure IxIn (sh:List (Nat × Nat)) (rows:List (List Val)) (A B R:Value) (mb:Nat) (L:Value) (P:Nat→Prop) (w:World):Prop where
 shd:ShIn w P sh A B
 rws:zai rowE w P R rows
 map:P mb∧∃ n f,n≤rows.length∧HMap w Tryz.prog 9 mb n f∧∀ x,zai intE w P ((f (.string x)).getD (.slice none 0 0)) (grp (evI sh rows) x)∧capK ((f (.string x)).getD (.slice none 0 0))
 loose:zai intE w P L (zbi sh rows)∧capK L
theorem IxIn.stays {sh:List (Nat × Nat)} {rows:List (List Val)} {A B R:Value} {mb:Nat} {L:Value} {P P':Nat→Prop} {w w':World} (h:IxIn sh rows A B R mb L P w) (s:zel P P' w w'):IxIn sh rows A B R mb L P' w':=by
 obtain ⟨h1,h2,⟨h0,n,f,h3,h4,h5⟩,h6,h7⟩:=h
 exact ⟨h1.stays s,h2.stays s,⟨(s mb h0).1,n,f,h3,h4.keep (s mb h0).2,fun x=>⟨(h5 x).1.stays s,(h5 x).2⟩⟩,h6.stays s,h7⟩
structure IxS (W2:World) (b5 mb:Nat) (A B R:Value) (E:List (List UInt8 × Int)) (L:Value) (lo:List Int) (wr:World):Prop where
 cell:wr.heap[b5]?=some (.cells #[A,B,R,.map (some mb),L] 90)
 grp:zed wr W2.heap.size mb E (fun g=>L.ownBlock=some g)
 loose:wr.ownsRow W2.heap.size 3 1 L lo.length (lo.map (Value.int .i64))
 kept:Kept (fun i=>i=b5∨i=mb) W2 wr
def zy4 (W:World) (sh:List (Nat × Nat)) (rows:List (List Val)) (A B R:Value) (e:Ending) (w':World):Prop:=
 ∃ mb L,e=.returned (.agg #[A,B,R,.map (some mb),L])∧IxIn sh rows A B R mb L (Old w') w'∧L.oneCell'=true∧Below W.heap.size W w'
theorem zc4 {w:World} {base:Nat} {V:Value} {zs:List Int} (P:Nat→Prop) (h:w.ownsRow base 3 1 V zs.length (zs.map (Value.int .i64))) (hz:∀ z∈zs,(Lit.int .i64 z).wf=true) (hP:∀ g,V.ownBlock=some g→P g):zai intE w P V zs:=
 zbm (E:=intE) (P:=fun _=>False) h (rowI zs hz) (fun g h=>h.elim) hP
where rowI:(zs:List Int)→(∀ z∈zs,(Lit.int .i64 z).wf=true)→RowE intE w (fun _=>False) (zs.map (Value.int .i64)) zs
 | [],_=>RowE.nil
 | z::l,h=>by
   show RowE intE w _ (Value.int .i64 z::l.map _) (z::l)
   unfold RowE
   exact ⟨[.int .i64 z],_,rfl,⟨rfl,h z (by simp)⟩,rowI l fun y hy=>h y (by simp [hy])⟩
theorem ztb (sh:List (Nat × Nat)) (rows:List (List Val)):(∀ e∈evI sh rows,∃ i:Nat,e.2=i∧i < rows.length)∧∀ z∈zbi sh rows,∃ i:Nat,z=i∧i < rows.length:=by
 constructor
 ·intro e he
  obtain ⟨p,hp,h⟩:=List.mem_filterMap.1 he
  have hi:=(List.mem_zipIdx' hp).1
  split at h
  ·cases h;exact ⟨p.2,rfl,hi⟩
  ·cases h
 ·intro z hz
  obtain ⟨p,hp,h⟩:=List.mem_filterMap.1 hz
  have hi:=(List.mem_zipIdx' hp).1
  split at h
  ·cases h
  ·cases h;exact ⟨p.2,rfl,hi⟩
theorem grp_nat (sh:List (Nat × Nat)) (rows:List (List Val)) (x:List UInt8):∀ z∈grp (evI sh rows) x,∃ i:Nat,z=i∧i < rows.length:=by
 intro z hz
 obtain ⟨e,he,rfl⟩:=List.mem_map.1 hz
 exact (ztb sh rows).1 e (List.mem_filter.1 he).1
theorem zuq {i n:Nat} (h:i < n) (hn:n≤2097152):(Lit.int .i64 (i:Int)).wf=true:=zx6 (by omega) (by omega)
theorem zed.sliceAt {w:World} {base mb:Nat} {sh:List (Nat × Nat)} {rows:List (List Val)} {Av:Nat→Prop} (h:zed w base mb (evI sh rows) Av) (hn:rows.length≤2097152):∃ n f,n≤rows.length∧HMap w Tryz.prog 9 mb n f∧∀ x,zai intE w (Old w) ((f (.string x)).getD (.slice none 0 0)) (grp (evI sh rows) x)∧capK ((f (.string x)).getD (.slice none 0 0)):=by
 obtain ⟨n,f,h1,h2,h3,h4,h5⟩:=h
 refine ⟨n,f,Nat.le_trans h1 (znz sh rows).1,h2,fun x=>?_⟩
 have hr:=zpb h3 x
 exact ⟨zc4 _ hr (fun z hz=>by obtain ⟨i,rfl,hi⟩:=grp_nat sh rows x z hz;exact zuq hi hn) (fun g e=>(hr.lt g e).2),zb0 hr⟩
theorem zlx {sh:List (Nat × Nat)} {r:List Val} {v:Val} (hin:∀ p∈sh,p.2 < r.length) (h:v∈zbh sh r):v∈r:=by
 unfold zbh at h
 rw [List.map_map] at h
 obtain ⟨p,hp,rfl⟩:=List.mem_map.1 h
 show atV r p.2∈r
 rw [zh4 (hin p hp)]
 exact List.getElem_mem _
theorem zii (sh:List (Nat × Nat)) (rows:List (List Val)) (A B R:Value) (W:World) (hG:Gd W) (hs:ShIn W (Old W) sh A B) (hr:zai rowE W (Old W) R rows) (hin:∀ r∈rows,∀ p∈sh,p.2 < r.length) (hmay:∀ r∈rows,∀ v∈r,mayP v 0=true) (hwt:∀ r∈rows,13*wAll (zbh sh r)≤700000000) (hsn:sh.length≤2097152) (hn:rows.length≤2097152):
 Calls Tryz.prog 75 #[.agg #[A,B],R] W (zy4 W sh rows A B R):=by
 obtain ⟨i0,hi,hz0,hz1,hz2⟩:=info_parts zem
 obtain ⟨pA,kA,pB,kB,rfl,rfl⟩:=hs.slice
 obtain ⟨pR,kR,rfl⟩:=hr.slice
 obtain ⟨W1,hW1⟩:∃ W1,W1=(W.alloc (.cells #[.slice pA sh.length kA,.slice pB sh.length kB] 87)).alloc (.cells #[.slice none 0 0,.slice none 0 0,.slice none 0 0,.map none,.slice none 0 0] 90):=⟨_,rfl⟩
 have b1:Below W.heap.size W W1:=by rw [hW1];exact zcr _ _ _
 have s1:W1.heap.size=W.heap.size+2:=by rw [hW1];simp
 have v2:W1.heap[W.heap.size]?=some (.cells #[.slice pA sh.length kA,.slice pB sh.length kB] 87):=by rw [hW1];exact zaq _ (zaf _ _ rfl)
 have v4:W1.heap[W.heap.size+1]?=some (.cells #[.slice none 0 0,.slice none 0 0,.slice none 0 0,.map none,.slice none 0 0] 90):=by rw [hW1];exact zaf _ _ (by simp)
 obtain ⟨n,hln⟩:∃ n,n=rows.length:=⟨_,rfl⟩
 have HW:=Lib.hid hW1
 have HL:=Lib.hid hln
 have HS:=Lib.hid hs
 have HR:=Lib.hid hr
 have HI:=Lib.hid hin
 have HM:=Lib.hid hmay
 have HT:=Lib.hid hwt
 have HG:=Lib.hid hG
 have HV2:=Lib.hid v2
 have HV4:=Lib.hid v4
 rw [← hln] at hn ⊢
 clear hW1 hln hs hr hin hmay hwt hG v4
 have hmm:=@run_makeMap Tryz.prog
 go_enter Tryz.func75,Tryz.ntmps75
 go_upto_region 1 with fail
 rw [← HW.out]
 go_upto_region 2 with (first
  |((with_reducible refine zah (.tmp 2) W.heap.size 87 87 [.slice pA sh.length kA,.slice pB sh.length kB] 2 _ v2 rfl Tryz.underlying87 rfl zmf ?_ ?_ ?_ ?_);rfl;rfl;rfl))
 obtain ⟨wX,hwX⟩:∃ wX,wX=(W1.alloc (.map #[] 0)).alloc (.cells #[.slice pA sh.length kA,.slice pB sh.length kB,.slice pR n kR,.map (some (W.heap.size+2)),.slice none 0 0] 90):=⟨_,rfl⟩
 rw [← hwX]
 have bX:Below W1.heap.size W1 wX:=by rw [hwX];exact zcr _ _ _
 have sX:W1.heap.size+2≤wX.heap.size:=by rw [hwX];simp
 have hmX:wX.heap[W.heap.size+2]?=some (.map #[] 0):=by rw [hwX];exact zaq _ (zaf _ _ s1)
 have uX:wX.heap[W.heap.size+2+1]?=some (.cells #[.slice pA sh.length kA,.slice pB sh.length kB,.slice pR n kR,.map (some (W.heap.size+2)),.slice none 0 0] 90):=by rw [hwX];exact zaf _ _ (by simp [s1])
 have st:Hid (IxS wX (W.heap.size+2+1) (W.heap.size+2) (.slice pA sh.length kA) (.slice pB sh.length kB) (.slice pR n kR) [] (.slice none 0 0) [] wX):=Lib.hid ⟨uX,zed.start hmX,World.ownsRow_nil _ _ _ _,Kept.refl _ _⟩
 clear hwX
 have HB1:=Lib.hid (zab b1 bX b1.size)
 have HBX:=Lib.hid bX
 clear uX bX hmX v2 b1 hmm
 go_wp2_with fail
 go_loopg [16] n (fun gg s16 wr=>∃ (j:Nat) (L:Value),j+gg=n∧s16=.int .i64 j∧Hid (IxS wX (W.heap.size+2+1) (W.heap.size+2) (.slice pA sh.length kA) (.slice pB sh.length kB) (.slice pR n kR) (evI sh (rows.take j)) L (zbi sh (rows.take j)) wr))
 case atStart=>exact ⟨0,_,by omega,rfl,by simpa [evI,zbi] using st⟩
 case round=>
  clear st
  obtain ⟨j,L,hjg,rfl,HX⟩:=hrel
  have hbel:Below W.heap.size W wr:=HB1.out.trans (HX.out.kept.low (B:=W.heap.size) (by omega) (fun i h=>by omega))
  have hblk:∀ i,i < W1.heap.size→wr.heap[i]?=W1.heap[i]?:=fun i h=>(HX.out.kept.block i (by omega) (by omega)).trans (HBX.out.block i h)
  by_cases hj:(j:Int) < n
  ·have hj1:j < rows.length:=by have:=HL.out;omega
   obtain ⟨gR,oR,kR',cR,eR,_,hrl,hra⟩:=(HR.out.stays (zae hbel)).at_ j hj1
   injection eR with eR1 eR2 eR3
   subst eR1
   obtain ⟨u,rfl⟩:∃ u,cR=[u]:=by obtain ⟨v,rfl,_⟩:=id hrl;exact ⟨v,rfl⟩
   have c0:wr.cell? ⟨gR,oR+j,none⟩=some u:=by
    have:=hra 0 _ rfl
    simpa [rowE] using this
   obtain ⟨v,ev,hrs,_,hrn⟩:=hrl
   cases ev
   have hrm:=List.getElem_mem hj1
   obtain ⟨r,hrj⟩:∃ r,r=rows[j]:=⟨_,rfl⟩
   rw [← hrj] at hrs hrm hrn
   obtain ⟨pu,ku,rfl⟩:=hrs.slice
   have d2:=zad ((hblk _ (by omega)).trans HV2.out) 1 rfl
   have hsb:zai intE wr (Old wr) (.slice pB sh.length kB) ((sh.map (·.2)).map fun i:Nat=>(i:Int)):=by
    have:=(HS.out.stays (zae hbel)).b
    rwa [List.map_map]
   have HC:=Lib.hid (zs3 r (sh.map (·.2)) (.slice pu r.length ku) (.slice pB sh.length kB) wr hrs hsb (fun i hi=>by
    obtain ⟨p,hp,rfl⟩:=List.mem_map.1 hi
    exact HI.out r hrm p hp) (by simpa using hsn))
   have hgw:=HG.out.below hbel
   have HGW:=Lib.hid hgw
   have HRJ:=Lib.hid (And.intro hrj hrm)
   clear hra eR2 eR3 hrs hsb hrj hrm hrn hgw
   go_upto_region 6 with (first
    |(go_at_call 125;(with_reducible refine HC.out.mono ?_);rintro e w3 ⟨V,xs,rfl,hown,hrow,hb3⟩))
   have hown2:=hown
   rw [List.length_map,List.length_map] at hown2
   obtain ⟨pV,kV,rfl⟩:=zat hown2
   have hsl:zai valE w3 (Old w3) (.slice pV sh.length kV) (zbh sh r):=zbm hown hrow (fun g hg=>Nat.lt_of_lt_of_le hg hb3.size) (fun g e=>(hown.lt g e).2)
   have hcl:(zbh sh r).length=sh.length:=by simp [zbh]
   have HE:=Lib.hid (zns isB (zbh sh r) _ w3 hsl (by rw [hcl];exact hsn) (fun x _ W' c _ hr=>(zd6 x W' c (Old W') hr).mono (by rintro e w' ⟨rfl,h⟩;exact ⟨rfl,h.is⟩)))
   obtain ⟨q,hq⟩:∃ q,q=(zbh sh r).all isB:=⟨_,rfl⟩
   rw [← hq] at HE
   have HSL:=Lib.hid hsl
   have HQ:=Lib.hid hq
   clear hown hown2 hrow hsl hq c0 d2
   cases q with
   | false=>
     have hev:=evI_no (sh:=sh) hj1 (by rw [← HRJ.out.1,← HQ.out])
     have HEV:=Lib.hid hev
     go_upto_region 7 with (first
      |(go_at_call 55;(with_reducible refine HE.out.mono ?_);rintro e w4 ⟨rfl,hb4⟩))
     have b4:=zab hb3 hb4 hb3.size
     obtain ⟨u5,hgrp,hlo,hk⟩:=HX.out
     obtain ⟨pL,kL,rfl⟩:=zat hlo
     have hlon:=(znz sh (rows.take j)).2
     rw [List.length_take] at hlon
     have u54:=(b4.block _ (zaa u5)).trans u5
     have d3:=zad u54 3 rfl
     have d4:=zad u54 4 rfl
     have ho4:=za6 hlo b4
     have k4:=hk.below b4
     have g4:zed w4 wX.heap.size (W.heap.size+2) (evI sh (rows.take j)) (fun g=>(Value.slice pL (zbi sh (rows.take j)).length kL).ownBlock=some g):=hgrp.keep (fun i _ h=>b4.block i h) (fun i _ h=>h)
     have hLlt:=ho4.lt
     have G4:=Lib.hid g4
     have K4:=Lib.hid k4
     have hsz4:=k4.size
     clear hgrp hlo hk u5 hb3 hb4 b4 g4 k4 hev
     generalize evI sh (rows.take j)=E at*
     generalize zbi sh (rows.take j)=lo at*
     go_wp2_with (first
      |(at_builtin;refine wpList_append_own_at _ rfl _ _ 26 rfl wX.heap.size 3 i0 (.int .i64 0) 1 8 Tryz.underlying26 hi hz0 hz1 hz2 rfl (by decide) _ _ _ rfl (ho4.alloc _) ⟨w4.heap.size,0,none⟩ 1 1 [.int .i64 (j:Int)] rfl rfl (zb3 _ _ _) (by simp [Value.oneCell']) (by unfold maxLen;omega) (by omega) (by simp;omega) ?_
        intro v' w5 ho5 hg5 _ hl5
        obtain ⟨p5,k5,rfl⟩:=zat ho5
        have blk5:∀ i,i < w4.heap.size→(Value.slice pL lo.length kL).ownBlock≠some i→w5.heap[i]?=w4.heap[i]?:=fun i h1 h2=>(hg5.block i (by simp;omega) (fun e=>h2 e.symm)).trans (Below.heap_alloc _ _ _ h1)
        have u55:=(blk5 _ (zaa u54) (fun e=>by have:=(hLlt _ e).1;omega)).trans u54
        have e4:=zad u55 4 rfl
        have f4:=zdl u55 4))
     have HN:Hid (IxS wX (W.heap.size+2+1) (W.heap.size+2) (.slice pA sh.length kA) (.slice pB sh.length kB) (.slice (some ⟨gR,oR,none⟩) n kR) (evI sh (rows.take (j+1))) (.slice p5 (lo.length+1) k5) (zbi sh (rows.take (j+1))) (w5.setCell ⟨W.heap.size+2+1,4,none⟩ (.slice p5 (lo.length+1) k5))):=Lib.hid (by
      rw [HEV.out.1,HEV.out.2]
      have hset:∀ i,i≠W.heap.size+2+1→(w5.setCell ⟨W.heap.size+2+1,4,none⟩ (.slice p5 (lo.length+1) k5)).heap[i]?=w5.heap[i]?:=fun i h=>Below.heap_setCell _ _ _ _ h
      refine ⟨zb8 u55 4 _,?_,?_,?_⟩
      ·refine G4.out.keep (fun i h hlt=>(hset i (by omega)).trans (blk5 i hlt ?_)) (fun i hlt h e=>?_)
       ·rcases h with rfl | h
        ·intro e
         have:=(hLlt _ e).1
         omega
        ·exact h.2
       ·rcases hl5 with q | q
        ·exact h (q.symm.trans e)
        ·have h2:(Value.slice p5 (lo.length+1) k5).ownBlock=some i:=e
         rw [q] at h2
         have h3:=Option.some.inj h2
         simp at h3
         omega
      ·have:=zbf ho5 (w':=w5.setCell ⟨W.heap.size+2+1,4,none⟩ (.slice p5 (lo.length+1) k5)) (fun b e=>hset b (by have:=(ho5.lt b e).1;omega))
       simpa using this
      ·exact ((K4.out.alloc _).grown hg5 (fun i e h=>absurd (hLlt i e).1 (by omega))).set (p:=⟨W.heap.size+2+1,4,none⟩) (.inl rfl) _)
     generalize w5.setCell ⟨W.heap.size+2+1,4,none⟩ (.slice p5 (lo.length+1) k5)=w6 at*
     clear u55 e4 f4 blk5 ho5 hg5 hl5 ho4 u54 d3 d4 G4 K4
     go_roundg (gk - 1)
     case measure=>omega
     case rel=>exact ⟨j+1,_,by omega,by go_num,HN⟩
   | true=>
     have hev:=evI_yes (sh:=sh) hj1 (by rw [← HRJ.out.1,← HQ.out])
     rw [← HRJ.out.1] at hev
     have HEV:=Lib.hid hev
     clear hev
     obtain ⟨ek,hek⟩:∃ ek,ek=zao (zbh sh r):=⟨_,rfl⟩
     have hwr:=HT.out r HRJ.out.2
     have HKL:Hid (ek.length≤900000000):=Lib.hid (by
      rw [hek]
      have:=zdg (zbh sh r)
      omega)
     have HEN:Hid (∀ w',Below w3.heap.size w3 w'→Calls Tryz.prog 69 #[.slice pV sh.length kV] w' fun e w2=>e=.returned (.string (bsB ek))∧Below w'.heap.size w' w2):=Lib.hid fun w' h=>by
      rw [hek]
      exact zig (zbh sh r) _ w' (HGW.out.below (zab hb3 h hb3.size)) (HSL.out.stays (zae h)) (fun v hv=>HM.out r HRJ.out.2 v (zlx (HI.out r HRJ.out.2) hv)) hwr (by rw [hcl];exact hsn)
     rw [← hek] at HEV
     clear hek hwr
     go_upto_region 9 with (first
      |(go_at_call 55;(with_reducible refine HE.out.mono ?_);rintro e w4 ⟨rfl,hb4⟩)
      |(go_at_call 69;(with_reducible refine (HEN.out _ hb4).mono ?_);rintro e w5 ⟨rfl,hb5⟩))
     have b4:=zab (zab hb3 hb4 hb3.size) hb5 (zab hb3 hb4 hb3.size).size
     obtain ⟨u5,hgrp,hlo,hk⟩:=HX.out
     obtain ⟨pL,kL,rfl⟩:=zat hlo
     have hen:=(znz sh (rows.take j)).1
     rw [List.length_take] at hen
     replace u5:=(b4.block _ (zaa u5)).trans u5
     replace hlo:=za6 hlo b4
     replace hk:=hk.below b4
     replace hgrp:zed w5 wX.heap.size (W.heap.size+2) (evI sh (rows.take j)) (fun g=>(Value.slice pL (zbi sh (rows.take j)).length kL).ownBlock=some g):=hgrp.keep (fun i _ h=>b4.block i h) (fun i _ h=>h)
     generalize hE0:evI sh (rows.take j)=E at*
     generalize hlo0:zbi sh (rows.take j)=lo at*
     obtain ⟨n',f,h1,hm,h3,h4,h5⟩:=hgrp
     have hrow:=zpb h3 ek
     have hgl:=zy2 E ek
     have hkey:=keyB HKL.out
     have hLlt:=hlo.lt
     have H3:=Lib.hid h3
     have H4:=Lib.hid h4
     have H5:=Lib.hid h5
     have hAvR:∀ g,((f (.string ek)).getD (.slice none 0 0)).ownBlock=some g→(Value.slice pL lo.length kL).ownBlock≠some g:=fun g e=>by
      cases q:f (.string ek) with
      | none=>rw [q] at e;cases e
      | some v=>rw [q] at e;exact h5 ek v g q e
     have hRlt:=hrow.lt
     clear hb3 hb4 hb5 b4 HE HEN HX h3 h4 h5 hE0 hlo0
     refine zew (S:=fun W'=>W'.heap[W.heap.size+2+1]?=some (.cells #[.slice pA sh.length kA,.slice pB sh.length kB,.slice (some ⟨gR,oR,none⟩) n kR,.map (some (W.heap.size+2)),.slice pL lo.length kL] 90)∧HMap W' Tryz.prog 9 (W.heap.size+2) n' f) (fun i=>i == 10) (by kernel_rfl) ⟨u5,hm.keep rfl⟩ (fun hh=>?_)
     clear hh
     replace u5:w5.drew.heap[W.heap.size+2+1]?=some (.cells #[.slice pA sh.length kA,.slice pB sh.length kB,.slice (some ⟨gR,oR,none⟩) n kR,.map (some (W.heap.size+2)),.slice pL lo.length kL] 90):=u5
     replace hm:HMap w5.drew Tryz.prog 9 (W.heap.size+2) n' f:=hm.keep rfl
     replace hk:=hk.drew
     replace hlo:=hlo.drew
     replace hrow:=hrow.drew
     have H3D:Hid (∀ x,(f (.string x)=none∧grp E x=[])∨∃ v,f (.string x)=some v∧w5.drew.ownsRow wX.heap.size 3 1 v (grp E x).length ((grp E x).map (Value.int .i64))):=Lib.hid fun x=>(H3.out x).imp id fun ⟨v,e,ho⟩=>⟨v,e,ho.drew⟩
     replace hLlt:∀ j_1,(Value.slice pL lo.length kL).ownBlock=some j_1→wX.heap.size≤j_1∧j_1 < w5.drew.heap.size:=hLlt
     replace hRlt:∀ j_1,((f (.string ek)).getD (.slice none 0 0)).ownBlock=some j_1→wX.heap.size≤j_1∧j_1 < w5.drew.heap.size:=hRlt
     clear H3
     generalize w5.drew=wD at*
     refine za9 (i:=0) (v:=.pointer (some ⟨W.heap.size+2+1,3,none⟩)) rfl (by kernel_rfl) (by kernel_rfl) (by kernel_rfl) rfl (by kernel_rfl) (by kernel_rfl) (fun _ _ _ h=>h) (Or.inl ⟨by rfl,fun W _=>by go_simp⟩) (⟨u5,hm⟩) ?_
     try simp only [putS]
     refine za9 (i:=2) (v:=.string (bsB ek)) rfl (by kernel_rfl) (by kernel_rfl) (by kernel_rfl) rfl (by kernel_rfl) (by kernel_rfl) (fun _ _ _ h=>h) (Or.inl ⟨by rfl,fun W _=>by go_simp⟩) (⟨u5,hm⟩) ?_
     try simp only [putS]
     refine za9 (i:=3) (v:=.pointer (some ⟨W.heap.size+2+1,3,none⟩)) rfl (by kernel_rfl) (by kernel_rfl) (by kernel_rfl) rfl (by kernel_rfl) (by kernel_rfl) (fun _ _ _ h=>h) (Or.inl ⟨by rfl,fun W _=>by go_simp⟩) (⟨u5,hm⟩) ?_
     try simp only [putS]
     refine za9 (i:=5) (v:=.string (bsB ek)) rfl (by kernel_rfl) (by kernel_rfl) (by kernel_rfl) rfl (by kernel_rfl) (by kernel_rfl) (fun _ _ _ h=>h) (Or.inl ⟨by rfl,fun W _=>by go_simp⟩) (⟨u5,hm⟩) ?_
     try simp only [putS]
     refine za9 (i:=7) (v:=.int .i64 (j:Int)) rfl (by kernel_rfl) (by kernel_rfl) (by kernel_rfl) rfl (by kernel_rfl) (by kernel_rfl) (fun _ _ _ h=>h) (Or.inl ⟨by rfl,fun W _=>by go_simp⟩) (⟨u5,hm⟩) ?_
     try simp only [putS]
     refine za9 (i:=1) (v:=.map (some (W.heap.size+2))) rfl (by kernel_rfl) (by kernel_rfl) (by kernel_rfl) rfl (by kernel_rfl) (by kernel_rfl) (fun _ _ _ h=>h) (Or.inl ⟨by rfl,fun W' h=>by have c0:=zad h.1 3 rfl;go_simp⟩) (⟨u5,hm⟩) ?_
     try simp only [putS]
     refine za9 (i:=4) (v:=.map (some (W.heap.size+2))) rfl (by kernel_rfl) (by kernel_rfl) (by kernel_rfl) rfl (by kernel_rfl) (by kernel_rfl) (fun _ _ _ h=>h) (Or.inl ⟨by rfl,fun W' h=>by have c0:=zad h.1 3 rfl;go_simp⟩) (⟨u5,hm⟩) ?_
     try simp only [putS]
     refine za9 (i:=6) (v:=(f (.string ek)).getD (.slice none 0 0)) rfl (by kernel_rfl) (by kernel_rfl) (by kernel_rfl) rfl (by kernel_rfl) (by kernel_rfl) (fun _ _ _ h=>h) (zqg (by rfl) (.tmp 40) (.tmp 41) 88 rfl 9 26 (Go.Maps.string_keyed Tryz.underlying9) Tryz.underlying88 Tryz.zeroValue26 (W.heap.size+2) n' rfl (fun W h=>h.2) (.string (bsB ek)) (.string ek) rfl hkey trivial) (⟨u5,hm⟩) ?_
     try simp only [putS]
     refine zaw (rs:=[8]) (by kernel_rfl) (by simp) ?_
     refine zan.cons rfl (fun K hK=>?_) zan.nil
     try rw [if_pos (by rfl)]
     go_simp
     replace u5:=zaq (.cells #[.int .i64 (j:Int)] 3) u5
     replace hm:HMap (wD.alloc (.cells #[.int .i64 (j:Int)] 3)) Tryz.prog 9 (W.heap.size+2) n' f:=hm.keep (Below.heap_alloc _ _ _ hm.lt)
     refine hK.out _ _ (⟨u5,hm⟩) (fun _=>?_)
     clear hK K
     try simp only [putS]
     refine zaw (rs:=[9]) (by kernel_rfl) (by simp) ?_
     refine zan.cons rfl (fun K hK=>?_) zan.nil
     try rw [if_pos (by rfl)]
     refine zbx (P:=Tryz.prog) (w:=wD.alloc (.cells #[.int .i64 (j:Int)] 3)) (.tmp 42) (.tmp 44) 26 rfl wX.heap.size 3 i0 (.int .i64 0) 1 8 Tryz.underlying26 hi hz0 hz1 hz2 rfl (by decide) _ _ _ rfl (hrow.alloc (.cells #[.int .i64 (j:Int)] 3)) ⟨wD.heap.size,0,none⟩ 1 1 [.int .i64 (j:Int)] rfl rfl (zb3 _ _ _) (by simp [Value.oneCell']) (by unfold maxLen;omega) (by omega) (by have:=hk.size;simp;omega) ?_
     intro v9 w9 ho9 hg9 _ hl9
     replace u5:=(hg9.block _ (zaa u5) (fun e=>by have:=(hRlt _ e.symm).1;omega)).trans u5
     replace hm:=hm.keep (hg9.block _ hm.lt (fun e=>by have:=(hRlt _ e.symm).1;omega))
     refine hK.out _ _ (⟨u5,hm⟩) (fun _=>?_)
     clear hK K
     try simp only [putS]
     refine zaw (rs:=[10]) (by kernel_rfl) (by simp) ?_
     refine zan.late rfl (by kernel_rfl) (fun K hK=>?_) zan.nil
     try rw [if_pos (by rfl)]
     refine zom (.tmp 37) (.tmp 38) (.tmp 45) 88 rfl 9 26 (Go.Maps.string_keyed Tryz.underlying9) Tryz.underlying88 (W.heap.size+2) n' rfl hm (by unfold maxLen;omega) (.string (bsB ek)) v9 (.string ek) rfl rfl hkey trivial ?_
     intro w10 hm10 hg10
     refine hK.out _ _ ?_
     clear hK K
     try simp only [putS]
     refine zd0 (by kernel_rfl) ?_ _
     have HN:Hid (IxS wX (W.heap.size+2+1) (W.heap.size+2) (.slice pA sh.length kA) (.slice pB sh.length kB) (.slice (some ⟨gR,oR,none⟩) n kR) (evI sh (rows.take (j+1))) (.slice pL lo.length kL) (zbi sh (rows.take (j+1))) w10):=Lib.hid (by
      rw [HEV.out.1,HEV.out.2]
      have hza:=zv5 (K:=Lit.string) (w:=wD) (base:=wX.heap.size) (b:=W.heap.size+2) (E:=E) (x:=ek) (i:=(j:Int)) zih (by omega) H3D.out H4.out (zav wD (.cells #[.int .i64 (j:Int)] 3)) ho9 hg9 hl9 hg10
      refine ⟨(hg10.block _ (zaa u5) (fun e=>by have:=Option.some.inj e;omega)).trans u5,⟨n'+1,_,by simp;omega,hm10,hza.1,hza.2,fun x v g ex eg eL=>?_⟩,?_,?_⟩
      ·by_cases q:x=ek
       ·subst q
        rw [zer] at ex
        cases ex
        rcases hl9 with r | r
        ·exact hAvR g (r.symm.trans eg) eL
        ·rw [r] at eg
         have h1:=Option.some.inj eg
         have h2:=(hLlt g eL).2
         simp at h1
         omega
       ·rw [zdi (fun e=>q (zih _ _ e))] at ex
        exact H5.out x v g ex eg eL
      ·exact zc2 (zc2 (hlo.alloc (.cells #[.int .i64 (j:Int)] 3)) hg9 (fun b e q=>hAvR b q e)) hg10 (fun b e q=>by have:=(hLlt b e).1;have:=Option.some.inj q;omega)
      ·exact ((hk.alloc (.cells #[.int .i64 (j:Int)] 3)).grown hg9 (fun i e h=>absurd (hRlt i e).1 (by omega))).grown hg10 (fun i e _=>.inr (Option.some.inj e).symm))
     clear u5 hm hm10 hg10 ho9 hg9 hl9 hk hlo hrow hAvR hLlt hRlt
     go_wp2_with fail
     go_roundg (gk - 1)
     case measure=>omega
     case rel=>exact ⟨j+1,_,by omega,by go_num,HN⟩
  ·have e:rows.take j=rows:=by rw [List.take_of_length_le];have:=HL.out;omega
   obtain ⟨u5,hgrp,hlo,hk⟩:=HX.out
   rw [e] at hgrp hlo
   obtain ⟨pL,kL,rfl⟩:=zat hlo
   have v5:wr.heap[W.heap.size+1]?=some (.cells #[.slice none 0 0,.slice none 0 0,.slice none 0 0,.map none,.slice none 0 0] 90):=(hblk _ (by omega)).trans HV4.out
   have hzk:=hk.size
   have HGR:=Lib.hid hgrp
   have HLO:=Lib.hid hlo
   have HBL:=Lib.hid hbel
   clear hgrp hlo hk hbel e HX
   go_wp2_with (first
    |((with_reducible refine zah (.tmp 5) (W.heap.size+2+1) 90 90 [.slice pA sh.length kA,.slice pB sh.length kB,.slice pR n kR,.map (some (W.heap.size+2)),.slice pL (zbi sh rows).length kL] 5 _ u5 rfl Tryz.underlying90 rfl zh7 ?_ ?_ ?_ ?_);rfl;rfl;rfl)
    |((with_reducible refine zar (.tmp 4) (.tmp 47) (W.heap.size+1) 90 90 _ [.slice pA sh.length kA,.slice pB sh.length kB,.slice pR n kR,.map (some (W.heap.size+2)),.slice pL (zbi sh rows).length kL] 5 v5 rfl ?_ ?_ ?_ ?_ zh7 rfl (zk0 rfl rfl rfl rfl rfl) ?_);rfl;rfl;rfl;rfl;intro wY oY uY))
   have bY:=zam HBL.out oY (Nat.le_succ _) HBL.out.size
   have hnr:rows.length≤2097152:=by have:=HL.out;omega
   obtain ⟨n',f,g1,g2,g3⟩:=zed.sliceAt (HGR.out.keep (w':=wY) (Av':=fun g=>(Value.slice pL (zbi sh rows).length kL).ownBlock=some g) (fun i h hlt=>oY.block i hlt (by rcases h with rfl | h <;> omega)) (fun i _ h=>h)) hnr
   have hlo2:=zbf HLO.out (w':=wY) (fun g e=>oY.block g (HLO.out.lt g e).2 (by have:=(HLO.out.lt g e).1;omega))
   refine bodyPost_ret (results_cell_row (p:=4) (ty:=90) Tryz.results75 _ _ (W.heap.size+1) 90 _ (0,0) _ rfl uY Tryz.underlying90 rfl zh7) rfl
    ⟨W.heap.size+2,_,rfl,⟨HS.out.stays (zae bY),by rw [HL.out];exact HR.out.stays (zae bY),⟨g2.lt,n',f,g1,g2,g3⟩,zc4 (Old wY) hlo2 (fun z hz=>by obtain ⟨i,rfl,hi⟩:=(ztb sh rows).2 z hz;exact zuq hi hnr) (fun g e=>(hlo2.lt g e).2),zb0 hlo2⟩,rfl,bY⟩
end Go.Proofs.YteclpnfckjfibaaGreatDoor
