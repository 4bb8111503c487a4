/- Texts of one kind, one behind the other: each says ahead of itself what it shows. -/
import Derived.Test.YtcfmenkigolnoaaGreatDoorVaq
import Derived.Test.YtcfmenkigolnoaaGreatDoorVae
import Derived.Test.YtcfmenkigolnoaaGreatDoorVas
import Derived.Deep.CutBlock
import Derived.Deep.LoopGhost
/- DMb -/
namespace Go.Proofs.YtcfmenkigolnoaaGreatDoor
open Go.RowKit
theorem zc4 (b:Bool) (n:Int) (t x:ByteArray) (len:Nat):zbx b n t x len=(!b && !(n != 0) && !(!t.toList.isEmpty) && !(!x.toList.isEmpty) && !(decide (0 < len))):=by
 have e1:decide (n=0)=!(n != 0):=by cases h:(n != 0) <;> simp_all
 have e2:decide (t.size=0)=!(!t.toList.isEmpty):=by
  rw [Bool.not_not,Bool.eq_iff_iff,decide_eq_true_eq]
  exact (zcb t).symm
 have e3:decide (x.size=0)=!(!x.toList.isEmpty):=by
  rw [Bool.not_not,Bool.eq_iff_iff,decide_eq_true_eq]
  exact (zcb x).symm
 have e4:decide (len=0)=!(decide (0 < len)):=by
  rw [Bool.eq_iff_iff]
  simp
 unfold zbx
 rw [e1,e2,e3,e4]
theorem zoh:(!(⟨#[]⟩:ByteArray).toList.isEmpty)=false:=by
 have:=(zcb ⟨#[]⟩).2 rfl
 rw [this]
 rfl
theorem fitsK0 (b:Bool) (n:Int) (t x:ByteArray) (len:Nat) (r:Bool):zcc 0 b n t x len r=(!b && !(n != 0) && !(!t.toList.isEmpty) && !(!x.toList.isEmpty) && !(decide (0 < len))):=by
 rw [show zcc 0 b n t x len r=zbx b n t x len from rfl]
 rw [zc4]
set_option maxRecDepth 20000 in
set_option maxHeartbeats 6400000 in
theorem refMay0 (b:Bool) (n:Int) (t x:ByteArray) (p:Option Addr) (len cap d:Nat) (r0:Bool) (w:World) (hd:(d:Int)≤60) (ht:t.size≤2097152) (hx:x.size≤2097152):
 Calls Tryz.prog 127 #[.agg #[.int .i64 0,.bool b,.int .i64 n,.string t,.string x,.slice p len cap],.int .i64 d] w fun e w'=>e=.returned (.bool (zcc 0 b n t x len r0))∧Below w.heap.size w w':=by
 have S:=zal (k:=0) (b:=b) (n:=n) (t:=t) (x:=x) (p:=p) (len:=len) (cap:=cap) w rfl
 have b0:=zar w (.cells #[.int .i64 0,.bool b,.int .i64 n,.string t,.string x,.slice p len cap] 60)
 have f0:=S.c0
 have f1:=S.c1
 have f2:=S.c2
 have f3:=S.c3
 have f4:=S.c4
 have f5:=S.c5
 rw [fitsK0]
 obtain ⟨r,hr⟩:∃ r,r=(!b && !(n != 0) && !(!t.toList.isEmpty) && !(!x.toList.isEmpty) && !(decide (0 < len))):=⟨_,rfl⟩
 rw [← hr]
 obtain ⟨w1,hw1⟩:∃ w1,w1=w.alloc (.cells #[.int .i64 0,.bool b,.int .i64 n,.string t,.string x,.slice p len cap] 60):=⟨_,rfl⟩
 rw [← hw1] at S b0
 have HW:=Lib.hid hw1
 have HR:=Lib.hid hr
 clear hw1 hr
 go_enter Tryz.func127,Tryz.ntmps127
 go_upto_region 9 with fail
 rw [← HW.out]
 clear f0 f1 f2 f3 f4 f5
 have f0:=S.c0
 have f2:=S.c2
 have f3:=S.c3
 have f4:=S.c4
 have HR2:=HR.out
 clear HR
 generalize (n != 0)=nb at HR2 ⊢
 generalize (!t.toList.isEmpty)=tb at HR2 ⊢
 generalize (!x.toList.isEmpty)=xb at HR2 ⊢
 generalize decide (0 < len)=lb at HR2 ⊢
 have HR3:=Lib.hid HR2
 clear HR2 ht hx
 go_wp2_with fail
 all_goals
  go_ret
  exact ⟨by rw [HR3.out];simp_all <;> (intros;omega),b0⟩
theorem fitsK1 (b:Bool) (n:Int) (t x:ByteArray) (len:Nat) (r:Bool):zcc 1 b n t x len r=(!(n != 0) && !(!t.toList.isEmpty) && !(!x.toList.isEmpty) && !(decide (0 < len))):=by
 rw [show zcc 1 b n t x len r=zbx false n t x len from rfl]
 rw [zc4]
 simp
set_option maxRecDepth 20000 in
set_option maxHeartbeats 6400000 in
theorem refMay1 (b:Bool) (n:Int) (t x:ByteArray) (p:Option Addr) (len cap d:Nat) (r0:Bool) (w:World) (hd:(d:Int)≤60) (ht:t.size≤2097152) (hx:x.size≤2097152):
 Calls Tryz.prog 127 #[.agg #[.int .i64 1,.bool b,.int .i64 n,.string t,.string x,.slice p len cap],.int .i64 d] w fun e w'=>e=.returned (.bool (zcc 1 b n t x len r0))∧Below w.heap.size w w':=by
 have S:=zal (k:=1) (b:=b) (n:=n) (t:=t) (x:=x) (p:=p) (len:=len) (cap:=cap) w rfl
 have b0:=zar w (.cells #[.int .i64 1,.bool b,.int .i64 n,.string t,.string x,.slice p len cap] 60)
 have f0:=S.c0
 have f1:=S.c1
 have f2:=S.c2
 have f3:=S.c3
 have f4:=S.c4
 have f5:=S.c5
 rw [fitsK1]
 obtain ⟨r,hr⟩:∃ r,r=(!(n != 0) && !(!t.toList.isEmpty) && !(!x.toList.isEmpty) && !(decide (0 < len))):=⟨_,rfl⟩
 rw [← hr]
 obtain ⟨w1,hw1⟩:∃ w1,w1=w.alloc (.cells #[.int .i64 1,.bool b,.int .i64 n,.string t,.string x,.slice p len cap] 60):=⟨_,rfl⟩
 rw [← hw1] at S b0
 have HW:=Lib.hid hw1
 have HR:=Lib.hid hr
 clear hw1 hr
 go_enter Tryz.func127,Tryz.ntmps127
 go_upto_region 9 with fail
 rw [← HW.out]
 clear f0 f1 f2 f3 f4 f5
 have f0:=S.c0
 have f2:=S.c2
 have f3:=S.c3
 have f4:=S.c4
 have HR2:=HR.out
 clear HR
 generalize (n != 0)=nb at HR2 ⊢
 generalize (!t.toList.isEmpty)=tb at HR2 ⊢
 generalize (!x.toList.isEmpty)=xb at HR2 ⊢
 generalize decide (0 < len)=lb at HR2 ⊢
 have HR3:=Lib.hid HR2
 clear HR2 ht hx
 go_wp2_with fail
 all_goals
  go_ret
  exact ⟨by rw [HR3.out];simp_all <;> (intros;omega),b0⟩
theorem fitsK2 (b:Bool) (n:Int) (t x:ByteArray) (len:Nat) (r:Bool):zcc 2 b n t x len r=(!b && !(!t.toList.isEmpty) && !(!x.toList.isEmpty) && !(decide (0 < len))):=by
 rw [show zcc 2 b n t x len r=zbx b 0 t x len from rfl]
 rw [zc4]
 simp
set_option maxRecDepth 20000 in
set_option maxHeartbeats 6400000 in
theorem refMay2 (b:Bool) (n:Int) (t x:ByteArray) (p:Option Addr) (len cap d:Nat) (r0:Bool) (w:World) (hd:(d:Int)≤60) (ht:t.size≤2097152) (hx:x.size≤2097152):
 Calls Tryz.prog 127 #[.agg #[.int .i64 2,.bool b,.int .i64 n,.string t,.string x,.slice p len cap],.int .i64 d] w fun e w'=>e=.returned (.bool (zcc 2 b n t x len r0))∧Below w.heap.size w w':=by
 have S:=zal (k:=2) (b:=b) (n:=n) (t:=t) (x:=x) (p:=p) (len:=len) (cap:=cap) w rfl
 have b0:=zar w (.cells #[.int .i64 2,.bool b,.int .i64 n,.string t,.string x,.slice p len cap] 60)
 have f0:=S.c0
 have f1:=S.c1
 have f2:=S.c2
 have f3:=S.c3
 have f4:=S.c4
 have f5:=S.c5
 rw [fitsK2]
 obtain ⟨r,hr⟩:∃ r,r=(!b && !(!t.toList.isEmpty) && !(!x.toList.isEmpty) && !(decide (0 < len))):=⟨_,rfl⟩
 rw [← hr]
 obtain ⟨w1,hw1⟩:∃ w1,w1=w.alloc (.cells #[.int .i64 2,.bool b,.int .i64 n,.string t,.string x,.slice p len cap] 60):=⟨_,rfl⟩
 rw [← hw1] at S b0
 have HW:=Lib.hid hw1
 have HR:=Lib.hid hr
 clear hw1 hr
 go_enter Tryz.func127,Tryz.ntmps127
 go_upto_region 9 with fail
 rw [← HW.out]
 clear f0 f1 f2 f3 f4 f5
 have f0:=S.c0
 have f2:=S.c2
 have f3:=S.c3
 have f4:=S.c4
 have HR2:=HR.out
 clear HR
 generalize (n != 0)=nb at HR2 ⊢
 generalize (!t.toList.isEmpty)=tb at HR2 ⊢
 generalize (!x.toList.isEmpty)=xb at HR2 ⊢
 generalize decide (0 < len)=lb at HR2 ⊢
 have HR3:=Lib.hid HR2
 clear HR2 ht hx
 go_wp2_with fail
 all_goals
  go_ret
  exact ⟨by rw [HR3.out];simp_all <;> (intros;omega),b0⟩
theorem fitsK3 (b:Bool) (n:Int) (t x:ByteArray) (len:Nat) (r:Bool):zcc 3 b n t x len r=(chk t.data.toList && (!b && !(n != 0) && !(!x.toList.isEmpty) && !(decide (0 < len)))):=by
 rw [show zcc 3 b n t x len r=(chk t.data.toList && zbx b n ⟨#[]⟩ x len) from rfl]
 rw [zc4]
 rw [zoh]
 simp
set_option maxRecDepth 20000 in
set_option maxHeartbeats 6400000 in
theorem refMay3 (b:Bool) (n:Int) (t x:ByteArray) (p:Option Addr) (len cap d:Nat) (r0:Bool) (w:World) (hd:(d:Int)≤60) (ht:t.size≤2097152) (hx:x.size≤2097152):
 Calls Tryz.prog 127 #[.agg #[.int .i64 3,.bool b,.int .i64 n,.string t,.string x,.slice p len cap],.int .i64 d] w fun e w'=>e=.returned (.bool (zcc 3 b n t x len r0))∧Below w.heap.size w w':=by
 have S:=zal (k:=3) (b:=b) (n:=n) (t:=t) (x:=x) (p:=p) (len:=len) (cap:=cap) w rfl
 have b0:=zar w (.cells #[.int .i64 3,.bool b,.int .i64 n,.string t,.string x,.slice p len cap] 60)
 have f0:=S.c0
 have f1:=S.c1
 have f2:=S.c2
 have f3:=S.c3
 have f4:=S.c4
 have f5:=S.c5
 rw [fitsK3]
 obtain ⟨r,hr⟩:∃ r,r=(chk t.data.toList && (!b && !(n != 0) && !(!x.toList.isEmpty) && !(decide (0 < len)))):=⟨_,rfl⟩
 rw [← hr]
 have hC:=fun W=>zx8 t W (by omega)
 obtain ⟨w1,hw1⟩:∃ w1,w1=w.alloc (.cells #[.int .i64 3,.bool b,.int .i64 n,.string t,.string x,.slice p len cap] 60):=⟨_,rfl⟩
 rw [← hw1] at S b0
 have HW:=Lib.hid hw1
 have HR:=Lib.hid hr
 clear hw1 hr
 go_enter Tryz.func127,Tryz.ntmps127
 go_upto_region 9 with fail
 rw [← HW.out]
 clear f0 f1 f2 f3 f4 f5
 have f0:=S.c0
 have f2:=S.c2
 have f3:=S.c3
 have f4:=S.c4
 have HR2:=HR.out
 clear HR
 generalize (n != 0)=nb at HR2 ⊢
 generalize (!t.toList.isEmpty)=tb at HR2 ⊢
 generalize (!x.toList.isEmpty)=xb at HR2 ⊢
 generalize decide (0 < len)=lb at HR2 ⊢
 generalize chk t.data.toList=C at HR2 hC ⊢
 have HR3:=Lib.hid HR2
 clear HR2 ht hx
 go_wp2_with (go_at_call 160;(with_reducible refine (hC _).mono ?_);rintro e w' ⟨rfl,hb⟩;replace b0:=zab b0 hb b0.size)
 all_goals
  go_ret
  exact ⟨by rw [HR3.out];simp_all <;> (intros;omega),b0⟩
end Go.Proofs.YtcfmenkigolnoaaGreatDoor

/- DMc -/
namespace Go.Proofs.YtcfmenkigolnoaaGreatDoor
open Go.RowKit
theorem fitsK4 (b:Bool) (n:Int) (t x:ByteArray) (len:Nat) (r:Bool):zcc 4 b n t x len r=(decide ((t.size:Int)≤1048576) && (!b && !(n != 0) && !(!x.toList.isEmpty) && !(decide (0 < len)))):=by
 rw [show zcc 4 b n t x len r=(decide (t.size≤1048576) && zbx b n ⟨#[]⟩ x len) from rfl]
 rw [zc4]
 rw [zoh,show decide (t.size≤1048576)=decide ((t.size:Int)≤1048576) from decide_eq_decide.2 (by omega)]
 simp
set_option maxRecDepth 20000 in
set_option maxHeartbeats 6400000 in
theorem refMay4 (b:Bool) (n:Int) (t x:ByteArray) (p:Option Addr) (len cap d:Nat) (r0:Bool) (w:World) (hd:(d:Int)≤60) (ht:t.size≤2097152) (hx:x.size≤2097152):
 Calls Tryz.prog 127 #[.agg #[.int .i64 4,.bool b,.int .i64 n,.string t,.string x,.slice p len cap],.int .i64 d] w fun e w'=>e=.returned (.bool (zcc 4 b n t x len r0))∧Below w.heap.size w w':=by
 have S:=zal (k:=4) (b:=b) (n:=n) (t:=t) (x:=x) (p:=p) (len:=len) (cap:=cap) w rfl
 have b0:=zar w (.cells #[.int .i64 4,.bool b,.int .i64 n,.string t,.string x,.slice p len cap] 60)
 have f0:=S.c0
 have f1:=S.c1
 have f2:=S.c2
 have f3:=S.c3
 have f4:=S.c4
 have f5:=S.c5
 rw [fitsK4]
 obtain ⟨r,hr⟩:∃ r,r=(decide ((t.size:Int)≤1048576) && (!b && !(n != 0) && !(!x.toList.isEmpty) && !(decide (0 < len)))):=⟨_,rfl⟩
 rw [← hr]
 obtain ⟨w1,hw1⟩:∃ w1,w1=w.alloc (.cells #[.int .i64 4,.bool b,.int .i64 n,.string t,.string x,.slice p len cap] 60):=⟨_,rfl⟩
 rw [← hw1] at S b0
 have HW:=Lib.hid hw1
 have HR:=Lib.hid hr
 clear hw1 hr
 go_enter Tryz.func127,Tryz.ntmps127
 go_upto_region 9 with fail
 rw [← HW.out]
 clear f0 f1 f2 f3 f4 f5
 have f0:=S.c0
 have f2:=S.c2
 have f3:=S.c3
 have f4:=S.c4
 have HR2:=HR.out
 clear HR
 generalize (n != 0)=nb at HR2 ⊢
 generalize (!t.toList.isEmpty)=tb at HR2 ⊢
 generalize (!x.toList.isEmpty)=xb at HR2 ⊢
 generalize decide (0 < len)=lb at HR2 ⊢
 have HR3:=Lib.hid HR2
 clear HR2 ht hx
 go_wp2_with fail
 all_goals
  go_ret
  exact ⟨by rw [HR3.out];simp_all <;> (intros;omega),b0⟩
theorem fitsK6 (b:Bool) (n:Int) (t x:ByteArray) (len:Nat) (r:Bool):zcc 6 b n t x len r=(decide (0≤n) && (!b && !(!t.toList.isEmpty) && !(!x.toList.isEmpty) && !(decide (0 < len)))):=by
 rw [show zcc 6 b n t x len r=(decide (0≤n) && zbx b 0 t x len) from rfl]
 rw [zc4]
 simp
set_option maxRecDepth 20000 in
set_option maxHeartbeats 6400000 in
theorem refMay6 (b:Bool) (n:Int) (t x:ByteArray) (p:Option Addr) (len cap d:Nat) (r0:Bool) (w:World) (hd:(d:Int)≤60) (ht:t.size≤2097152) (hx:x.size≤2097152):
 Calls Tryz.prog 127 #[.agg #[.int .i64 6,.bool b,.int .i64 n,.string t,.string x,.slice p len cap],.int .i64 d] w fun e w'=>e=.returned (.bool (zcc 6 b n t x len r0))∧Below w.heap.size w w':=by
 have S:=zal (k:=6) (b:=b) (n:=n) (t:=t) (x:=x) (p:=p) (len:=len) (cap:=cap) w rfl
 have b0:=zar w (.cells #[.int .i64 6,.bool b,.int .i64 n,.string t,.string x,.slice p len cap] 60)
 have f0:=S.c0
 have f1:=S.c1
 have f2:=S.c2
 have f3:=S.c3
 have f4:=S.c4
 have f5:=S.c5
 rw [fitsK6]
 obtain ⟨r,hr⟩:∃ r,r=(decide (0≤n) && (!b && !(!t.toList.isEmpty) && !(!x.toList.isEmpty) && !(decide (0 < len)))):=⟨_,rfl⟩
 rw [← hr]
 obtain ⟨w1,hw1⟩:∃ w1,w1=w.alloc (.cells #[.int .i64 6,.bool b,.int .i64 n,.string t,.string x,.slice p len cap] 60):=⟨_,rfl⟩
 rw [← hw1] at S b0
 have HW:=Lib.hid hw1
 have HR:=Lib.hid hr
 clear hw1 hr
 go_enter Tryz.func127,Tryz.ntmps127
 go_upto_region 9 with fail
 rw [← HW.out]
 clear f0 f1 f2 f3 f4 f5
 have f0:=S.c0
 have f2:=S.c2
 have f3:=S.c3
 have f4:=S.c4
 have HR2:=HR.out
 clear HR
 generalize (n != 0)=nb at HR2 ⊢
 generalize (!t.toList.isEmpty)=tb at HR2 ⊢
 generalize (!x.toList.isEmpty)=xb at HR2 ⊢
 generalize decide (0 < len)=lb at HR2 ⊢
 have HR3:=Lib.hid HR2
 clear HR2 ht hx
 go_wp2_with fail
 all_goals
  go_ret
  exact ⟨by rw [HR3.out];simp_all <;> (intros;omega),b0⟩
theorem fitsK7 (b:Bool) (n:Int) (t x:ByteArray) (len:Nat) (r:Bool):zcc 7 b n t x len r=(decide (0≤n) && (!b && !(!t.toList.isEmpty) && !(!x.toList.isEmpty) && !(decide (0 < len)))):=by
 rw [show zcc 7 b n t x len r=(decide (0≤n) && zbx b 0 t x len) from rfl]
 rw [zc4]
 simp
set_option maxRecDepth 20000 in
set_option maxHeartbeats 6400000 in
theorem refMay7 (b:Bool) (n:Int) (t x:ByteArray) (p:Option Addr) (len cap d:Nat) (r0:Bool) (w:World) (hd:(d:Int)≤60) (ht:t.size≤2097152) (hx:x.size≤2097152):
 Calls Tryz.prog 127 #[.agg #[.int .i64 7,.bool b,.int .i64 n,.string t,.string x,.slice p len cap],.int .i64 d] w fun e w'=>e=.returned (.bool (zcc 7 b n t x len r0))∧Below w.heap.size w w':=by
 have S:=zal (k:=7) (b:=b) (n:=n) (t:=t) (x:=x) (p:=p) (len:=len) (cap:=cap) w rfl
 have b0:=zar w (.cells #[.int .i64 7,.bool b,.int .i64 n,.string t,.string x,.slice p len cap] 60)
 have f0:=S.c0
 have f1:=S.c1
 have f2:=S.c2
 have f3:=S.c3
 have f4:=S.c4
 have f5:=S.c5
 rw [fitsK7]
 obtain ⟨r,hr⟩:∃ r,r=(decide (0≤n) && (!b && !(!t.toList.isEmpty) && !(!x.toList.isEmpty) && !(decide (0 < len)))):=⟨_,rfl⟩
 rw [← hr]
 obtain ⟨w1,hw1⟩:∃ w1,w1=w.alloc (.cells #[.int .i64 7,.bool b,.int .i64 n,.string t,.string x,.slice p len cap] 60):=⟨_,rfl⟩
 rw [← hw1] at S b0
 have HW:=Lib.hid hw1
 have HR:=Lib.hid hr
 clear hw1 hr
 go_enter Tryz.func127,Tryz.ntmps127
 go_upto_region 9 with fail
 rw [← HW.out]
 clear f0 f1 f2 f3 f4 f5
 have f0:=S.c0
 have f2:=S.c2
 have f3:=S.c3
 have f4:=S.c4
 have HR2:=HR.out
 clear HR
 generalize (n != 0)=nb at HR2 ⊢
 generalize (!t.toList.isEmpty)=tb at HR2 ⊢
 generalize (!x.toList.isEmpty)=xb at HR2 ⊢
 generalize decide (0 < len)=lb at HR2 ⊢
 have HR3:=Lib.hid HR2
 clear HR2 ht hx
 go_wp2_with fail
 all_goals
  go_ret
  exact ⟨by rw [HR3.out];simp_all <;> (intros;omega),b0⟩
end Go.Proofs.YtcfmenkigolnoaaGreatDoor

/- DMd -/
namespace Go.Proofs.YtcfmenkigolnoaaGreatDoor
open Go.RowKit
theorem fitsK8 (b:Bool) (n:Int) (t x:ByteArray) (len:Nat) (r:Bool):zcc 8 b n t x len r=(zcq t && (!b && !(n != 0) && !(!x.toList.isEmpty) && !(decide (0 < len)))):=by
 rw [show zcc 8 b n t x len r=(zcq t && zbx b n ⟨#[]⟩ x len) from rfl]
 rw [zc4]
 rw [zoh]
 simp
set_option maxRecDepth 20000 in
set_option maxHeartbeats 6400000 in
theorem refMay8 (b:Bool) (n:Int) (t x:ByteArray) (p:Option Addr) (len cap d:Nat) (r0:Bool) (w:World) (hd:(d:Int)≤60) (ht:t.size≤2097152) (hx:x.size≤2097152):
 Calls Tryz.prog 127 #[.agg #[.int .i64 8,.bool b,.int .i64 n,.string t,.string x,.slice p len cap],.int .i64 d] w fun e w'=>e=.returned (.bool (zcc 8 b n t x len r0))∧Below w.heap.size w w':=by
 have S:=zal (k:=8) (b:=b) (n:=n) (t:=t) (x:=x) (p:=p) (len:=len) (cap:=cap) w rfl
 have b0:=zar w (.cells #[.int .i64 8,.bool b,.int .i64 n,.string t,.string x,.slice p len cap] 60)
 have f0:=S.c0
 have f1:=S.c1
 have f2:=S.c2
 have f3:=S.c3
 have f4:=S.c4
 have f5:=S.c5
 rw [fitsK8]
 obtain ⟨r,hr⟩:∃ r,r=(zcq t && (!b && !(n != 0) && !(!x.toList.isEmpty) && !(decide (0 < len)))):=⟨_,rfl⟩
 rw [← hr]
 have hC:=fun W=>zy1 t W (by unfold maxLen;omega)
 obtain ⟨w1,hw1⟩:∃ w1,w1=w.alloc (.cells #[.int .i64 8,.bool b,.int .i64 n,.string t,.string x,.slice p len cap] 60):=⟨_,rfl⟩
 rw [← hw1] at S b0
 have HW:=Lib.hid hw1
 have HR:=Lib.hid hr
 clear hw1 hr
 go_enter Tryz.func127,Tryz.ntmps127
 go_upto_region 9 with fail
 rw [← HW.out]
 clear f0 f1 f2 f3 f4 f5
 have f0:=S.c0
 have f2:=S.c2
 have f3:=S.c3
 have f4:=S.c4
 have HR2:=HR.out
 clear HR
 generalize (n != 0)=nb at HR2 ⊢
 generalize (!t.toList.isEmpty)=tb at HR2 ⊢
 generalize (!x.toList.isEmpty)=xb at HR2 ⊢
 generalize decide (0 < len)=lb at HR2 ⊢
 generalize zcq t=C at HR2 hC ⊢
 have HR3:=Lib.hid HR2
 clear HR2 ht hx
 go_wp2_with (go_at_call 161;(with_reducible refine (hC _).mono ?_);rintro e w' ⟨rfl,rfl⟩)
 all_goals
  go_ret
  exact ⟨by rw [HR3.out];simp_all <;> (intros;omega),b0⟩
theorem fitsK9 (b:Bool) (n:Int) (t x:ByteArray) (len:Nat) (r:Bool):zcc 9 b n t x len r=(zdj t && (!b && !(n != 0) && !(!x.toList.isEmpty) && !(decide (0 < len)))):=by
 rw [show zcc 9 b n t x len r=(zdj t && zbx b n ⟨#[]⟩ x len) from rfl]
 rw [zc4]
 rw [zoh]
 simp
set_option maxRecDepth 20000 in
set_option maxHeartbeats 6400000 in
theorem refMay9 (b:Bool) (n:Int) (t x:ByteArray) (p:Option Addr) (len cap d:Nat) (r0:Bool) (w:World) (hd:(d:Int)≤60) (ht:t.size≤2097152) (hx:x.size≤2097152):
 Calls Tryz.prog 127 #[.agg #[.int .i64 9,.bool b,.int .i64 n,.string t,.string x,.slice p len cap],.int .i64 d] w fun e w'=>e=.returned (.bool (zcc 9 b n t x len r0))∧Below w.heap.size w w':=by
 have S:=zal (k:=9) (b:=b) (n:=n) (t:=t) (x:=x) (p:=p) (len:=len) (cap:=cap) w rfl
 have b0:=zar w (.cells #[.int .i64 9,.bool b,.int .i64 n,.string t,.string x,.slice p len cap] 60)
 have f0:=S.c0
 have f1:=S.c1
 have f2:=S.c2
 have f3:=S.c3
 have f4:=S.c4
 have f5:=S.c5
 rw [fitsK9]
 obtain ⟨r,hr⟩:∃ r,r=(zdj t && (!b && !(n != 0) && !(!x.toList.isEmpty) && !(decide (0 < len)))):=⟨_,rfl⟩
 rw [← hr]
 have hC:=fun W=>refName t W (by unfold maxLen;omega)
 obtain ⟨w1,hw1⟩:∃ w1,w1=w.alloc (.cells #[.int .i64 9,.bool b,.int .i64 n,.string t,.string x,.slice p len cap] 60):=⟨_,rfl⟩
 rw [← hw1] at S b0
 have HW:=Lib.hid hw1
 have HR:=Lib.hid hr
 clear hw1 hr
 go_enter Tryz.func127,Tryz.ntmps127
 go_upto_region 9 with fail
 rw [← HW.out]
 clear f0 f1 f2 f3 f4 f5
 have f0:=S.c0
 have f2:=S.c2
 have f3:=S.c3
 have f4:=S.c4
 have HR2:=HR.out
 clear HR
 generalize (n != 0)=nb at HR2 ⊢
 generalize (!t.toList.isEmpty)=tb at HR2 ⊢
 generalize (!x.toList.isEmpty)=xb at HR2 ⊢
 generalize decide (0 < len)=lb at HR2 ⊢
 generalize zdj t=C at HR2 hC ⊢
 have HR3:=Lib.hid HR2
 clear HR2 ht hx
 go_wp2_with (go_at_call 162;(with_reducible refine (hC _).mono ?_);rintro e w' ⟨rfl,rfl⟩)
 all_goals
  go_ret
  exact ⟨by rw [HR3.out];simp_all <;> (intros;omega),b0⟩
theorem fitsK10 (b:Bool) (n:Int) (t x:ByteArray) (len:Nat) (r:Bool):zcc 10 b n t x len r=(decide ((t.size:Int)≤1048576) && (zcq x && (!b && !(n != 0) && !(decide (0 < len))))):=by
 rw [show zcc 10 b n t x len r=(decide (t.size≤1048576) && (zcq x && zbx b n ⟨#[]⟩ ⟨#[]⟩ len)) from rfl]
 rw [zc4]
 rw [zoh,show decide (t.size≤1048576)=decide ((t.size:Int)≤1048576) from decide_eq_decide.2 (by omega)]
 simp
set_option maxRecDepth 20000 in
set_option maxHeartbeats 6400000 in
theorem zx9 (b:Bool) (n:Int) (t x:ByteArray) (p:Option Addr) (len cap d:Nat) (r0:Bool) (w:World) (hd:(d:Int)≤60) (ht:t.size≤2097152) (hx:x.size≤2097152):
 Calls Tryz.prog 127 #[.agg #[.int .i64 10,.bool b,.int .i64 n,.string t,.string x,.slice p len cap],.int .i64 d] w fun e w'=>e=.returned (.bool (zcc 10 b n t x len r0))∧Below w.heap.size w w':=by
 have S:=zal (k:=10) (b:=b) (n:=n) (t:=t) (x:=x) (p:=p) (len:=len) (cap:=cap) w rfl
 have b0:=zar w (.cells #[.int .i64 10,.bool b,.int .i64 n,.string t,.string x,.slice p len cap] 60)
 have f0:=S.c0
 have f1:=S.c1
 have f2:=S.c2
 have f3:=S.c3
 have f4:=S.c4
 have f5:=S.c5
 rw [fitsK10]
 obtain ⟨r,hr⟩:∃ r,r=(decide ((t.size:Int)≤1048576) && (zcq x && (!b && !(n != 0) && !(decide (0 < len))))):=⟨_,rfl⟩
 rw [← hr]
 have hC:=fun W=>zy1 x W (by unfold maxLen;omega)
 obtain ⟨w1,hw1⟩:∃ w1,w1=w.alloc (.cells #[.int .i64 10,.bool b,.int .i64 n,.string t,.string x,.slice p len cap] 60):=⟨_,rfl⟩
 rw [← hw1] at S b0
 have HW:=Lib.hid hw1
 have HR:=Lib.hid hr
 clear hw1 hr
 go_enter Tryz.func127,Tryz.ntmps127
 go_upto_region 9 with fail
 rw [← HW.out]
 clear f0 f1 f2 f3 f4 f5
 have f0:=S.c0
 have f2:=S.c2
 have f3:=S.c3
 have f4:=S.c4
 have HR2:=HR.out
 clear HR
 generalize (n != 0)=nb at HR2 ⊢
 generalize (!t.toList.isEmpty)=tb at HR2 ⊢
 generalize (!x.toList.isEmpty)=xb at HR2 ⊢
 generalize decide (0 < len)=lb at HR2 ⊢
 generalize zcq x=C at HR2 hC ⊢
 have HR3:=Lib.hid HR2
 clear HR2 ht hx
 go_wp2_with (go_at_call 161;(with_reducible refine (hC _).mono ?_);rintro e w' ⟨rfl,rfl⟩)
 all_goals
  go_ret
  exact ⟨by rw [HR3.out];simp_all <;> (intros;omega),b0⟩
end Go.Proofs.YtcfmenkigolnoaaGreatDoor

/- DMe -/
namespace Go.Proofs.YtcfmenkigolnoaaGreatDoor
open Go.RowKit
def zgw (v:Val) (d:Nat):Prop:=∀ (W:World) (k:Int) (b:Bool) (n:Int) (t x:ByteArray) (q:List Val) (p:Option Addr) (cap:Nat),v=.mk k b n t x q→Fine n t x q.length→Held W (.slice p q.length cap) q→
 Calls Tryz.prog 127 #[.agg #[.int .i64 k,.bool b,.int .i64 n,.string t,.string x,.slice p q.length cap],.int .i64 d] W fun e w'=>e=.returned (.bool (mayP v d))∧Below W.heap.size W w'
set_option maxRecDepth 20000 in
set_option maxHeartbeats 6400000 in
theorem refMayX (k:Int) (b:Bool) (n:Int) (t x:ByteArray) (p:Option Addr) (len cap d:Nat) (r0:Bool) (w:World) (hd:(d:Int)≤60) (hk:k < 0∨10 < k):
 Calls Tryz.prog 127 #[.agg #[.int .i64 k,.bool b,.int .i64 n,.string t,.string x,.slice p len cap],.int .i64 d] w fun e w'=>e=.returned (.bool (zcc k b n t x len r0))∧Below w.heap.size w w':=by
 have S:=zal (k:=k) (b:=b) (n:=n) (t:=t) (x:=x) (p:=p) (len:=len) (cap:=cap) w rfl
 have b0:=zar w (.cells #[.int .i64 k,.bool b,.int .i64 n,.string t,.string x,.slice p len cap] 60)
 have f0:=S.c0
 have f1:=S.c1
 have f2:=S.c2
 have f3:=S.c3
 have f4:=S.c4
 have f5:=S.c5
 have e:zcc k b n t x len r0=false:=by
  unfold zcc
  rw [if_neg (by omega),if_neg (by omega),if_neg (by omega),if_neg (by omega),if_neg (by omega),if_neg (by omega),if_neg (by omega),if_neg (by omega),if_neg (by omega),if_neg (by omega)]
 rw [e]
 have e0:(k == 0)=false:=by simp;omega
 have e1:(k == 1)=false:=by simp;omega
 have e2:(k == 2)=false:=by simp;omega
 have e3:(k == 3)=false:=by simp;omega
 have e4:(k == 4)=false:=by simp;omega
 have e5:(k == 5)=false:=by simp;omega
 have e6:(k == 6)=false:=by simp;omega
 have e7:(k == 7)=false:=by simp;omega
 have e8:(k == 8)=false:=by simp;omega
 have e9:(k == 9)=false:=by simp;omega
 have e10:(k == 10)=false:=by simp;omega
 clear hk e
 go_enter Tryz.func127,Tryz.ntmps127
 go_wp2_with fail
 go_ret
 exact ⟨rfl,b0⟩
set_option maxRecDepth 20000 in
set_option maxHeartbeats 6400000 in
theorem refMay5 (b:Bool) (n:Int) (t x:ByteArray) (q:List Val) (p:Option Addr) (cap d:Nat) (w:World) (hd:(d:Int)≤60) (hf:Fine n t x q.length) (hl:Held w (.slice p q.length cap) q) (each:d+1≤60→∀ v∈q,zgw v (d+1)):
 Calls Tryz.prog 127 #[.agg #[.int .i64 5,.bool b,.int .i64 n,.string t,.string x,.slice p q.length cap],.int .i64 d] w fun e w'=>e=.returned (.bool (zcc 5 b n t x q.length (decide (q.length≤4096) && decide (d+1≤60) && zem q (d+1))))∧Below w.heap.size w w':=by
 obtain ⟨r,hr⟩:∃ r,r=zcc 5 b n t x q.length (decide (q.length≤4096) && decide (d+1≤60) && zem q (d+1)):=⟨_,rfl⟩
 rw [← hr]
 have S:=zal (k:=5) (b:=b) (n:=n) (t:=t) (x:=x) (p:=p) (len:=q.length) (cap:=cap) w rfl
 have b0:=zar w (.cells #[.int .i64 5,.bool b,.int .i64 n,.string t,.string x,.slice p q.length cap] 60)
 obtain ⟨m,hm⟩:∃ m,m=q.length:=⟨_,rfl⟩
 have hr2:r=(decide (m≤4096) && decide (d+1≤60) && zem q (d+1) && (!b && !(n != 0) && !(!t.toList.isEmpty) && !(!x.toList.isEmpty))):=by
  rw [hr,hm,show zcc 5 b n t x q.length (decide (q.length≤4096) && decide (d+1≤60) && zem q (d+1))=(decide (q.length≤4096) && decide (d+1≤60) && zem q (d+1) && zbx b n t x 0) from rfl,zc4]
  simp
 rw [← hm] at S b0 ⊢
 clear hr
 have f0:=S.c0
 have f1:=S.c1
 have f2:=S.c2
 have f3:=S.c3
 have f4:=S.c4
 have f5:=S.c5
 have HM:=Lib.hid hm
 by_cases hall:((!b && !(n != 0) && !(!t.toList.isEmpty) && !(!x.toList.isEmpty))=true∧m≤4096)∧d+1≤60
 ·obtain ⟨⟨h1,h2⟩,h3⟩:=hall
  rw [h1,decide_eq_true h2,decide_eq_true h3,Bool.true_and,Bool.true_and,Bool.and_true] at hr2
  simp only [Bool.and_eq_true,Bool.not_eq_true',Bool.not_not] at h1
  obtain ⟨⟨⟨rfl,hn0⟩,ht0⟩,hx0⟩:=h1
  have hd1:(d:Int)+1≤60:=by omega
  have HE:=Lib.hid (each h3)
  have HR:=Lib.hid hr2
  have HL:=Lib.hid hl
  have HS:=Lib.hid S
  have h2i:(m:Int)≤4096:=by omega
  clear each hr2 hl hm hf S
  go_enter Tryz.func127,Tryz.ntmps127
  go_wp2_with fail
  go_loopw [10] (fun i wr=>∃ j:Nat,j≤m∧i=.int .i64 j∧Below w.heap.size w wr∧Six wr w.heap.size 5 false n t x p m cap∧Hid (∀ (i:Nat) (h:i < q.length),i < j→mayP q[i] (d+1)=true)) (fun i _=>m - (intOf i).toNat)
  case atStart=>exact ⟨0,Nat.zero_le _,rfl,b0,HS.out,Lib.hid fun _ _ h=>absurd h (by omega)⟩
  case round=>
   clear f0 f1 f2 f3 f4 f5 b0
   obtain ⟨j,hj,rfl,hb,S,HA⟩:=hrel
   have f5:=S.c5
   by_cases hlt:(j:Int) < m
   ·have hj1:j < q.length:=by have:=HM.out;omega
    obtain ⟨g,off,rfl,hh⟩:∃ g off,p=some ⟨g,off,none⟩∧zb8 w g off q:=by
     have hq:=HL.out
     cases q with
     | nil=>simp at hj1
     | cons v r=>exact hq.form
    obtain ⟨k1,b1,n1,t1,x1,q1,p1,cp1,o1⟩:=((zb8.at_ q off hh j hj1).below _ hb).opens
    have hc:=HE.out q[j] (List.getElem_mem hj1) wr k1 b1 n1 t1 x1 q1 p1 cp1 o1.e o1.hf o1.hl
    obtain ⟨c,hcc⟩:∃ c,c=mayP q[j] (d+1):=⟨_,rfl⟩
    rw [← hcc] at hc
    have hc':Calls Tryz.prog 127 #[.agg #[.int .i64 k1,.bool b1,.int .i64 n1,.string t1,.string x1,.slice p1 q1.length cp1],.int .i64 ((d:Int)+1)] wr fun e w'=>e=.returned (.bool c)∧Below wr.heap.size wr w':=hc
    have HC:=Lib.hid hcc
    have HC2:=Lib.hid hc'
    clear hc hc' hcc
    have O1:=Lib.hid o1
    clear o1 hh
    cases c with
    | true=>
      go_wp2_with (first
       |((with_reducible refine zbu (.tmp 158) g (off+j*6) k1 b1 n1 t1 x1 _ O1.out.c0 O1.out.c1 O1.out.c2 O1.out.c3 O1.out.c4 O1.out.c5 ?_ ?_ ?_ ?_);rfl;rfl;rfl)
       |(go_at_call 127;(with_reducible refine HC2.out.mono ?_);rintro e w3 ⟨rfl,hb3⟩;have b3:=zab hb hb3 hb.size;have S3:=S.below hb3;clear hb3))
      go_roundw
      case rel=>
       refine ⟨j+1,by omega,by go_num,b3,S3,Lib.hid fun i hi hlt'=>?_⟩
       by_cases e:i=j
       ·subst e;exact HC.out.symm
       ·exact HA.out i hi (by omega)
      case measure=>simp [intOf];omega
    | false=>
      go_wp2_with (first
       |((with_reducible refine zbu (.tmp 158) g (off+j*6) k1 b1 n1 t1 x1 _ O1.out.c0 O1.out.c1 O1.out.c2 O1.out.c3 O1.out.c4 O1.out.c5 ?_ ?_ ?_ ?_);rfl;rfl;rfl)
       |(go_at_call 127;(with_reducible refine HC2.out.mono ?_);rintro e w3 ⟨rfl,hb3⟩;have b3:=zab hb hb3 hb.size;clear hb3))
      go_ret
      exact ⟨by rw [HR.out,zhz q (d+1) j hj1 HC.out.symm];rfl,b3⟩
   ·go_wp2_with fail
    go_ret
    exact ⟨by rw [HR.out,zil q (d+1) fun i h=>HA.out i h (by have:=HM.out;omega)];rfl,hb⟩
 ·have hr3:r=false:=by
   rw [hr2,Bool.eq_false_iff]
   intro h
   simp only [Bool.and_eq_true,decide_eq_true_eq] at h hall
   exact hall ⟨⟨⟨⟨⟨h.2.1.1.1,h.2.1.1.2⟩,h.2.1.2⟩,h.2.2⟩,h.1.1.1⟩,h.1.1.2⟩
  subst hr3
  have HALL:=Lib.hid hall
  clear hr2 hall each hl hf hm
  obtain ⟨w1,hw1⟩:∃ w1,w1=w.alloc (.cells #[.int .i64 5,.bool b,.int .i64 n,.string t,.string x,.slice p m cap] 60):=⟨_,rfl⟩
  rw [← hw1] at S b0
  have HW:=Lib.hid hw1
  clear hw1
  go_enter Tryz.func127,Tryz.ntmps127
  go_upto_region 9 with fail
  rw [← HW.out]
  clear f0 f1 f2 f3 f4 f5
  have f5:=S.c5
  have HA:=HALL.out
  generalize (n != 0)=nb at HA ⊢
  generalize (!t.toList.isEmpty)=tb at HA ⊢
  generalize (!x.toList.isEmpty)=xb at HA ⊢
  have HA3:=Lib.hid HA
  clear HA HALL
  go_wp2_with fail
  all_goals
   first
   |(go_ret
     exact ⟨rfl,b0⟩)
   |(exfalso
     have:=HA3.out
     simp_all
     omega)
end Go.Proofs.YtcfmenkigolnoaaGreatDoor

/- DMf -/
namespace Go.Proofs.YtcfmenkigolnoaaGreatDoor
open Go.RowKit
theorem zr7 (v:Val) (k:Int) (b:Bool) (n:Int) (t x:ByteArray) (q:List Val) (ev:v=.mk k b n t x q) (d:Nat) (hd:d≤60) (each:d+1≤60→∀ u∈q,zgw u (d+1)):zgw v d:=by
 subst ev
 intro W k1 b1 n1 t1 x1 q1 p cap e hf hl
 cases e
 rw [show mayP (.mk k b n t x q) d=zcc k b n t x q.length (decide (q.length≤4096) && decide (d+1≤60) && zem q (d+1)) by conv=>lhs;unfold mayP]
 have hd':(d:Int)≤60:=by omega
 by_cases h0:k=0
 ·subst h0;exact refMay0 b n t x p q.length cap d _ W hd' hf.ht hf.hx
 by_cases h1:k=1
 ·subst h1;exact refMay1 b n t x p q.length cap d _ W hd' hf.ht hf.hx
 by_cases h2:k=2
 ·subst h2;exact refMay2 b n t x p q.length cap d _ W hd' hf.ht hf.hx
 by_cases h3:k=3
 ·subst h3;exact refMay3 b n t x p q.length cap d _ W hd' hf.ht hf.hx
 by_cases h4:k=4
 ·subst h4;exact refMay4 b n t x p q.length cap d _ W hd' hf.ht hf.hx
 by_cases h5:k=5
 ·subst h5;exact refMay5 b n t x q p cap d W hd' hf hl each
 by_cases h6:k=6
 ·subst h6;exact refMay6 b n t x p q.length cap d _ W hd' hf.ht hf.hx
 by_cases h7:k=7
 ·subst h7;exact refMay7 b n t x p q.length cap d _ W hd' hf.ht hf.hx
 by_cases h8:k=8
 ·subst h8;exact refMay8 b n t x p q.length cap d _ W hd' hf.ht hf.hx
 by_cases h9:k=9
 ·subst h9;exact refMay9 b n t x p q.length cap d _ W hd' hf.ht hf.hx
 by_cases h10:k=10
 ·subst h10;exact zx9 b n t x p q.length cap d _ W hd' hf.ht hf.hx
 exact refMayX k b n t x p q.length cap d _ W hd' (by omega)
mutual
theorem zoi:(v:Val)→(d:Nat)→d≤60→zgw v d
 | .mk k b n t x q,d,hd=>zr7 _ k b n t x q rfl d hd (fun h=>zkk q (d+1) h)
theorem zkk:(q:List Val)→(d:Nat)→d≤60→∀ u∈q,zgw u d
 | [],_,_,_,h=>absurd h (by simp)
 | v::r,d,hd,u,h=>by
   rcases List.mem_cons.1 h with h | h
   ·rw [h];exact zoi v d hd
   ·exact zkk r d hd u h
end
set_option maxHeartbeats 1600000 in
theorem zoj (k:Int) (b:Bool) (n:Int) (t x:ByteArray) (q:List Val) (p:Option Addr) (cap:Nat) (w:World) (hf:Fine n t x q.length) (hl:Held w (.slice p q.length cap) q):
 Calls Tryz.prog 108 #[.agg #[.int .i64 k,.bool b,.int .i64 n,.string t,.string x,.slice p q.length cap]] w fun e w'=>e=.returned (.bool (mayP (.mk k b n t x q) 0))∧Below w.heap.size w w':=by
 obtain ⟨w1,hw1⟩:∃ w1,w1=w.alloc (.cells #[.int .i64 k,.bool b,.int .i64 n,.string t,.string x,.slice p q.length cap] 60):=⟨_,rfl⟩
 have S:Six w1 w.heap.size k b n t x p q.length cap:=by rw [hw1];exact zal _ rfl
 have b0:Below w.heap.size w w1:=by rw [hw1];exact zar _ _
 have hc:=zoi (.mk k b n t x q) 0 (by omega) w1 k b n t x q p cap rfl hf (Held.below q hl b0)
 have hc':Calls Tryz.prog 127 #[.agg #[.int .i64 k,.bool b,.int .i64 n,.string t,.string x,.slice p q.length cap],.int .i64 0] w1 fun e w'=>e=.returned (.bool (mayP (.mk k b n t x q) 0))∧Below w1.heap.size w1 w':=hc
 have HW:=Lib.hid hw1
 clear hw1 hl hf hc
 generalize mayP (.mk k b n t x q) 0=r at hc' ⊢
 go_enter Tryz.func108,Tryz.ntmps108
 go_wp2_with (first
  |(rw [← HW.out];(with_reducible refine zan (.tmp 1) w.heap.size S ?_ ?_ ?_ ?_);rfl;rfl;rfl)
  |(go_at_call 127;(with_reducible refine hc'.mono ?_);rintro e w3 ⟨rfl,hb3⟩;replace b0:=zab b0 hb3 b0.size))
 go_ret
 exact ⟨rfl,b0⟩
end Go.Proofs.YtcfmenkigolnoaaGreatDoor
