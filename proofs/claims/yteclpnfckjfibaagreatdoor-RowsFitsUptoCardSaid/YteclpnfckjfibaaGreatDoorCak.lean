/- Texts of one kind, one behind the other: each says ahead of itself what it shows. -/
import Derived.Test.YteclpnfckjfibaaGreatDoorCaj
import Derived.Test.YteclpnfckjfibaaGreatDoorCai
import Derived.Test.YteclpnfckjfibaaGreatDoorCad
import Derived.Deep.CutBlock
import Derived.Deep.LoopGhost
import Derived.Test.YteclpnfckjfibaaGreatDoorCah
import Derived.Deep.QuietTactic
import Derived.BigQuiet
import Derived.Maps.OwnOps
import Derived.Maps.OwnSet
import Derived.Maps.AppendAt
import Derived.Maps.Views
namespace Go.Proofs.YteclpnfckjfibaaGreatDoor
open Go.RowKit
set_option maxHeartbeats 12800000
set_option maxRecDepth 20000
def zmv (l:List UInt8):Value:=z03 (zlh l)
theorem okP_all {r:List UInt8} (h:okP r=true):(Lib.cut r [46]).1.all za8=true∧(Lib.cut r [46]).2.1.all za8=true:=by
 unfold okP at h
 rw [Bool.and_eq_true] at h
 refine ⟨by have:=h.1;unfold digs at this;rw [Bool.and_eq_true] at this;exact this.2,?_⟩
 cases hf:(Lib.cut r [46]).2.2 with
 | true=>
   have:=h.2
   rw [hf] at this
   simp only [Bool.not_true,Bool.false_or] at this
   unfold digs at this
   rw [Bool.and_eq_true] at this
   exact this.2
 | false=>
   have:(Lib.cut r [46]).2.1=[]:=by
    by_cases hi:0≤Lib.index r [46]
    ·unfold Lib.cut at hf;rw [if_pos hi] at hf;cases hf
    ·unfold Lib.cut;rw [if_neg hi]
   rw [this];rfl
theorem cut_sum (r:List UInt8):(Lib.cut r [46]).1.length+(Lib.cut r [46]).2.1.length≤r.length:=by
 unfold Lib.cut
 split
 ·simp;omega
 ·simp
theorem ztd (s:ByteArray) (w:World) (hs:s.size≤1000000000) (h:okP (sgn s.data.toList).2=false):
 Calls Tryz.prog 219 #[.string s] w fun e w'=>e=.returned (.tuple #[.agg #[.bool false,.slice none 0 0,.int .i64 0],.bool false])∧Below w.heap.size w w':=
 (zro s w hs).mono fun _ _ ⟨hb,h1,_⟩=>⟨h1 h,hb⟩
theorem zdm {w:World} {v:Value} {ds:List Nat} (h:Ints w v ds):v.oneCell'=true:=by
 rcases h with ⟨rfl,_⟩ | ⟨_,_,_,rfl,_,_⟩ <;> rfl
theorem zmg (s:ByteArray) (w:World) (hs:s.size≤1000000000) (h:okP (sgn s.data.toList).2=true) (N:Bool) (ds:List Nat) (sc:Nat) (hN:Hid (N=(sgn s.data.toList).1)) (hd:Hid (ds=revD ((Lib.cut (sgn s.data.toList).2 [46]).1++(Lib.cut (sgn s.data.toList).2 [46]).2.1)))
 (hsc:Hid (sc=(Lib.cut (sgn s.data.toList).2 [46]).2.1.length)):
 Calls Tryz.prog 219 #[.string s] w fun e w'=>∃ v,e=.returned (.tuple #[.agg #[.bool N,v,.int .i64 sc],.bool true])∧Ints w' v ds∧Below w.heap.size w w':=
 (zro s w hs).mono fun _ _ ⟨hb,_,h2⟩=>by
   obtain ⟨v,e,hi⟩:=h2 h
   exact ⟨v,by rw [e,hN.out,hsc.out];rfl,by rw [hd.out];exact hi,hb⟩
theorem z1y (N:Bool) (v:Value) (ds:List Nat) (sc:Nat) (w:World) (h:Ints w v ds) (hs:zcb ds) (l1:sc≤1000000000) (l2:ds.length≤1000000000) (t:ByteArray) (er:Int) (hv:Hid (said (zrq N ds sc)=.tuple #[.string t,.int .i64 er])):
 Calls Tryz.prog 220 #[.agg #[.bool N,v,.int .i64 sc]] w fun e w'=>e=.returned (.tuple #[.string t,.int .i64 er])∧Below w.heap.size w w':=by
 have:=refForm N v ds sc w h hs l1 l2
 rw [hv.out] at this
 exact this
theorem refRead (s:ByteArray) (w:World) (hs:s.size≤1000000000):
 Calls Tryz.prog 191 #[.string s] w fun e w'=>e=.returned (zmv s.data.toList)∧Below w.heap.size w w':=by
 have hrp:zmv s.data.toList=if okP (sgn s.data.toList).2=true then said (wr (sgn s.data.toList).1 (Lib.cut (sgn s.data.toList).2 [46]).1 (Lib.cut (sgn s.data.toList).2 [46]).2.1) else .tuple #[.string ⟨#[]⟩,.int .i64 6]:=by
  unfold zmv zlh
  rw [zrk]
  by_cases h:okP (sgn s.data.toList).2=true
  ·rw [if_pos h,if_pos h];rfl
  ·rw [if_neg h,if_neg h];rfl
 rw [hrp]
 clear hrp
 have k0:∀ W:World,Rec (W.alloc (.cells #[.bool false,.slice none 0 0,.int .i64 0] 224)) W.heap.size false (.slice none 0 0) 0:=fun W=>zaf _ _ rfl
 have K0:=Lib.hid k0
 clear k0
 by_cases hok:okP (sgn s.data.toList).2=true
 ·rw [if_pos hok]
  obtain ⟨ha,hb⟩:=okP_all hok
  obtain ⟨N,hN⟩:∃ N,N=(sgn s.data.toList).1:=⟨_,rfl⟩
  obtain ⟨sc,hsc⟩:∃ sc,sc=(Lib.cut (sgn s.data.toList).2 [46]).2.1.length:=⟨_,rfl⟩
  obtain ⟨ds,hds⟩:∃ ds,ds=revD ((Lib.cut (sgn s.data.toList).2 [46]).1++(Lib.cut (sgn s.data.toList).2 [46]).2.1):=⟨_,rfl⟩
  have hfr:=zyz N _ _ ha hb
  rw [← hds,← hsc] at hfr
  rw [← hN,← hfr]
  have hsm:zcb ds:=by rw [hds];exact zkv _ (by rw [List.all_append,ha,hb];rfl)
  have hlen:sc≤1000000000∧ds.length≤1000000000:=by
   have h1:=cut_sum (sgn s.data.toList).2
   have h2:=zp4 s.data.toList
   have h3:s.data.toList.length=s.size:=Array.length_toList
   rw [hsc,hds,zig,List.length_append];omega
  have HC:Hid (∀ W,Calls Tryz.prog 219 #[.string s] W fun e w'=>∃ v,e=.returned (.tuple #[.agg #[.bool N,v,.int .i64 sc],.bool true])∧Ints w' v ds∧Below W.heap.size W w'):=
   Lib.hid fun W=>zmg s W hs hok N ds sc (Lib.hid hN) (Lib.hid hds) (Lib.hid hsc)
  obtain ⟨t,er,hv0⟩:=zm8 (zrq N ds sc)
  rw [hv0]
  have HV0:=Lib.hid hv0
  have HL:=Lib.hid hlen
  have HS:=Lib.hid hsm
  clear hlen hsm hv0 hfr hN hsc hds ha hb hok
  go_enter Tryz.func191,Tryz.ntmps191
  go_wp2_with (first
   |(go_at_call 219;(with_reducible refine (HC.out _).mono ?_);rintro e w1 ⟨v,rfl,hi,hb1⟩;have HI:=Lib.hid (And.intro hi hb1);have k1:=K0.out w1;clear hi hb1)
   |((with_reducible refine zba (m:=N) (u:=v) (sd:=sc) (.tmp 4) (.tmp 9) w1.heap.size k1 (zdm HI.out.1) ?_ ?_ ?_ ?_ ?_);rfl;rfl;rfl;rfl;intro w2 ho p1;have hb2:=zam ((Below.refl w1.heap.size w1).alloc (Nat.le_refl _) _) ho (Nat.le_refl _) (Nat.le_of_lt k1.lt);have HI2:=Lib.hid (HI.out.1.below hb2);have HB2:=Lib.hid (zab HI.out.2 hb2 HI.out.2.size);clear hb2 ho)
   |((with_reducible refine zck (.tmp 4) w1.heap.size p1 ?_ ?_ ?_ ?_);rfl;rfl;rfl)
   |(go_at_call 220;(with_reducible refine (z1y N v ds sc w2 HI2.out HS.out HL.out.1 HL.out.2 t er HV0).mono ?_);rintro e w3 ⟨rfl,hb3⟩;have HB3:=Lib.hid (zab HB2.out hb3 HB2.out.size);clear hb3))
  go_ret2
  exact ⟨rfl,HB3.out⟩
 ·rw [if_neg hok]
  have HC:Hid (∀ W,Calls Tryz.prog 219 #[.string s] W fun e w'=>e=.returned (.tuple #[.agg #[.bool false,.slice none 0 0,.int .i64 0],.bool false])∧Below W.heap.size W w'):=
   Lib.hid fun W=>ztd s W hs (by simpa using hok)
  clear hok
  go_enter Tryz.func191,Tryz.ntmps191
  go_wp2_with (first
   |(go_at_call 219;(with_reducible refine (HC.out _).mono ?_);rintro e w1 ⟨rfl,hb1⟩;have HB:=Lib.hid hb1;have k1:=K0.out w1;clear hb1)
   |((with_reducible refine zba (m:=false) (u:=.slice none 0 0) (sd:=0) (.tmp 4) (.tmp 9) w1.heap.size k1 rfl ?_ ?_ ?_ ?_ ?_);rfl;rfl;rfl;rfl;intro w2 ho p1;have hb2:=zam ((Below.refl w1.heap.size w1).alloc (Nat.le_refl _) _) ho (Nat.le_refl _) (Nat.le_of_lt k1.lt);have HB2:=Lib.hid (zab HB.out hb2 HB.out.size);clear hb2 ho))
  go_ret2
  exact ⟨rfl,HB2.out⟩
theorem zqi (s:ByteArray) (w:World) (hs:s.size≤1000000000):
 Calls Tryz.prog 154 #[.string s] w fun e w'=>e=.returned (.bool (chk s.data.toList))∧Below w.heap.size w w':=by
 obtain ⟨t,k,hv,hk,ht⟩:=zo3 (zlh s.data.toList)
 have hc:∀ W,Calls Tryz.prog 191 #[.string s] W fun e w'=>e=.returned (.tuple #[.string t,.int .i64 k])∧Below W.heap.size W w':=fun W=>by
  have:=refRead s W hs
  unfold zmv at this
  rwa [hv] at this
 have HC:=Lib.hid hc
 clear hc hv
 by_cases h:chk s.data.toList=true
 ·have hr:zlh s.data.toList=some (some s.data.toList):=by simpa [chk] using h
  obtain rfl:k=0:=hk.2 ⟨_,hr⟩
  obtain rfl:t=s:=by rw [ht _ hr]
  rw [h]
  have HH:=Lib.hid h
  clear h hr hk ht
  go_enter Tryz.func154,Tryz.ntmps154
  go_wp2_with (go_at_call 191;(with_reducible refine (HC.out _).mono ?_);rintro e w1 ⟨rfl,hb⟩)
  go_ret
  exact ⟨rfl,hb⟩
 ·have hf:chk s.data.toList=false:=by simpa using h
  rw [hf]
  by_cases h0:k=0
  ·subst h0
   obtain ⟨l,hl⟩:=hk.1 rfl
   have hne:¬ t=s:=by
    rw [ht _ hl]
    intro e
    apply h
    unfold chk
    rw [hl,← e]
    simp
   have e2:(t.toList == s.toList)=false:=beq_eq_false_iff_ne.2 (fun e=>hne (zdh (by rw [← ByteArray.toList_eq,← ByteArray.toList_eq];exact e)))
   clear h hf hk ht hl hne
   go_enter Tryz.func154,Tryz.ntmps154
   go_wp2_with (go_at_call 191;(with_reducible refine (HC.out _).mono ?_);rintro e w1 ⟨rfl,hb⟩)
   go_ret
   exact ⟨rfl,hb⟩
  ·have e0:(k == 0)=false:=by simpa using h0
   clear h hf hk ht
   go_enter Tryz.func154,Tryz.ntmps154
   go_wp2_with (go_at_call 191;(with_reducible refine (HC.out _).mono ?_);rintro e w1 ⟨rfl,hb⟩)
   go_ret
   exact ⟨rfl,hb⟩
theorem zy0 (s:ByteArray) (d:Bool) (w:World) (hs:s.size≤1000000000) (hd:Hid (d=chk s.data.toList)):
 Calls Tryz.prog 154 #[.string s] w fun e w'=>e=.returned (.bool d)∧Below w.heap.size w w':=by
 rw [hd.out];exact zqi s w hs
theorem zdn (b:Bool) (n:Int) (t x:ByteArray) (len:Nat):zb6 b n t x len=(!b && !(n != 0) && !(!t.toList.isEmpty) && !(!x.toList.isEmpty) && !(decide (0 < len))):=by
 have e1:decide (n=0)=!(n != 0):=by cases h:(n != 0) <;> simp_all
 have e2:decide (t.size=0)=!(!t.toList.isEmpty):=by
  rw [Bool.not_not,Bool.eq_iff_iff,decide_eq_true_eq]
  exact (zcx t).symm
 have e3:decide (x.size=0)=!(!x.toList.isEmpty):=by
  rw [Bool.not_not,Bool.eq_iff_iff,decide_eq_true_eq]
  exact (zcx x).symm
 have e4:decide (len=0)=!(decide (0 < len)):=by
  rw [Bool.eq_iff_iff]
  simp
 unfold zb6
 rw [e1,e2,e3,e4]
theorem zrr:(!(⟨#[]⟩:ByteArray).toList.isEmpty)=false:=by
 have:=(zcx ⟨#[]⟩).2 rfl
 rw [this]
 rfl
theorem fitsK0 (b:Bool) (n:Int) (t x:ByteArray) (len:Nat) (r:Bool):zb0 0 b n t x len r=(!b && !(n != 0) && !(!t.toList.isEmpty) && !(!x.toList.isEmpty) && !(decide (0 < len))):=by
 rw [show zb0 0 b n t x len r=zb6 b n t x len from rfl]
 rw [zdn]
theorem refMay0 (b:Bool) (n:Int) (t x:ByteArray) (p:Option Addr) (len cap d:Nat) (r0:Bool) (w:World) (hd:(d:Int)≤60) (ht:t.size≤2097152) (hx:x.size≤2097152):
 Calls Tryz.prog 98 #[.agg #[.int .i64 0,.bool b,.int .i64 n,.string t,.string x,.slice p len cap],.int .i64 d] w fun e w'=>e=.returned (.bool (zb0 0 b n t x len r0))∧Below w.heap.size w w':=by
 have S:=zaj (k:=0) (b:=b) (n:=n) (t:=t) (x:=x) (p:=p) (len:=len) (cap:=cap) w rfl
 have b0:=za5 w (.cells #[.int .i64 0,.bool b,.int .i64 n,.string t,.string x,.slice p len cap] 48)
 have f0:=S.c0
 have f1:=S.c1
 have f2:=S.c2
 have f3:=S.c3
 have f4:=S.c4
 have f5:=S.c5
 rw [fitsK0]
 obtain ⟨r,hr⟩:∃ r,r=(!b && !(n != 0) && !(!t.toList.isEmpty) && !(!x.toList.isEmpty) && !(decide (0 < len))):=⟨_,rfl⟩
 rw [← hr]
 obtain ⟨w1,hw1⟩:∃ w1,w1=w.alloc (.cells #[.int .i64 0,.bool b,.int .i64 n,.string t,.string x,.slice p len cap] 48):=⟨_,rfl⟩
 rw [← hw1] at S b0
 have HW:=Lib.hid hw1
 have HR:=Lib.hid hr
 clear hw1 hr
 go_enter Tryz.func98,Tryz.ntmps98
 go_upto_region 9 with fail
 rw [← HW.out]
 clear f0 f1 f2 f3 f4 f5
 have f0:=S.c0
 have f2:=S.c2
 have f3:=S.c3
 have f4:=S.c4
 have HR2:=HR.out
 clear HR
 generalize (n != 0)=nb at HR2 ⊢
 generalize (!t.toList.isEmpty)=tb at HR2 ⊢
 generalize (!x.toList.isEmpty)=xb at HR2 ⊢
 generalize decide (0 < len)=lb at HR2 ⊢
 have HR3:=Lib.hid HR2
 clear HR2 ht hx
 go_wp2_with fail
 all_goals
  go_ret
  exact ⟨by rw [HR3.out];simp_all <;> (intros;omega),b0⟩
theorem fitsK1 (b:Bool) (n:Int) (t x:ByteArray) (len:Nat) (r:Bool):zb0 1 b n t x len r=(!(n != 0) && !(!t.toList.isEmpty) && !(!x.toList.isEmpty) && !(decide (0 < len))):=by
 rw [show zb0 1 b n t x len r=zb6 false n t x len from rfl]
 rw [zdn]
 simp
theorem refMay1 (b:Bool) (n:Int) (t x:ByteArray) (p:Option Addr) (len cap d:Nat) (r0:Bool) (w:World) (hd:(d:Int)≤60) (ht:t.size≤2097152) (hx:x.size≤2097152):
 Calls Tryz.prog 98 #[.agg #[.int .i64 1,.bool b,.int .i64 n,.string t,.string x,.slice p len cap],.int .i64 d] w fun e w'=>e=.returned (.bool (zb0 1 b n t x len r0))∧Below w.heap.size w w':=by
 have S:=zaj (k:=1) (b:=b) (n:=n) (t:=t) (x:=x) (p:=p) (len:=len) (cap:=cap) w rfl
 have b0:=za5 w (.cells #[.int .i64 1,.bool b,.int .i64 n,.string t,.string x,.slice p len cap] 48)
 have f0:=S.c0
 have f1:=S.c1
 have f2:=S.c2
 have f3:=S.c3
 have f4:=S.c4
 have f5:=S.c5
 rw [fitsK1]
 obtain ⟨r,hr⟩:∃ r,r=(!(n != 0) && !(!t.toList.isEmpty) && !(!x.toList.isEmpty) && !(decide (0 < len))):=⟨_,rfl⟩
 rw [← hr]
 obtain ⟨w1,hw1⟩:∃ w1,w1=w.alloc (.cells #[.int .i64 1,.bool b,.int .i64 n,.string t,.string x,.slice p len cap] 48):=⟨_,rfl⟩
 rw [← hw1] at S b0
 have HW:=Lib.hid hw1
 have HR:=Lib.hid hr
 clear hw1 hr
 go_enter Tryz.func98,Tryz.ntmps98
 go_upto_region 9 with fail
 rw [← HW.out]
 clear f0 f1 f2 f3 f4 f5
 have f0:=S.c0
 have f2:=S.c2
 have f3:=S.c3
 have f4:=S.c4
 have HR2:=HR.out
 clear HR
 generalize (n != 0)=nb at HR2 ⊢
 generalize (!t.toList.isEmpty)=tb at HR2 ⊢
 generalize (!x.toList.isEmpty)=xb at HR2 ⊢
 generalize decide (0 < len)=lb at HR2 ⊢
 have HR3:=Lib.hid HR2
 clear HR2 ht hx
 go_wp2_with fail
 all_goals
  go_ret
  exact ⟨by rw [HR3.out];simp_all <;> (intros;omega),b0⟩
theorem fitsK2 (b:Bool) (n:Int) (t x:ByteArray) (len:Nat) (r:Bool):zb0 2 b n t x len r=(!b && !(!t.toList.isEmpty) && !(!x.toList.isEmpty) && !(decide (0 < len))):=by
 rw [show zb0 2 b n t x len r=zb6 b 0 t x len from rfl]
 rw [zdn]
 simp
theorem refMay2 (b:Bool) (n:Int) (t x:ByteArray) (p:Option Addr) (len cap d:Nat) (r0:Bool) (w:World) (hd:(d:Int)≤60) (ht:t.size≤2097152) (hx:x.size≤2097152):
 Calls Tryz.prog 98 #[.agg #[.int .i64 2,.bool b,.int .i64 n,.string t,.string x,.slice p len cap],.int .i64 d] w fun e w'=>e=.returned (.bool (zb0 2 b n t x len r0))∧Below w.heap.size w w':=by
 have S:=zaj (k:=2) (b:=b) (n:=n) (t:=t) (x:=x) (p:=p) (len:=len) (cap:=cap) w rfl
 have b0:=za5 w (.cells #[.int .i64 2,.bool b,.int .i64 n,.string t,.string x,.slice p len cap] 48)
 have f0:=S.c0
 have f1:=S.c1
 have f2:=S.c2
 have f3:=S.c3
 have f4:=S.c4
 have f5:=S.c5
 rw [fitsK2]
 obtain ⟨r,hr⟩:∃ r,r=(!b && !(!t.toList.isEmpty) && !(!x.toList.isEmpty) && !(decide (0 < len))):=⟨_,rfl⟩
 rw [← hr]
 obtain ⟨w1,hw1⟩:∃ w1,w1=w.alloc (.cells #[.int .i64 2,.bool b,.int .i64 n,.string t,.string x,.slice p len cap] 48):=⟨_,rfl⟩
 rw [← hw1] at S b0
 have HW:=Lib.hid hw1
 have HR:=Lib.hid hr
 clear hw1 hr
 go_enter Tryz.func98,Tryz.ntmps98
 go_upto_region 9 with fail
 rw [← HW.out]
 clear f0 f1 f2 f3 f4 f5
 have f0:=S.c0
 have f2:=S.c2
 have f3:=S.c3
 have f4:=S.c4
 have HR2:=HR.out
 clear HR
 generalize (n != 0)=nb at HR2 ⊢
 generalize (!t.toList.isEmpty)=tb at HR2 ⊢
 generalize (!x.toList.isEmpty)=xb at HR2 ⊢
 generalize decide (0 < len)=lb at HR2 ⊢
 have HR3:=Lib.hid HR2
 clear HR2 ht hx
 go_wp2_with fail
 all_goals
  go_ret
  exact ⟨by rw [HR3.out];simp_all <;> (intros;omega),b0⟩
theorem fitsK3 (b:Bool) (n:Int) (t x:ByteArray) (len:Nat) (r:Bool):zb0 3 b n t x len r=(chk t.data.toList && (!b && !(n != 0) && !(!x.toList.isEmpty) && !(decide (0 < len)))):=by
 rw [show zb0 3 b n t x len r=(chk t.data.toList && zb6 b n ⟨#[]⟩ x len) from rfl]
 rw [zdn]
 rw [zrr]
 simp
theorem refMay3 (b:Bool) (n:Int) (t x:ByteArray) (p:Option Addr) (len cap d:Nat) (r0:Bool) (w:World) (hd:(d:Int)≤60) (ht:t.size≤2097152) (hx:x.size≤2097152):
 Calls Tryz.prog 98 #[.agg #[.int .i64 3,.bool b,.int .i64 n,.string t,.string x,.slice p len cap],.int .i64 d] w fun e w'=>e=.returned (.bool (zb0 3 b n t x len r0))∧Below w.heap.size w w':=by
 have S:=zaj (k:=3) (b:=b) (n:=n) (t:=t) (x:=x) (p:=p) (len:=len) (cap:=cap) w rfl
 have b0:=za5 w (.cells #[.int .i64 3,.bool b,.int .i64 n,.string t,.string x,.slice p len cap] 48)
 have f0:=S.c0
 have f1:=S.c1
 have f2:=S.c2
 have f3:=S.c3
 have f4:=S.c4
 have f5:=S.c5
 rw [fitsK3]
 obtain ⟨r,hr⟩:∃ r,r=(chk t.data.toList && (!b && !(n != 0) && !(!x.toList.isEmpty) && !(decide (0 < len)))):=⟨_,rfl⟩
 rw [← hr]
 have hC:=fun W=>zqi t W (by omega)
 obtain ⟨w1,hw1⟩:∃ w1,w1=w.alloc (.cells #[.int .i64 3,.bool b,.int .i64 n,.string t,.string x,.slice p len cap] 48):=⟨_,rfl⟩
 rw [← hw1] at S b0
 have HW:=Lib.hid hw1
 have HR:=Lib.hid hr
 clear hw1 hr
 go_enter Tryz.func98,Tryz.ntmps98
 go_upto_region 9 with fail
 rw [← HW.out]
 clear f0 f1 f2 f3 f4 f5
 have f0:=S.c0
 have f2:=S.c2
 have f3:=S.c3
 have f4:=S.c4
 have HR2:=HR.out
 clear HR
 generalize (n != 0)=nb at HR2 ⊢
 generalize (!t.toList.isEmpty)=tb at HR2 ⊢
 generalize (!x.toList.isEmpty)=xb at HR2 ⊢
 generalize decide (0 < len)=lb at HR2 ⊢
 generalize chk t.data.toList=C at HR2 hC ⊢
 have HR3:=Lib.hid HR2
 clear HR2 ht hx
 go_wp2_with (go_at_call 154;(with_reducible refine (hC _).mono ?_);rintro e w' ⟨rfl,hb⟩;replace b0:=zab b0 hb b0.size)
 all_goals
  go_ret
  exact ⟨by rw [HR3.out];simp_all <;> (intros;omega),b0⟩
theorem fitsK4 (b:Bool) (n:Int) (t x:ByteArray) (len:Nat) (r:Bool):zb0 4 b n t x len r=(decide ((t.size:Int)≤1048576) && (!b && !(n != 0) && !(!x.toList.isEmpty) && !(decide (0 < len)))):=by
 rw [show zb0 4 b n t x len r=(decide (t.size≤1048576) && zb6 b n ⟨#[]⟩ x len) from rfl]
 rw [zdn]
 rw [zrr,show decide (t.size≤1048576)=decide ((t.size:Int)≤1048576) from decide_eq_decide.2 (by omega)]
 simp
theorem refMay4 (b:Bool) (n:Int) (t x:ByteArray) (p:Option Addr) (len cap d:Nat) (r0:Bool) (w:World) (hd:(d:Int)≤60) (ht:t.size≤2097152) (hx:x.size≤2097152):
 Calls Tryz.prog 98 #[.agg #[.int .i64 4,.bool b,.int .i64 n,.string t,.string x,.slice p len cap],.int .i64 d] w fun e w'=>e=.returned (.bool (zb0 4 b n t x len r0))∧Below w.heap.size w w':=by
 have S:=zaj (k:=4) (b:=b) (n:=n) (t:=t) (x:=x) (p:=p) (len:=len) (cap:=cap) w rfl
 have b0:=za5 w (.cells #[.int .i64 4,.bool b,.int .i64 n,.string t,.string x,.slice p len cap] 48)
 have f0:=S.c0
 have f1:=S.c1
 have f2:=S.c2
 have f3:=S.c3
 have f4:=S.c4
 have f5:=S.c5
 rw [fitsK4]
 obtain ⟨r,hr⟩:∃ r,r=(decide ((t.size:Int)≤1048576) && (!b && !(n != 0) && !(!x.toList.isEmpty) && !(decide (0 < len)))):=⟨_,rfl⟩
 rw [← hr]
 obtain ⟨w1,hw1⟩:∃ w1,w1=w.alloc (.cells #[.int .i64 4,.bool b,.int .i64 n,.string t,.string x,.slice p len cap] 48):=⟨_,rfl⟩
 rw [← hw1] at S b0
 have HW:=Lib.hid hw1
 have HR:=Lib.hid hr
 clear hw1 hr
 go_enter Tryz.func98,Tryz.ntmps98
 go_upto_region 9 with fail
 rw [← HW.out]
 clear f0 f1 f2 f3 f4 f5
 have f0:=S.c0
 have f2:=S.c2
 have f3:=S.c3
 have f4:=S.c4
 have HR2:=HR.out
 clear HR
 generalize (n != 0)=nb at HR2 ⊢
 generalize (!t.toList.isEmpty)=tb at HR2 ⊢
 generalize (!x.toList.isEmpty)=xb at HR2 ⊢
 generalize decide (0 < len)=lb at HR2 ⊢
 have HR3:=Lib.hid HR2
 clear HR2 ht hx
 go_wp2_with fail
 all_goals
  go_ret
  exact ⟨by rw [HR3.out];simp_all <;> (intros;omega),b0⟩
theorem fitsK6 (b:Bool) (n:Int) (t x:ByteArray) (len:Nat) (r:Bool):zb0 6 b n t x len r=(decide (0≤n) && (!b && !(!t.toList.isEmpty) && !(!x.toList.isEmpty) && !(decide (0 < len)))):=by
 rw [show zb0 6 b n t x len r=(decide (0≤n) && zb6 b 0 t x len) from rfl]
 rw [zdn]
 simp
theorem refMay6 (b:Bool) (n:Int) (t x:ByteArray) (p:Option Addr) (len cap d:Nat) (r0:Bool) (w:World) (hd:(d:Int)≤60) (ht:t.size≤2097152) (hx:x.size≤2097152):
 Calls Tryz.prog 98 #[.agg #[.int .i64 6,.bool b,.int .i64 n,.string t,.string x,.slice p len cap],.int .i64 d] w fun e w'=>e=.returned (.bool (zb0 6 b n t x len r0))∧Below w.heap.size w w':=by
 have S:=zaj (k:=6) (b:=b) (n:=n) (t:=t) (x:=x) (p:=p) (len:=len) (cap:=cap) w rfl
 have b0:=za5 w (.cells #[.int .i64 6,.bool b,.int .i64 n,.string t,.string x,.slice p len cap] 48)
 have f0:=S.c0
 have f1:=S.c1
 have f2:=S.c2
 have f3:=S.c3
 have f4:=S.c4
 have f5:=S.c5
 rw [fitsK6]
 obtain ⟨r,hr⟩:∃ r,r=(decide (0≤n) && (!b && !(!t.toList.isEmpty) && !(!x.toList.isEmpty) && !(decide (0 < len)))):=⟨_,rfl⟩
 rw [← hr]
 obtain ⟨w1,hw1⟩:∃ w1,w1=w.alloc (.cells #[.int .i64 6,.bool b,.int .i64 n,.string t,.string x,.slice p len cap] 48):=⟨_,rfl⟩
 rw [← hw1] at S b0
 have HW:=Lib.hid hw1
 have HR:=Lib.hid hr
 clear hw1 hr
 go_enter Tryz.func98,Tryz.ntmps98
 go_upto_region 9 with fail
 rw [← HW.out]
 clear f0 f1 f2 f3 f4 f5
 have f0:=S.c0
 have f2:=S.c2
 have f3:=S.c3
 have f4:=S.c4
 have HR2:=HR.out
 clear HR
 generalize (n != 0)=nb at HR2 ⊢
 generalize (!t.toList.isEmpty)=tb at HR2 ⊢
 generalize (!x.toList.isEmpty)=xb at HR2 ⊢
 generalize decide (0 < len)=lb at HR2 ⊢
 have HR3:=Lib.hid HR2
 clear HR2 ht hx
 go_wp2_with fail
 all_goals
  go_ret
  exact ⟨by rw [HR3.out];simp_all <;> (intros;omega),b0⟩
theorem fitsK7 (b:Bool) (n:Int) (t x:ByteArray) (len:Nat) (r:Bool):zb0 7 b n t x len r=(decide (0≤n) && (!b && !(!t.toList.isEmpty) && !(!x.toList.isEmpty) && !(decide (0 < len)))):=by
 rw [show zb0 7 b n t x len r=(decide (0≤n) && zb6 b 0 t x len) from rfl]
 rw [zdn]
 simp
theorem refMay7 (b:Bool) (n:Int) (t x:ByteArray) (p:Option Addr) (len cap d:Nat) (r0:Bool) (w:World) (hd:(d:Int)≤60) (ht:t.size≤2097152) (hx:x.size≤2097152):
 Calls Tryz.prog 98 #[.agg #[.int .i64 7,.bool b,.int .i64 n,.string t,.string x,.slice p len cap],.int .i64 d] w fun e w'=>e=.returned (.bool (zb0 7 b n t x len r0))∧Below w.heap.size w w':=by
 have S:=zaj (k:=7) (b:=b) (n:=n) (t:=t) (x:=x) (p:=p) (len:=len) (cap:=cap) w rfl
 have b0:=za5 w (.cells #[.int .i64 7,.bool b,.int .i64 n,.string t,.string x,.slice p len cap] 48)
 have f0:=S.c0
 have f1:=S.c1
 have f2:=S.c2
 have f3:=S.c3
 have f4:=S.c4
 have f5:=S.c5
 rw [fitsK7]
 obtain ⟨r,hr⟩:∃ r,r=(decide (0≤n) && (!b && !(!t.toList.isEmpty) && !(!x.toList.isEmpty) && !(decide (0 < len)))):=⟨_,rfl⟩
 rw [← hr]
 obtain ⟨w1,hw1⟩:∃ w1,w1=w.alloc (.cells #[.int .i64 7,.bool b,.int .i64 n,.string t,.string x,.slice p len cap] 48):=⟨_,rfl⟩
 rw [← hw1] at S b0
 have HW:=Lib.hid hw1
 have HR:=Lib.hid hr
 clear hw1 hr
 go_enter Tryz.func98,Tryz.ntmps98
 go_upto_region 9 with fail
 rw [← HW.out]
 clear f0 f1 f2 f3 f4 f5
 have f0:=S.c0
 have f2:=S.c2
 have f3:=S.c3
 have f4:=S.c4
 have HR2:=HR.out
 clear HR
 generalize (n != 0)=nb at HR2 ⊢
 generalize (!t.toList.isEmpty)=tb at HR2 ⊢
 generalize (!x.toList.isEmpty)=xb at HR2 ⊢
 generalize decide (0 < len)=lb at HR2 ⊢
 have HR3:=Lib.hid HR2
 clear HR2 ht hx
 go_wp2_with fail
 all_goals
  go_ret
  exact ⟨by rw [HR3.out];simp_all <;> (intros;omega),b0⟩
theorem fitsK8 (b:Bool) (n:Int) (t x:ByteArray) (len:Nat) (r:Bool):zb0 8 b n t x len r=(zcs t && (!b && !(n != 0) && !(!x.toList.isEmpty) && !(decide (0 < len)))):=by
 rw [show zb0 8 b n t x len r=(zcs t && zb6 b n ⟨#[]⟩ x len) from rfl]
 rw [zdn]
 rw [zrr]
 simp
theorem refMay8 (b:Bool) (n:Int) (t x:ByteArray) (p:Option Addr) (len cap d:Nat) (r0:Bool) (w:World) (hd:(d:Int)≤60) (ht:t.size≤2097152) (hx:x.size≤2097152):
 Calls Tryz.prog 98 #[.agg #[.int .i64 8,.bool b,.int .i64 n,.string t,.string x,.slice p len cap],.int .i64 d] w fun e w'=>e=.returned (.bool (zb0 8 b n t x len r0))∧Below w.heap.size w w':=by
 have S:=zaj (k:=8) (b:=b) (n:=n) (t:=t) (x:=x) (p:=p) (len:=len) (cap:=cap) w rfl
 have b0:=za5 w (.cells #[.int .i64 8,.bool b,.int .i64 n,.string t,.string x,.slice p len cap] 48)
 have f0:=S.c0
 have f1:=S.c1
 have f2:=S.c2
 have f3:=S.c3
 have f4:=S.c4
 have f5:=S.c5
 rw [fitsK8]
 obtain ⟨r,hr⟩:∃ r,r=(zcs t && (!b && !(n != 0) && !(!x.toList.isEmpty) && !(decide (0 < len)))):=⟨_,rfl⟩
 rw [← hr]
 have hC:=fun W=>z3v t W (by unfold maxLen;omega)
 obtain ⟨w1,hw1⟩:∃ w1,w1=w.alloc (.cells #[.int .i64 8,.bool b,.int .i64 n,.string t,.string x,.slice p len cap] 48):=⟨_,rfl⟩
 rw [← hw1] at S b0
 have HW:=Lib.hid hw1
 have HR:=Lib.hid hr
 clear hw1 hr
 go_enter Tryz.func98,Tryz.ntmps98
 go_upto_region 9 with fail
 rw [← HW.out]
 clear f0 f1 f2 f3 f4 f5
 have f0:=S.c0
 have f2:=S.c2
 have f3:=S.c3
 have f4:=S.c4
 have HR2:=HR.out
 clear HR
 generalize (n != 0)=nb at HR2 ⊢
 generalize (!t.toList.isEmpty)=tb at HR2 ⊢
 generalize (!x.toList.isEmpty)=xb at HR2 ⊢
 generalize decide (0 < len)=lb at HR2 ⊢
 generalize zcs t=C at HR2 hC ⊢
 have HR3:=Lib.hid HR2
 clear HR2 ht hx
 go_wp2_with (go_at_call 155;(with_reducible refine (hC _).mono ?_);rintro e w' ⟨rfl,rfl⟩)
 all_goals
  go_ret
  exact ⟨by rw [HR3.out];simp_all <;> (intros;omega),b0⟩
theorem fitsK9 (b:Bool) (n:Int) (t x:ByteArray) (len:Nat) (r:Bool):zb0 9 b n t x len r=(zcc t && (!b && !(n != 0) && !(!x.toList.isEmpty) && !(decide (0 < len)))):=by
 rw [show zb0 9 b n t x len r=(zcc t && zb6 b n ⟨#[]⟩ x len) from rfl]
 rw [zdn]
 rw [zrr]
 simp
theorem refMay9 (b:Bool) (n:Int) (t x:ByteArray) (p:Option Addr) (len cap d:Nat) (r0:Bool) (w:World) (hd:(d:Int)≤60) (ht:t.size≤2097152) (hx:x.size≤2097152):
 Calls Tryz.prog 98 #[.agg #[.int .i64 9,.bool b,.int .i64 n,.string t,.string x,.slice p len cap],.int .i64 d] w fun e w'=>e=.returned (.bool (zb0 9 b n t x len r0))∧Below w.heap.size w w':=by
 have S:=zaj (k:=9) (b:=b) (n:=n) (t:=t) (x:=x) (p:=p) (len:=len) (cap:=cap) w rfl
 have b0:=za5 w (.cells #[.int .i64 9,.bool b,.int .i64 n,.string t,.string x,.slice p len cap] 48)
 have f0:=S.c0
 have f1:=S.c1
 have f2:=S.c2
 have f3:=S.c3
 have f4:=S.c4
 have f5:=S.c5
 rw [fitsK9]
 obtain ⟨r,hr⟩:∃ r,r=(zcc t && (!b && !(n != 0) && !(!x.toList.isEmpty) && !(decide (0 < len)))):=⟨_,rfl⟩
 rw [← hr]
 have hC:=fun W=>zyn t W (by unfold maxLen;omega)
 obtain ⟨w1,hw1⟩:∃ w1,w1=w.alloc (.cells #[.int .i64 9,.bool b,.int .i64 n,.string t,.string x,.slice p len cap] 48):=⟨_,rfl⟩
 rw [← hw1] at S b0
 have HW:=Lib.hid hw1
 have HR:=Lib.hid hr
 clear hw1 hr
 go_enter Tryz.func98,Tryz.ntmps98
 go_upto_region 9 with fail
 rw [← HW.out]
 clear f0 f1 f2 f3 f4 f5
 have f0:=S.c0
 have f2:=S.c2
 have f3:=S.c3
 have f4:=S.c4
 have HR2:=HR.out
 clear HR
 generalize (n != 0)=nb at HR2 ⊢
 generalize (!t.toList.isEmpty)=tb at HR2 ⊢
 generalize (!x.toList.isEmpty)=xb at HR2 ⊢
 generalize decide (0 < len)=lb at HR2 ⊢
 generalize zcc t=C at HR2 hC ⊢
 have HR3:=Lib.hid HR2
 clear HR2 ht hx
 go_wp2_with (go_at_call 61;(with_reducible refine (hC _).mono ?_);rintro e w' ⟨rfl,rfl⟩)
 all_goals
  go_ret
  exact ⟨by rw [HR3.out];simp_all <;> (intros;omega),b0⟩
theorem fitsK10 (b:Bool) (n:Int) (t x:ByteArray) (len:Nat) (r:Bool):zb0 10 b n t x len r=(decide ((t.size:Int)≤1048576) && (zcs x && (!b && !(n != 0) && !(decide (0 < len))))):=by
 rw [show zb0 10 b n t x len r=(decide (t.size≤1048576) && (zcs x && zb6 b n ⟨#[]⟩ ⟨#[]⟩ len)) from rfl]
 rw [zdn]
 rw [zrr,show decide (t.size≤1048576)=decide ((t.size:Int)≤1048576) from decide_eq_decide.2 (by omega)]
 simp
theorem z1z (b:Bool) (n:Int) (t x:ByteArray) (p:Option Addr) (len cap d:Nat) (r0:Bool) (w:World) (hd:(d:Int)≤60) (ht:t.size≤2097152) (hx:x.size≤2097152):
 Calls Tryz.prog 98 #[.agg #[.int .i64 10,.bool b,.int .i64 n,.string t,.string x,.slice p len cap],.int .i64 d] w fun e w'=>e=.returned (.bool (zb0 10 b n t x len r0))∧Below w.heap.size w w':=by
 have S:=zaj (k:=10) (b:=b) (n:=n) (t:=t) (x:=x) (p:=p) (len:=len) (cap:=cap) w rfl
 have b0:=za5 w (.cells #[.int .i64 10,.bool b,.int .i64 n,.string t,.string x,.slice p len cap] 48)
 have f0:=S.c0
 have f1:=S.c1
 have f2:=S.c2
 have f3:=S.c3
 have f4:=S.c4
 have f5:=S.c5
 rw [fitsK10]
 obtain ⟨r,hr⟩:∃ r,r=(decide ((t.size:Int)≤1048576) && (zcs x && (!b && !(n != 0) && !(decide (0 < len))))):=⟨_,rfl⟩
 rw [← hr]
 have hC:=fun W=>z3v x W (by unfold maxLen;omega)
 obtain ⟨w1,hw1⟩:∃ w1,w1=w.alloc (.cells #[.int .i64 10,.bool b,.int .i64 n,.string t,.string x,.slice p len cap] 48):=⟨_,rfl⟩
 rw [← hw1] at S b0
 have HW:=Lib.hid hw1
 have HR:=Lib.hid hr
 clear hw1 hr
 go_enter Tryz.func98,Tryz.ntmps98
 go_upto_region 9 with fail
 rw [← HW.out]
 clear f0 f1 f2 f3 f4 f5
 have f0:=S.c0
 have f2:=S.c2
 have f3:=S.c3
 have f4:=S.c4
 have HR2:=HR.out
 clear HR
 generalize (n != 0)=nb at HR2 ⊢
 generalize (!t.toList.isEmpty)=tb at HR2 ⊢
 generalize (!x.toList.isEmpty)=xb at HR2 ⊢
 generalize decide (0 < len)=lb at HR2 ⊢
 generalize zcs x=C at HR2 hC ⊢
 have HR3:=Lib.hid HR2
 clear HR2 ht hx
 go_wp2_with (go_at_call 155;(with_reducible refine (hC _).mono ?_);rintro e w' ⟨rfl,rfl⟩)
 all_goals
  go_ret
  exact ⟨by rw [HR3.out];simp_all <;> (intros;omega),b0⟩
def zkx (v:Val) (d:Nat):Prop:=∀ (W:World) (k:Int) (b:Bool) (n:Int) (t x:ByteArray) (q:List Val) (p:Option Addr) (cap:Nat),v=.mk k b n t x q→Fine n t x q.length→Held W (.slice p q.length cap) q→
 Calls Tryz.prog 98 #[.agg #[.int .i64 k,.bool b,.int .i64 n,.string t,.string x,.slice p q.length cap],.int .i64 d] W fun e w'=>e=.returned (.bool (mayP v d))∧Below W.heap.size W w'
theorem refMayX (k:Int) (b:Bool) (n:Int) (t x:ByteArray) (p:Option Addr) (len cap d:Nat) (r0:Bool) (w:World) (hd:(d:Int)≤60) (hk:k < 0∨10 < k):
 Calls Tryz.prog 98 #[.agg #[.int .i64 k,.bool b,.int .i64 n,.string t,.string x,.slice p len cap],.int .i64 d] w fun e w'=>e=.returned (.bool (zb0 k b n t x len r0))∧Below w.heap.size w w':=by
 have S:=zaj (k:=k) (b:=b) (n:=n) (t:=t) (x:=x) (p:=p) (len:=len) (cap:=cap) w rfl
 have b0:=za5 w (.cells #[.int .i64 k,.bool b,.int .i64 n,.string t,.string x,.slice p len cap] 48)
 have f0:=S.c0
 have f1:=S.c1
 have f2:=S.c2
 have f3:=S.c3
 have f4:=S.c4
 have f5:=S.c5
 have e:zb0 k b n t x len r0=false:=by
  unfold zb0
  rw [if_neg (by omega),if_neg (by omega),if_neg (by omega),if_neg (by omega),if_neg (by omega),if_neg (by omega),if_neg (by omega),if_neg (by omega),if_neg (by omega),if_neg (by omega)]
 rw [e]
 have e0:(k == 0)=false:=by simp;omega
 have e1:(k == 1)=false:=by simp;omega
 have e2:(k == 2)=false:=by simp;omega
 have e3:(k == 3)=false:=by simp;omega
 have e4:(k == 4)=false:=by simp;omega
 have e5:(k == 5)=false:=by simp;omega
 have e6:(k == 6)=false:=by simp;omega
 have e7:(k == 7)=false:=by simp;omega
 have e8:(k == 8)=false:=by simp;omega
 have e9:(k == 9)=false:=by simp;omega
 have e10:(k == 10)=false:=by simp;omega
 clear hk e
 go_enter Tryz.func98,Tryz.ntmps98
 go_wp2_with fail
 go_ret
 exact ⟨rfl,b0⟩
theorem refMay5 (b:Bool) (n:Int) (t x:ByteArray) (q:List Val) (p:Option Addr) (cap d:Nat) (w:World) (hd:(d:Int)≤60) (hf:Fine n t x q.length) (hl:Held w (.slice p q.length cap) q) (each:d+1≤60→∀ v∈q,zkx v (d+1)):
 Calls Tryz.prog 98 #[.agg #[.int .i64 5,.bool b,.int .i64 n,.string t,.string x,.slice p q.length cap],.int .i64 d] w fun e w'=>e=.returned (.bool (zb0 5 b n t x q.length (decide (q.length≤4096) && decide (d+1≤60) && zdz q (d+1))))∧Below w.heap.size w w':=by
 obtain ⟨r,hr⟩:∃ r,r=zb0 5 b n t x q.length (decide (q.length≤4096) && decide (d+1≤60) && zdz q (d+1)):=⟨_,rfl⟩
 rw [← hr]
 have S:=zaj (k:=5) (b:=b) (n:=n) (t:=t) (x:=x) (p:=p) (len:=q.length) (cap:=cap) w rfl
 have b0:=za5 w (.cells #[.int .i64 5,.bool b,.int .i64 n,.string t,.string x,.slice p q.length cap] 48)
 obtain ⟨m,hm⟩:∃ m,m=q.length:=⟨_,rfl⟩
 have hr2:r=(decide (m≤4096) && decide (d+1≤60) && zdz q (d+1) && (!b && !(n != 0) && !(!t.toList.isEmpty) && !(!x.toList.isEmpty))):=by
  rw [hr,hm,show zb0 5 b n t x q.length (decide (q.length≤4096) && decide (d+1≤60) && zdz q (d+1))=(decide (q.length≤4096) && decide (d+1≤60) && zdz q (d+1) && zb6 b n t x 0) from rfl,zdn]
  simp
 rw [← hm] at S b0 ⊢
 clear hr
 have f0:=S.c0
 have f1:=S.c1
 have f2:=S.c2
 have f3:=S.c3
 have f4:=S.c4
 have f5:=S.c5
 have HM:=Lib.hid hm
 by_cases hall:((!b && !(n != 0) && !(!t.toList.isEmpty) && !(!x.toList.isEmpty))=true∧m≤4096)∧d+1≤60
 ·obtain ⟨⟨h1,h2⟩,h3⟩:=hall
  rw [h1,decide_eq_true h2,decide_eq_true h3,Bool.true_and,Bool.true_and,Bool.and_true] at hr2
  simp only [Bool.and_eq_true,Bool.not_eq_true',Bool.not_not] at h1
  obtain ⟨⟨⟨rfl,hn0⟩,ht0⟩,hx0⟩:=h1
  have hd1:(d:Int)+1≤60:=by omega
  have HE:=Lib.hid (each h3)
  have HR:=Lib.hid hr2
  have HL:=Lib.hid hl
  have HS:=Lib.hid S
  have h2i:(m:Int)≤4096:=by omega
  clear each hr2 hl hm hf S
  go_enter Tryz.func98,Tryz.ntmps98
  go_wp2_with fail
  go_loopw [10] (fun i wr=>∃ j:Nat,j≤m∧i=.int .i64 j∧Below w.heap.size w wr∧Six wr w.heap.size 5 false n t x p m cap∧Hid (∀ (i:Nat) (h:i < q.length),i < j→mayP q[i] (d+1)=true)) (fun i _=>m - (intOf i).toNat)
  case atStart=>exact ⟨0,Nat.zero_le _,rfl,b0,HS.out,Lib.hid fun _ _ h=>absurd h (by omega)⟩
  case round=>
   clear f0 f1 f2 f3 f4 f5 b0
   obtain ⟨j,hj,rfl,hb,S,HA⟩:=hrel
   have f5:=S.c5
   by_cases hlt:(j:Int) < m
   ·have hj1:j < q.length:=by have:=HM.out;omega
    obtain ⟨g,off,rfl,hh⟩:∃ g off,p=some ⟨g,off,none⟩∧zbk w g off q:=by
     have hq:=HL.out
     cases q with
     | nil=>simp at hj1
     | cons v r=>exact hq.form
    obtain ⟨k1,b1,n1,t1,x1,q1,p1,cp1,o1⟩:=((zbk.at_ q off hh j hj1).below _ hb).opens
    have hc:=HE.out q[j] (List.getElem_mem hj1) wr k1 b1 n1 t1 x1 q1 p1 cp1 o1.e o1.hf o1.hl
    obtain ⟨c,hcc⟩:∃ c,c=mayP q[j] (d+1):=⟨_,rfl⟩
    rw [← hcc] at hc
    have hc':Calls Tryz.prog 98 #[.agg #[.int .i64 k1,.bool b1,.int .i64 n1,.string t1,.string x1,.slice p1 q1.length cp1],.int .i64 ((d:Int)+1)] wr fun e w'=>e=.returned (.bool c)∧Below wr.heap.size wr w':=hc
    have HC:=Lib.hid hcc
    have HC2:=Lib.hid hc'
    clear hc hc' hcc
    have O1:=Lib.hid o1
    clear o1 hh
    cases c with
    | true=>
      go_wp2_with (first
       |((with_reducible refine zaz (.tmp 158) g (off+j*6) k1 b1 n1 t1 x1 _ O1.out.c0 O1.out.c1 O1.out.c2 O1.out.c3 O1.out.c4 O1.out.c5 ?_ ?_ ?_ ?_);rfl;rfl;rfl)
       |(go_at_call 98;(with_reducible refine HC2.out.mono ?_);rintro e w3 ⟨rfl,hb3⟩;have b3:=zab hb hb3 hb.size;have S3:=S.below hb3;clear hb3))
      go_roundw
      case rel=>
       refine ⟨j+1,by omega,by go_num,b3,S3,Lib.hid fun i hi hlt'=>?_⟩
       by_cases e:i=j
       ·subst e;exact HC.out.symm
       ·exact HA.out i hi (by omega)
      case measure=>simp [intOf];omega
    | false=>
      go_wp2_with (first
       |((with_reducible refine zaz (.tmp 158) g (off+j*6) k1 b1 n1 t1 x1 _ O1.out.c0 O1.out.c1 O1.out.c2 O1.out.c3 O1.out.c4 O1.out.c5 ?_ ?_ ?_ ?_);rfl;rfl;rfl)
       |(go_at_call 98;(with_reducible refine HC2.out.mono ?_);rintro e w3 ⟨rfl,hb3⟩;have b3:=zab hb hb3 hb.size;clear hb3))
      go_ret
      exact ⟨by rw [HR.out,zp6 q (d+1) j hj1 HC.out.symm];rfl,b3⟩
   ·go_wp2_with fail
    go_ret
    exact ⟨by rw [HR.out,znk q (d+1) fun i h=>HA.out i h (by have:=HM.out;omega)];rfl,hb⟩
 ·have hr3:r=false:=by
   rw [hr2,Bool.eq_false_iff]
   intro h
   simp only [Bool.and_eq_true,decide_eq_true_eq] at h hall
   exact hall ⟨⟨⟨⟨⟨h.2.1.1.1,h.2.1.1.2⟩,h.2.1.2⟩,h.2.2⟩,h.1.1.1⟩,h.1.1.2⟩
  subst hr3
  have HALL:=Lib.hid hall
  clear hr2 hall each hl hf hm
  obtain ⟨w1,hw1⟩:∃ w1,w1=w.alloc (.cells #[.int .i64 5,.bool b,.int .i64 n,.string t,.string x,.slice p m cap] 48):=⟨_,rfl⟩
  rw [← hw1] at S b0
  have HW:=Lib.hid hw1
  clear hw1
  go_enter Tryz.func98,Tryz.ntmps98
  go_upto_region 9 with fail
  rw [← HW.out]
  clear f0 f1 f2 f3 f4 f5
  have f5:=S.c5
  have HA:=HALL.out
  generalize (n != 0)=nb at HA ⊢
  generalize (!t.toList.isEmpty)=tb at HA ⊢
  generalize (!x.toList.isEmpty)=xb at HA ⊢
  have HA3:=Lib.hid HA
  clear HA HALL
  go_wp2_with fail
  all_goals
   first
   |(go_ret
     exact ⟨rfl,b0⟩)
   |(exfalso
     have:=HA3.out
     simp_all
     omega)
theorem zwd (v:Val) (k:Int) (b:Bool) (n:Int) (t x:ByteArray) (q:List Val) (ev:v=.mk k b n t x q) (d:Nat) (hd:d≤60) (each:d+1≤60→∀ u∈q,zkx u (d+1)):zkx v d:=by
 subst ev
 intro W k1 b1 n1 t1 x1 q1 p cap e hf hl
 cases e
 rw [show mayP (.mk k b n t x q) d=zb0 k b n t x q.length (decide (q.length≤4096) && decide (d+1≤60) && zdz q (d+1)) by conv=>lhs;unfold mayP]
 have hd':(d:Int)≤60:=by omega
 by_cases h0:k=0
 ·subst h0;exact refMay0 b n t x p q.length cap d _ W hd' hf.ht hf.hx
 by_cases h1:k=1
 ·subst h1;exact refMay1 b n t x p q.length cap d _ W hd' hf.ht hf.hx
 by_cases h2:k=2
 ·subst h2;exact refMay2 b n t x p q.length cap d _ W hd' hf.ht hf.hx
 by_cases h3:k=3
 ·subst h3;exact refMay3 b n t x p q.length cap d _ W hd' hf.ht hf.hx
 by_cases h4:k=4
 ·subst h4;exact refMay4 b n t x p q.length cap d _ W hd' hf.ht hf.hx
 by_cases h5:k=5
 ·subst h5;exact refMay5 b n t x q p cap d W hd' hf hl each
 by_cases h6:k=6
 ·subst h6;exact refMay6 b n t x p q.length cap d _ W hd' hf.ht hf.hx
 by_cases h7:k=7
 ·subst h7;exact refMay7 b n t x p q.length cap d _ W hd' hf.ht hf.hx
 by_cases h8:k=8
 ·subst h8;exact refMay8 b n t x p q.length cap d _ W hd' hf.ht hf.hx
 by_cases h9:k=9
 ·subst h9;exact refMay9 b n t x p q.length cap d _ W hd' hf.ht hf.hx
 by_cases h10:k=10
 ·subst h10;exact z1z b n t x p q.length cap d _ W hd' hf.ht hf.hx
 exact refMayX k b n t x p q.length cap d _ W hd' (by omega)
mutual
theorem zrs:(v:Val)→(d:Nat)→d≤60→zkx v d
 | .mk k b n t x q,d,hd=>zwd _ k b n t x q rfl d hd (fun h=>zpg q (d+1) h)
theorem zpg:(q:List Val)→(d:Nat)→d≤60→∀ u∈q,zkx u d
 | [],_,_,_,h=>absurd h (by simp)
 | v::r,d,hd,u,h=>by
   rcases List.mem_cons.1 h with h | h
   ·rw [h];exact zrs v d hd
   ·exact zpg r d hd u h
end
theorem refMay (k:Int) (b:Bool) (n:Int) (t x:ByteArray) (q:List Val) (p:Option Addr) (cap:Nat) (w:World) (hf:Fine n t x q.length) (hl:Held w (.slice p q.length cap) q):
 Calls Tryz.prog 53 #[.agg #[.int .i64 k,.bool b,.int .i64 n,.string t,.string x,.slice p q.length cap]] w fun e w'=>e=.returned (.bool (mayP (.mk k b n t x q) 0))∧Below w.heap.size w w':=by
 obtain ⟨w1,hw1⟩:∃ w1,w1=w.alloc (.cells #[.int .i64 k,.bool b,.int .i64 n,.string t,.string x,.slice p q.length cap] 48):=⟨_,rfl⟩
 have S:Six w1 w.heap.size k b n t x p q.length cap:=by rw [hw1];exact zaj _ rfl
 have b0:Below w.heap.size w w1:=by rw [hw1];exact za5 _ _
 have hc:=zrs (.mk k b n t x q) 0 (by omega) w1 k b n t x q p cap rfl hf (Held.below q hl b0)
 have hc':Calls Tryz.prog 98 #[.agg #[.int .i64 k,.bool b,.int .i64 n,.string t,.string x,.slice p q.length cap],.int .i64 0] w1 fun e w'=>e=.returned (.bool (mayP (.mk k b n t x q) 0))∧Below w1.heap.size w1 w':=hc
 have HW:=Lib.hid hw1
 clear hw1 hl hf hc
 generalize mayP (.mk k b n t x q) 0=r at hc' ⊢
 go_enter Tryz.func53,Tryz.ntmps53
 go_wp2_with (first
  |(rw [← HW.out];(with_reducible refine zac (.tmp 1) w.heap.size S ?_ ?_ ?_ ?_);rfl;rfl;rfl)
  |(go_at_call 98;(with_reducible refine hc'.mono ?_);rintro e w3 ⟨rfl,hb3⟩;replace b0:=zab b0 hb3 b0.size))
 go_ret
 exact ⟨rfl,b0⟩
def zph (w:World) (v:Val) (e:Ending) (w':World):Prop:=∃ A,e=.returned (.tuple #[A,.int .i64 (if mayP v 0 then 0 else 1)])∧Bts w' A (if mayP v 0 then encP v else [])∧Below w.heap.size w w'
theorem Bts.nil0 (w:World):Bts w (.slice none 0 0) []:=⟨none,0,rfl,.inl rfl⟩
theorem z10 (v:Val) (k:Int) (b:Bool) (n:Int) (t x:ByteArray) (q:List Val) (p:Option Addr) (cap:Nat) (w:World) (hG:Gd w) (ev:v=.mk k b n t x q) (hf:Fine n t x q.length) (hl:Held w (.slice p q.length cap) q) (hw:13*wOne v≤800000000):
 Calls Tryz.prog 109 #[.agg #[.int .i64 k,.bool b,.int .i64 n,.string t,.string x,.slice p q.length cap]] w (zph w v):=by
 obtain ⟨W0,hW0⟩:∃ W0,W0=w.alloc (.cells #[.int .i64 k,.bool b,.int .i64 n,.string t,.string x,.slice p q.length cap] 48):=⟨_,rfl⟩
 have S:Six W0 w.heap.size k b n t x p q.length cap:=by rw [hW0];exact zaj _ rfl
 have b0:Below w.heap.size w W0:=by rw [hW0];exact za5 _ _
 have hc:=fun W (h:Below w.heap.size w W)=>zue v k b n t x q (.slice p q.length cap) W ev (hG.below h) hf.ht hf.hx (Held.below q hl h)
 have he:=fun W (h:Below w.heap.size w W)=>z3u v W W (.slice none 0 0) [] k b n t x q p cap ev hf (Held.below q hl h) (OwnB.start W) (by simpa using hw)
 unfold zc5 at he
 unfold zph
 have H0:=Lib.hid hW0
 clear hW0 hl hf hG ev
 cases hm:mayP v 0 with
 | false=>
   rw [hm] at hc
   go_enter Tryz.func109,Tryz.ntmps109
   go_wp2_with (first
    |((try rw [← H0.out]);(with_reducible refine zac (.tmp 1) w.heap.size S ?_ ?_ ?_ ?_);rfl;rfl;rfl)
    |(go_at_call 56;(with_reducible refine (hc _ b0).mono ?_);rintro e w' ⟨rfl,hb⟩;replace S:=S.below hb.is;replace b0:=zab b0 hb.is b0.size;clear hb))
   go_ret2
   exact ⟨_,rfl,Bts.nil0 _,b0⟩
 | true=>
   rw [hm] at hc
   go_enter Tryz.func109,Tryz.ntmps109
   go_wp2_with (first
    |((try rw [← H0.out]);(with_reducible refine zac (.tmp 1) w.heap.size S ?_ ?_ ?_ ?_);rfl;rfl;rfl)
    |(go_at_call 56;(with_reducible refine (hc _ b0).mono ?_);rintro e w' ⟨rfl,hb⟩;replace S:=S.below hb.is;replace b0:=zab b0 hb.is b0.size;clear hb)
    |(go_at_call 166;(with_reducible refine (he _ b0).mono ?_);rintro e w3 ⟨A3,rfl,O3⟩;have b3:=zab b0 O3.bel b0.size;have HO:=Lib.hid O3;clear O3))
   go_ret2
   exact ⟨_,rfl,by simpa using HO.out.bts,b3⟩
def bsB (l:List UInt8):ByteArray:=⟨l.toArray⟩
theorem z11 (l:List UInt8):(bsB l).size=l.length:=by show l.toArray.size=_;simp
theorem convB (w2:World) (A:Value) (m:List UInt8) (h:Bts w2 A m):(convert 101 9 A).run Tryz.prog w2=.ok (.string (bsB m)) w2:=by
 obtain ⟨p,cap,rfl,h⟩:=h
 rcases h with rfl | ⟨g,off,rfl,h⟩
 ·cases p with
  | none=>exact run_convert_bytes_nil (P:=Tryz.prog) (w:=w2) 101 5 Tryz.underlying101 Tryz.underlying5 0 cap 9 Tryz.underlying9
  | some a=>exact run_convert_bytes_back (P:=Tryz.prog) w2 101 9 5 a cap [] Tryz.underlying101 Tryz.underlying5 Tryz.underlying9 (fun j hj=>absurd hj (by simp))
 ·exact run_convert_bytes_back (P:=Tryz.prog) w2 101 9 5 ⟨g,off,none⟩ cap m Tryz.underlying101 Tryz.underlying5 Tryz.underlying9 (fun j hj=>by
   rw [Addr.add_mid]
   exact h j _ (by rw [List.getElem?_eq_getElem hj]))
theorem encP_ne (v:Val):encP v≠[]:=by
 cases v
 unfold encP
 simp
theorem z12 (v:Val) (W:World) (c:List Value) (P:Nat→Prop) (h:zc3 W P c v) (hG:Gd W) (hm:mayP v 0=true) (hw:13*wOne v≤800000000):
 Calls Tryz.prog 109 #[.agg c.toArray] W fun e w'=>∃ g off cap,e=.returned (.tuple #[.slice (some ⟨g,off,none⟩) (encP v).length cap,.int .i64 0])∧(∀ j u,(vals (encP v))[j]?=some u→w'.cell? ((⟨g,off,none⟩:Addr).add j)=some u)∧Below W.heap.size W w':=by
 obtain ⟨k,b,n,t,x,q⟩:=v
 obtain ⟨L,rfl,hf,hq⟩:=h
 obtain ⟨p,cap,rfl⟩:=zbu (zbb.held q hq)
 refine (z10 _ k b n t x q p cap W hG rfl hf (zbb.held q hq) hw).mono ?_
 rintro e w' ⟨A,rfl,hb,hbel⟩
 rw [hm] at hb ⊢
 simp only [if_true] at hb ⊢
 obtain ⟨p2,cap2,rfl,hb⟩:=hb
 rcases hb with hb | ⟨g,off,rfl,hb⟩
 ·exact absurd hb (encP_ne _)
 ·refine ⟨g,off,cap2,rfl,fun j u hu=>?_,hbel⟩
  unfold vals at hu
  rw [List.getElem?_map] at hu
  cases hc:(encP (.mk k b n t x q))[j]? with
  | none=>rw [hc] at hu;cases hu
  | some c=>
    rw [hc] at hu
    cases hu
    rw [Addr.add_mid]
    exact hb j c hc
theorem zy1 (r:List Val) (j:Nat) (hj:j < r.length):(zar (r.take j)).length+(encP r[j]).length≤13*wAll r:=by
 have h1:=zdu (r.take j)
 have h2:=zul r[j]
 have h3:=zns r j hj
 omega
theorem zls (r:List Val) (u:Value) (W:World) (hG:Gd W) (h:zag valE W (Old W) u r) (hm:∀ v∈r,mayP v 0=true) (hw:13*wAll r≤700000000) (hn:r.length≤2097152):
 Calls Tryz.prog 69 #[u] W fun e w'=>e=.returned (.string (bsB (zar r)))∧Below W.heap.size W w':=by
 obtain ⟨i0,hi,hz0,hz1,hz2⟩:=info_parts zfw
 obtain ⟨n,hln⟩:∃ n,n=r.length:=⟨_,rfl⟩
 obtain ⟨p,cap,rfl⟩:=h.slice
 obtain ⟨ans,hans⟩:∃ a,a=zar r:=⟨_,rfl⟩
 rw [← hans]
 rw [← hln] at hn
 have HL:=Lib.hid hln
 have HH:=Lib.hid h
 have HM:=Lib.hid hm
 have HG:=Lib.hid hG
 have HN:=Lib.hid hans
 have HWt:=Lib.hid hw
 rw [← hln]
 clear h hln hm hG hans hw
 go_enter Tryz.func69,Tryz.ntmps69
 go_wp2_with fail
 go_loopg [3,10] n (fun gg s3 s10 wr=>∃ (j:Nat) (l:List UInt8),j+gg=n∧s10=.int .i64 j∧Hid (l=zar (r.take j))∧Hid (OwnB W s3 l wr))
 case atStart=>exact ⟨0,[],by omega,rfl,Lib.hid (by simp [zar]),Lib.hid (OwnB.start W)⟩
 case round=>
  obtain ⟨j,l,hjg,rfl,HLL,HO⟩:=hrel
  by_cases hlt:(j:Int) < n
  ·have hj1:j < r.length:=by have:=HL.out;omega
   have hbel:=HO.out.bel
   obtain ⟨g,off,cap',c,e0,hg,hrl,hra⟩:=(HH.out.stays (zae hbel)).at_ j hj1
   injection e0 with e1 e2 e3
   subst e1
   replace hra:wr.rangeAt g (off+j*6) c:=hra
   have hlen:c.length=6:=valE.len hrl
   have hbs:=hbel.size
   have hone:=valE.one hrl
   obtain ⟨v,hv⟩:∃ v,v=r[j]:=⟨_,rfl⟩
   have hle:=zy1 r j hj1
   rw [← hv] at hle hrl
   rw [← HLL.out] at hle
   have hmv:=HM.out v (by rw [hv];exact List.getElem_mem hj1)
   have hwv:13*wOne v≤800000000:=by
    have:=zuk (l:=r) (v:=v) (by rw [hv];exact List.getElem_mem hj1)
    have:=HWt.out
    omega
   have hsum:l.length+(encP v).length≤700000000:=by have:=HWt.out;omega
   have HNX:Hid (l++encP v=zar (r.take (j+1))):=Lib.hid (by rw [zi6 r j hj1,HLL.out,hv])
   have HR:=Lib.hid (And.intro hrl hra)
   clear hrl hra e2 e3 hbel hle hv
   go_upto_region 5 with (first
    |((with_reducible refine zaw (.tmp 12) g (off+j*6) 48 c 6 _ HR.out.2 hlen Tryz.underlying48 rfl zao ?_ ?_ ?_ ?_);rfl;rfl;rfl)
    |((with_reducible refine za0 (.tmp 5) (.tmp 13) wr.heap.size 48 48 _ c 6 (zaf _ _ rfl) hlen ?_ ?_ ?_ ?_ zao rfl hone ?_);rfl;rfl;rfl;rfl;intro wX oX hX))
   have bX:Below wr.heap.size wr wX:=zam (za5 wr _) oX (Nat.le_refl _) (by simp)
   have bWX:Below W.heap.size W wX:=HO.out.bel.trans (bX.mono hbs)
   have hcall:=z12 v wX c (Old wX) (valE.stays (zae bX) HR.out.1) (HG.out.below bWX) hmv hwv
   have HC:=Lib.hid hcall
   have hOX:=HO.out.after bX
   clear oX bX bWX hcall HO
   go_wp2_with (first
    |((with_reducible refine zai (.tmp 5) wr.heap.size 48 48 c 6 _ hX hlen Tryz.underlying48 rfl zao ?_ ?_ ?_ ?_);rfl;rfl;rfl)
    |(go_at_call 109;(with_reducible refine HC.out.mono ?_);rintro e w3 ⟨ge,oe,ke,rfl,hce,hb3⟩
      have hO3:=hOX.after hb3
      have hown:=hO3.own
      have hlo:=hO3.lo)
    |(at_builtin;refine wpList_append_own_at _ rfl _ _ 101 rfl W.heap.size 5 i0 (.int .u8 0) 1 1 Tryz.underlying101 hi hz0 hz1 hz2 rfl (by decide) _ _ _ rfl hown ⟨ge,oe,none⟩ (encP v).length ke (vals (encP v)) rfl (by rw [zs6,Nat.mul_one]) hce (by intro u hu;unfold vals at hu;obtain ⟨b,_,rfl⟩:=List.mem_map.1 hu;rfl) (by unfold maxLen;omega) (by omega) hlo ?_))
   intro v' w5 hown' hgrow _ hloc
   have hO5:OwnB W v' (l++encP v) w5:=hO3.say hown' hgrow (by simp) (by rw [zbd])
   have HO5:=Lib.hid hO5
   clear hO5 hown' hgrow hloc hO3 hown hce hb3 hOX hX
   go_wp2_with fail
   go_roundg (gk - 1)
   case measure=>omega
   case rel=>exact ⟨j+1,l++encP v,by omega,by go_num,HNX,HO5⟩
  ·have e:l=ans:=by rw [HLL.out,HN.out,List.take_of_length_le];have:=HL.out;omega
   subst e
   have hconv:=convB wr _ l HO.out.bts
   have HB:=Lib.hid HO.out.bel
   clear HO HN
   go_wp2_with fail
   go_ret
   exact ⟨rfl,HB.out⟩
section
def zqj (v:Value):Option (DataW Value × List MemPlace):=some (.held v,[])
def HMap (w:World) (P:Program) (k:TypeId) (b n:Nat) (f:Lit→Option Value):Prop:=
 ∃ D,w.ownsMap P k zqj b n D∧∀ kl,WideAt.IsKeyLit kl→Maps.has D kl=(f kl).isSome∧∀ z,D.atKey kl (.held z)=.held ((f kl).getD z)
open Classical in
noncomputable def updH (f:Lit→Option Value) (k:Lit) (v:Value):Lit→Option Value:=fun x=>if x=k then some v else f x
theorem ze9 (f:Lit→Option Value) (k:Lit) (v:Value):updH f k v k=some v:=by unfold updH;exact if_pos rfl
theorem zdw {f:Lit→Option Value} {k x:Lit} {v:Value} (h:x≠k):updH f k v x=f x:=by unfold updH;exact if_neg h
section
variable {w w':World} {P:Program} {k:TypeId} {b n:Nat} {f:Lit→Option Value}
theorem HMap.made (w:World) (P:Program) (k:TypeId):HMap (w.alloc (.map #[] 0)) P k w.heap.size 0 (fun _=>none):=
 ⟨_,World.ownsMap_made w P k zqj,fun _ _=>⟨rfl,fun _=>rfl⟩⟩
theorem HMap.lt (h:HMap w P k b n f):b < w.heap.size:=by obtain ⟨D,h,_⟩:=h;exact h.lt
theorem HMap.block (h:HMap w P k b n f):∃ es clock,w.heap[b]?=some (.map es clock):=by obtain ⟨D,⟨es,c,e,_⟩,_⟩:=h;exact ⟨es,c,e⟩
theorem HMap.keep (h:HMap w P k b n f) (e:w'.heap[b]?=w.heap[b]?):HMap w' P k b n f:=by
 obtain ⟨D,⟨es,c,h1,h2,h3,h4⟩,r⟩:=h
 exact ⟨D,⟨es,c,e.trans h1,h2,h3,h4⟩,r⟩
theorem HMap.look {t e:TypeId} (h:HMap w P k b n f) (K:Go.Maps.Keyed P k) (ht:P.underlying t=some (.map k e)) {z:Value} (hz:(zeroValue e).run P w=.ok z w) {key:Value} {kl:Lit} (hkey:keyOf P k key=some kl) (hl:WideAt.IsKeyLit kl):
 (Instr.lookup t (.map (some b)) key false).run P w=.ok ((f kl).getD z) w:=by
 obtain ⟨D,h,r⟩:=h
 obtain ⟨v,ps,hrun,hv⟩:=h.lookup K ht hz (zd:=.held z) (zp:=[]) rfl hkey
 rw [(r kl hl).2 z] at hv
 simp only [zqj,Option.some.injEq,Prod.mk.injEq,DataW.held.injEq] at hv
 rw [hrun,hv.1]
theorem HMap.update {t e:TypeId} (h:HMap w P k b n f) (K:Go.Maps.Keyed P k) (ht:P.underlying t=some (.map k e)) (hn:n < maxLen) {key:Value} {kl:Lit} (hkey:keyOf P k key=some kl) (hl:WideAt.IsKeyLit kl) (v:Value):
 ∃ w',(Instr.mapUpdate t (.map (some b)) key v).run P w=.ok () w'∧HMap w' P k b (n+1) (updH f kl v)∧w.grownBy w' (some b):=by
 obtain ⟨D,h,r⟩:=h
 obtain ⟨w',hrun,h',g⟩:=h.update K ht hn hkey (d:=.held v) (ps:=[]) rfl
 refine ⟨w',hrun,⟨_,h',fun x hx=>?_⟩,g⟩
 by_cases e:x=kl
 ·subst e
  rw [ze9,Maps.has_put_same h.isMap hl]
  exact ⟨rfl,fun z=>Maps.atKey_put_same h.isMap hl _ _⟩
 ·rw [zdw e,Maps.has_put_other e]
  exact ⟨(r x hx).1,fun z=>by rw [Maps.atKey_put_other e];exact (r x hx).2 z⟩
end
section
variable {P:Program} {w:World} {ops:Array Oper} {rest:List Oper} {o:Oper} {a:Act} {Q:Exit→Act→World→Prop} {f:Lit→Option Value}
theorem zcn (hg:o.guard=none) (m x:Operand) (t:TypeId) (hop:o.op=Op.lookup t m x false) (k e:TypeId) (K:Go.Maps.Keyed P k) (ht:P.underlying t=some (.map k e)) {z:Value} (hz:(zeroValue e).run P w=.ok z w) (b n:Nat)
 (hm:a.eval m=.map (some b)) (hown:HMap w P k b n f) (key:Value) (kl:Lit) (hx:a.eval x=key) (hkey:keyOf P k key=some kl) (hl:WideAt.IsKeyLit kl)
 (hK:wpList P ops Q rest (a.put o.dst ((f kl).getD z)) w):wpList P ops Q (o::rest) a w:=by
 refine wpList_plain hg fun K' hK'=>?_
 have hrun:=hown.look K ht hz hkey hl
 unfold Oper.wp
 simp [execOp,hop,hm,hx,hrun,Result.andThen]
 exact hK' _ _ hK
theorem zen (hg:o.guard=none) (m x v:Operand) (t:TypeId) (hop:o.op=Op.mapUpdate t m x v) (k e:TypeId) (K:Go.Maps.Keyed P k) (ht:P.underlying t=some (.map k e)) (b n:Nat)
 (hm:a.eval m=.map (some b)) (hown:HMap w P k b n f) (hn:n < maxLen) (key val:Value) (kl:Lit) (hx:a.eval x=key) (hv:a.eval v=val) (hkey:keyOf P k key=some kl) (hl:WideAt.IsKeyLit kl)
 (hK:∀ w',HMap w' P k b (n+1) (updH f kl val)→w.grownBy w' (some b)→wpList P ops Q rest (a.put o.dst undef) w'):wpList P ops Q (o::rest) a w:=by
 refine wpList_plain hg fun K' hK'=>?_
 obtain ⟨w',hrun,r1,r2⟩:=hown.update K ht hn hkey hl val
 unfold Oper.wp
 simp [execOp,hop,hm,hx,hv,hrun,Result.andThen]
 exact hK' _ _ (hK w' r1 r2)
end
end
def grp {κ:Type} [DecidableEq κ] (E:List (κ × Int)) (x:κ):List Int:=(E.filter fun e=>decide (e.1=x)).map (·.2)
theorem zuq {κ:Type} [DecidableEq κ] (E:List (κ × Int)) (y:κ) (i:Int) (x:κ):grp (E++[(y,i)]) x=if y=x then grp E x++[i] else grp E x:=by
 unfold grp
 rw [List.filter_append,List.map_append]
 by_cases h:y=x <;> simp [h]
theorem zy2 {κ:Type} [DecidableEq κ] (E:List (κ × Int)) (x:κ):(grp E x).length≤E.length:=by
 unfold grp
 rw [List.length_map]
 exact List.length_filter_le _ _
def zy3 {κ:Type} [DecidableEq κ] (kt:TypeId) (K:κ→Lit) (w:World) (base b:Nat) (E:List (κ × Int)):Prop:=
 ∃ n f,n≤E.length∧HMap w Tryz.prog kt b n f∧(∀ x,(f (K x)=none∧grp E x=[])∨∃ v,f (K x)=some v∧w.ownsRow base 3 1 v (grp E x).length ((grp E x).map (Value.int .i64)))∧
  ∀ x y v u g,x≠y→f (K x)=some v→f (K y)=some u→v.ownBlock=some g→u.ownBlock≠some g
section
variable {κ:Type} [DecidableEq κ] {kt:TypeId} {K:κ→Lit} {w w':World} {base b:Nat} {E:List (κ × Int)}
theorem zy3.keep (h:zy3 kt K w base b E) (hk:∀ i,(i=b∨base≤i)→i < w.heap.size→w'.heap[i]?=w.heap[i]?):zy3 kt K w' base b E:=by
 obtain ⟨n,f,h1,h2,h3,h4⟩:=h
 refine ⟨n,f,h1,h2.keep (hk b (.inl rfl) h2.lt),fun x=>?_,h4⟩
 rcases h3 x with h | ⟨v,e,ho⟩
 ·exact .inl h
 ·exact .inr ⟨v,e,zbx ho fun g q=>hk g (.inr (ho.lt g q).1) (ho.lt g q).2⟩
theorem zpi {f:Lit→Option Value} (h3:∀ x,(f (K x)=none∧grp E x=[])∨∃ v,f (K x)=some v∧w.ownsRow base 3 1 v (grp E x).length ((grp E x).map (Value.int .i64))) (x:κ):
 w.ownsRow base 3 1 ((f (K x)).getD (.slice none 0 0)) (grp E x).length ((grp E x).map (Value.int .i64)):=by
 rcases h3 x with ⟨e,q⟩ | ⟨v,e,ho⟩
 ·rw [e,q]
  exact World.ownsRow_nil _ _ _ _
 ·rw [e]
  exact ho
theorem zwe {w5 w6 w7:World} {f:Lit→Option Value} {x:κ} {i:Int} {v':Value} (inj:∀ x y,K x=K y→x=y) (hb:b < base)
 (h3:∀ x,(f (K x)=none∧grp E x=[])∨∃ v,f (K x)=some v∧w.ownsRow base 3 1 v (grp E x).length ((grp E x).map (Value.int .i64)))
 (h4:∀ x y v u g,x≠y→f (K x)=some v→f (K y)=some u→v.ownBlock=some g→u.ownBlock≠some g) (b5:Below w.heap.size w w5)
 (ho:w6.ownsRow base 3 1 v' ((grp E x).length+1) ((grp E x).map (Value.int .i64)++[.int .i64 i])) (hg6:w5.grownBy w6 ((f (K x)).getD (.slice none 0 0)).ownBlock)
 (hloc:v'.ownBlock=((f (K x)).getD (.slice none 0 0)).ownBlock∨v'.ownBlock=some w5.heap.size) (hg7:w6.grownBy w7 (some b)):(∀ y,(updH f (K x) v' (K y)=none∧grp (E++[(x,i)]) y=[])∨∃ v,updH f (K x) v' (K y)=some v∧w7.ownsRow base 3 1 v (grp (E++[(x,i)]) y).length ((grp (E++[(x,i)]) y).map (Value.int .i64)))∧
 ∀ y z v u g,y≠z→updH f (K x) v' (K y)=some v→updH f (K x) v' (K z)=some u→v.ownBlock=some g→u.ownBlock≠some g:=by
 have low:∀ {u:Value} {m:Nat} {xs:List Value} {W:World},W.ownsRow base 3 1 u m xs→∀ g,u.ownBlock=some g→some b≠some g:=fun h g e q=>by
  have:=(h.lt g e).1
  cases q
  omega
 have apart:∀ y u,y≠x→f (K y)=some u→w.ownsRow base 3 1 u (grp E y).length ((grp E y).map (Value.int .i64))→∀ g,u.ownBlock=some g→((f (K x)).getD (.slice none 0 0)).ownBlock≠some g∧v'.ownBlock≠some g:=fun y u hne e hu g hgu=>by
  have a1:((f (K x)).getD (.slice none 0 0)).ownBlock≠some g:=by
   cases q:f (K x) with
   | none=>intro r;cases r
   | some v=>exact h4 y x u v g hne e q hgu
  refine ⟨a1,?_⟩
  rcases hloc with r | r
  ·rw [r];exact a1
  ·rw [r]
   intro q
   have:=(hu.lt g hgu).2
   have:=b5.size
   cases q
   omega
 refine ⟨fun y=>?_,fun y z v u g hne ey ez hv=>?_⟩
 ·by_cases e:y=x
  ·subst e
   refine .inr ⟨v',ze9 _ _ _,?_⟩
   rw [zuq,if_pos rfl,List.length_append,List.map_append]
   exact zcz ho hg7 (fun g q=>low ho g q)
  ·have ne:K y≠K x:=fun q=>e (inj _ _ q)
   rw [zdw ne,zuq,if_neg (fun q=>e q.symm)]
   rcases h3 y with h | ⟨u,eu,hu⟩
   ·exact .inl h
   ·refine .inr ⟨u,eu,?_⟩
    have k5:w5.ownsRow base 3 1 u (grp E y).length ((grp E y).map (Value.int .i64)):=zbx hu fun g q=>b5.block g (hu.lt g q).2
    exact zcz (zcz k5 hg6 (fun g q=>(apart y u e eu hu g q).1)) hg7 (fun g q=>low hu g q)
 ·have full:∀ y,f (K y)=some v∨True:=fun _=>.inr trivial
  by_cases e1:y=x
  ·subst e1
   rw [ze9] at ey
   cases ey
   have ne:K z≠K y:=fun q=>hne (inj _ _ q).symm
   rw [zdw ne] at ez
   rcases h3 z with ⟨q,_⟩ | ⟨u',eu,hu⟩
   ·rw [q] at ez;cases ez
   ·rw [ez] at eu
    cases eu
    intro q
    exact (apart z u (fun q=>hne q.symm) ez hu g q).2 hv
  ·have ne1:K y≠K x:=fun q=>e1 (inj _ _ q)
   rw [zdw ne1] at ey
   by_cases e2:z=x
   ·subst e2
    rw [ze9] at ez
    cases ez
    rcases h3 y with ⟨q,_⟩ | ⟨u',eu,hu⟩
    ·rw [q] at ey;cases ey
    ·rw [ey] at eu
     cases eu
     exact (apart y v e1 ey hu g hv).2
   ·have ne2:K z≠K x:=fun q=>e2 (inj _ _ q)
    rw [zdw ne2] at ez
    exact h4 y z v u g hne ey ez hv
end
def zd6 (w:World) (base b:Nat) (E:List (List UInt8 × Int)) (Av:Nat→Prop):Prop:=
 ∃ n f,n≤E.length∧HMap w Tryz.prog 9 b n f∧(∀ x,(f (.string x)=none∧grp E x=[])∨∃ v,f (.string x)=some v∧w.ownsRow base 3 1 v (grp E x).length ((grp E x).map (Value.int .i64)))∧
  (∀ x y v u g,x≠y→f (.string x)=some v→f (.string y)=some u→v.ownBlock=some g→u.ownBlock≠some g)∧∀ x v g,f (.string x)=some v→v.ownBlock=some g→¬ Av g
theorem zlt:∀ x y,Lit.string x=Lit.string y→x=y:=fun x y e=>by injection e
theorem zd6.start {w:World} {base b:Nat} {Av:Nat→Prop} (h:w.heap[b]?=some (.map #[] 0)):zd6 w base b [] Av:=by
 obtain ⟨D,⟨es,cl,e,r⟩,q⟩:=HMap.made w Tryz.prog 9
 have e2:(w.alloc (.map #[] 0)).heap[w.heap.size]?=some (.map #[] 0):=zaf _ _ rfl
 rw [e2] at e
 cases e
 exact ⟨0,_,Nat.le_refl _,⟨D,⟨#[],0,h,r⟩,q⟩,fun x=>.inl ⟨rfl,rfl⟩,(fun _ _ _ _ _ _ h=>by cases h),fun _ _ _ h=>by cases h⟩
theorem zd6.keep {w w':World} {base b:Nat} {E:List (List UInt8 × Int)} {Av Av':Nat→Prop} (h:zd6 w base b E Av) (hk:∀ i,(i=b∨base≤i∧¬ Av i)→i < w.heap.size→w'.heap[i]?=w.heap[i]?) (ha:∀ i,i < w.heap.size→¬ Av i→¬ Av' i):zd6 w' base b E Av':=by
 obtain ⟨n,f,h1,h2,h3,h4,h5⟩:=h
 refine ⟨n,f,h1,h2.keep (hk b (.inl rfl) h2.lt),fun x=>?_,h4,fun x v g e q=>?_⟩
 ·rcases h3 x with h | ⟨v,e,ho⟩
  ·exact .inl h
  ·exact .inr ⟨v,e,zbx ho fun g q=>hk g (.inr ⟨(ho.lt g q).1,h5 x v g e q⟩) (ho.lt g q).2⟩
 ·rcases h3 x with ⟨e2,_⟩ | ⟨v2,e2,ho⟩
  ·rw [e] at e2;cases e2
  ·rw [e] at e2
   cases e2
   exact ha g (ho.lt g q).2 (h5 x v g e q)
theorem zqk {P:Program} {ops:Array Oper} {S:World→Prop} {o:Oper} {a:Act} {f:Lit→Option Value} (hw:Region.wanted o (yielded ops a.tmps)=true) (m x:Operand) (t:TypeId) (hop:o.op=Op.lookup t m x false) (k e:TypeId) (K:Go.Maps.Keyed P k) (ht:P.underlying t=some (.map k e)) {z:Value} (hz:∀ w,(zeroValue e).run P w=.ok z w) (b n:Nat)
 (hm:a.eval m=.map (some b)) (hown:∀ w,S w→HMap w P k b n f) (key:Value) (kl:Lit) (hx:a.eval x=key) (hkey:keyOf P k key=some kl) (hl:WideAt.IsKeyLit kl):YieldsIf P ops S o ((f kl).getD z) a:=
 .inl ⟨hw,fun w h=>by
  have hrun:=(hown w h).look K ht (hz w) hkey hl
  simp [execOp,hop,hm,hx,hrun,Result.andThen]⟩
theorem zoo {P:Program} {w:World} {o:Oper} {a:Act} {K':Act→World→Prop} {Q:Exit→Act→World→Prop} {f:Lit→Option Value} (m x v:Operand) (t:TypeId) (hop:o.op=Op.mapUpdate t m x v) (k e:TypeId) (K:Go.Maps.Keyed P k) (ht:P.underlying t=some (.map k e)) (b n:Nat)
 (hm:a.eval m=.map (some b)) (hown:HMap w P k b n f) (hn:n < maxLen) (key val:Value) (kl:Lit) (hx:a.eval x=key) (hv:a.eval v=val) (hkey:keyOf P k key=some kl) (hl:WideAt.IsKeyLit kl)
 (hK:∀ w',HMap w' P k b (n+1) (updH f kl val)→w.grownBy w' (some b)→K' (a.put o.dst undef) w'):o.wp P a w K' Q:=by
 obtain ⟨w',hrun,r1,r2⟩:=hown.update K ht hn hkey hl val
 unfold Oper.wp
 simp [execOp,hop,hm,hx,hv,hrun,Result.andThen]
 exact hK w' r1 r2
theorem bl_bsB (l:List UInt8):bl (bsB l)=l:=by unfold bl bsB;simp
theorem keyB {l:List UInt8} (h:l.length≤900000000):keyOf Tryz.prog 9 (.string (bsB l))=some (.string l):=by
 have:=Go.WideMaps.keyOf_string_mk (P:=Tryz.prog) (s:=bsB l) Tryz.underlying9 (by rw [z11];unfold maxLen;omega)
 rw [this]
 show some (Lit.string (bl (bsB l)))=_
 rw [bl_bsB]
def zbw (sh:List (Nat × Nat)) (r:List Val):List Val:=(sh.map (·.1)).map (atV r)
def zbi (sh:List (Nat × Nat)) (r:List Val):List Val:=(sh.map (·.2)).map (atV r)
def evI (sh:List (Nat × Nat)) (rows:List (List Val)):List (List UInt8 × Int):=rows.zipIdx.filterMap fun p=>if (zbi sh p.1).all isB then some (zar (zbi sh p.1),(p.2:Int)) else none
def zbj (sh:List (Nat × Nat)) (rows:List (List Val)):List Int:=rows.zipIdx.filterMap fun p=>if (zbi sh p.1).all isB then none else some (p.2:Int)
theorem evI_yes {sh:List (Nat × Nat)} {rows:List (List Val)} {j:Nat} (hj:j < rows.length) (h:(zbi sh rows[j]).all isB=true):evI sh (rows.take (j+1))=evI sh (rows.take j)++[(zar (zbi sh rows[j]),(j:Int))]∧zbj sh (rows.take (j+1))=zbj sh (rows.take j):=by
 unfold evI zbj
 rw [List.take_succ_eq_append_getElem hj,List.zipIdx_append,List.filterMap_append,List.filterMap_append,List.length_take]
 have e:∀ k,([rows[j]].zipIdx k)=[(rows[j],k)]:=fun _=>rfl
 rw [e]
 have hmn:0+min j rows.length=j:=by omega
 constructor
 ·simp only [List.filterMap_cons,List.filterMap_nil,h,if_true,hmn]
 ·simp only [List.filterMap_cons,List.filterMap_nil,h,if_true,List.append_nil]
theorem evI_no {sh:List (Nat × Nat)} {rows:List (List Val)} {j:Nat} (hj:j < rows.length) (h:(zbi sh rows[j]).all isB=false):evI sh (rows.take (j+1))=evI sh (rows.take j)∧zbj sh (rows.take (j+1))=zbj sh (rows.take j)++[(j:Int)]:=by
 unfold evI zbj
 rw [List.take_succ_eq_append_getElem hj,List.zipIdx_append,List.filterMap_append,List.filterMap_append,List.length_take]
 have e:∀ k,([rows[j]].zipIdx k)=[(rows[j],k)]:=fun _=>rfl
 rw [e]
 have hmn:0+min j rows.length=j:=by omega
 constructor
 ·simp only [List.filterMap_cons,List.filterMap_nil,h,Bool.false_eq_true,if_false,List.append_nil]
 ·simp only [List.filterMap_cons,List.filterMap_nil,h,Bool.false_eq_true,if_false,hmn]
theorem zn0 (sh:List (Nat × Nat)) (rows:List (List Val)):(evI sh rows).length≤rows.length∧(zbj sh rows).length≤rows.length:=by
 unfold evI zbj
 constructor
 ·refine Nat.le_trans (List.length_filterMap_le _ _) ?_
  rw [List.length_zipIdx]
  exact Nat.le_refl _
 ·refine Nat.le_trans (List.length_filterMap_le _ _) ?_
  rw [List.length_zipIdx]
  exact Nat.le_refl _
theorem zh2:(Tryz.prog.info? 90).map (·.size)=some 5:=by kernel_rfl
theorem zky {A B R M L:Value} (hA:A.oneCell'=true) (hB:B.oneCell'=true) (hR:R.oneCell'=true) (hM:M.oneCell'=true) (hL:L.oneCell'=true):∀ u∈[A,B,R,M,L],u.oneCell'=true:=by
 intro u hu
 simp only [List.mem_cons,List.mem_nil_iff,or_false] at hu
 rcases hu with rfl | rfl | rfl | rfl | rfl <;> assumption
structure IxIn (sh:List (Nat × Nat)) (rows:List (List Val)) (A B R:Value) (mb:Nat) (L:Value) (P:Nat→Prop) (w:World):Prop where
 shd:ShIn w P sh A B
 rws:zag rowE w P R rows
 map:P mb∧∃ n f,n≤rows.length∧HMap w Tryz.prog 9 mb n f∧∀ x,zag intE w P ((f (.string x)).getD (.slice none 0 0)) (grp (evI sh rows) x)∧capK ((f (.string x)).getD (.slice none 0 0))
 loose:zag intE w P L (zbj sh rows)∧capK L
theorem IxIn.stays {sh:List (Nat × Nat)} {rows:List (List Val)} {A B R:Value} {mb:Nat} {L:Value} {P P':Nat→Prop} {w w':World} (h:IxIn sh rows A B R mb L P w) (s:zem P P' w w'):IxIn sh rows A B R mb L P' w':=by
 obtain ⟨h1,h2,⟨h0,n,f,h3,h4,h5⟩,h6,h7⟩:=h
 exact ⟨h1.stays s,h2.stays s,⟨(s mb h0).1,n,f,h3,h4.keep (s mb h0).2,fun x=>⟨(h5 x).1.stays s,(h5 x).2⟩⟩,h6.stays s,h7⟩
end Go.Proofs.YteclpnfckjfibaaGreatDoor
