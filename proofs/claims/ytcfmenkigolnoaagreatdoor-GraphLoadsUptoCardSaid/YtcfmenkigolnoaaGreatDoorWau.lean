/- Texts of one kind, one behind the other: each says ahead of itself what it shows. -/
import Derived.Test.YtcfmenkigolnoaaGreatDoorWat
import Derived.Test.YtcfmenkigolnoaaGreatDoorWam
/- GRX -/
namespace Go.Proofs.YtcfmenkigolnoaaGreatDoor
open Go.RowKit
theorem zie (k:Int) (b:Bool) (n:Int) (t x:ByteArray) (q:List Val) (d:Nat):mayP (.mk k b n t x q) d=zb8 k b n t x q.length (decide (q.length≤4096) && decide (d+1≤60) && zed q (d+1)):=by conv=>lhs;unfold mayP
theorem zg7 (k:Int) (b:Bool) (n:Int) (t x:ByteArray) (q:List Val):ze2 (.mk k b n t x q)=((zdg (.mk k b n t x q) || (decide (k=5) && q.all zdg)) && mayP (.mk k b n t x q) 0):=rfl
def zcs (v:Val) (l:Bool):Bool:=if l=true then ze2 v else zdg v && mayP v 0
theorem zgh (k:Int) (b:Bool) (n:Int) (t x:ByteArray) (q:List Val):zdg (.mk k b n t x q)=true↔k=1∨k=2∨k=3∨k=4:=by
 unfold zdg
 simp only [Bool.or_eq_true,decide_eq_true_eq]
 omega
theorem zeh {k:Int} {b:Bool} {n:Int} {t x:ByteArray} {q:List Val} (l:Bool) (h:k=1∨k=2∨k=3∨k=4):zcs (.mk k b n t x q) l=mayP (.mk k b n t x q) 0:=by
 have h1:=(zgh k b n t x q).2 h
 unfold zcs
 split
 ·rw [zg7]
  rw [h1]
  simp
 ·rw [h1]
  simp
theorem zqh {k:Int} {b:Bool} {n:Int} {t x:ByteArray} {q:List Val} (l:Bool) (h:¬ (k=1∨k=2∨k=3∨k=4)) (h5:k≠5):zcs (.mk k b n t x q) l=false:=by
 have h1:zdg (.mk k b n t x q)=false:=by rw [Bool.eq_false_iff];exact fun h2=>h ((zgh k b n t x q).1 h2)
 unfold zcs
 split
 ·rw [zg7]
  rw [h1,decide_eq_false h5]
  rfl
 ·rw [h1]
  rfl
theorem zt4 {v:Val} (h:zdg v=true) (d:Nat):mayP v d=mayP v 0:=by
 obtain ⟨k,b,n,t,x,q⟩:=v
 rw [zie,zie]
 rcases (zgh k b n t x q).1 h with rfl | rfl | rfl | rfl <;> rfl
theorem each_at {q:List Val} {d:Nat} (h:zed q d=true) (u:Val) (hu:u∈q):mayP u d=true:=by
 obtain ⟨j,hj,rfl⟩:=List.getElem_of_mem hu
 cases e:mayP q[j] d with
 | true=>rfl
 | false=>rw [zg0 q d j hj e] at h;simp at h
theorem zt5 {b:Bool} {n:Int} {t x:ByteArray} {q:List Val} (l:Bool) {u:Val} (hu:u∈q) (h:zcs u false=false):zcs (.mk 5 b n t x q) l=false:=by
 rw [Bool.eq_false_iff]
 intro hc
 unfold zcs at hc
 split at hc
 ·rw [zg7] at hc
  have h1:zdg (.mk 5 b n t x q)=false:=rfl
  rw [h1] at hc
  simp only [Bool.false_or,Bool.and_eq_true,decide_eq_true_eq,List.all_eq_true] at hc
  obtain ⟨⟨_,h2⟩,h3⟩:=hc
  rw [zie] at h3
  have h4:((decide (q.length≤4096) && decide (0+1≤60) && zed q (0+1)) && zb1 b n t x 0)=true:=h3
  simp only [Bool.and_eq_true] at h4
  have h5:=each_at h4.1.2 u hu
  rw [zt4 (h2 u hu)] at h5
  unfold zcs at h
  rw [if_neg (by decide),h2 u hu,h5] at h
  simp at h
 ·simp only [Bool.and_eq_true] at hc
  have h1:zdg (.mk 5 b n t x q)=false:=rfl
  rw [h1] at hc
  simp at hc
theorem zqi {b:Bool} {n:Int} {t x:ByteArray} {q:List Val} (h:∀ u∈q,zcs u false=true):zcs (.mk 5 b n t x q) true=mayP (.mk 5 b n t x q) 0:=by
 unfold zcs
 rw [if_pos rfl]
 rw [zg7]
 have h1:q.all zdg=true:=by
  rw [List.all_eq_true]
  intro u hu
  have:=h u hu
  unfold zcs at this
  rw [if_neg (by decide)] at this
  simp only [Bool.and_eq_true] at this
  exact this.1
 rw [h1]
 simp
theorem zog {b:Bool} {n:Int} {t x:ByteArray} {q:List Val}:zcs (.mk 5 b n t x q) false=false:=by
 unfold zcs
 rw [if_neg (by decide)]
 rfl
def zd9 (v:Val) (l:Bool):Prop:=∀ (W:World) (k:Int) (b:Bool) (n:Int) (t x:ByteArray) (q:List Val) (p:Option Addr) (cap:Nat),v=.mk k b n t x q→Fine n t x q.length→Held W (.slice p q.length cap) q→
 Calls Tryz.prog 84 #[.agg #[.int .i64 k,.bool b,.int .i64 n,.string t,.string x,.slice p q.length cap],.bool l] W fun e w'=>e=.returned (.bool (zcs v l))∧Below W.heap.size W w'
set_option maxRecDepth 20000 in
set_option maxHeartbeats 6400000 in
theorem zt6 (k:Int) (b:Bool) (n:Int) (t x:ByteArray) (p:Option Addr) (len cap:Nat) (l:Bool) (w:World) (hk:¬ (k=1∨k=2∨k=3∨k=4)) (h5:k≠5):
 Calls Tryz.prog 84 #[.agg #[.int .i64 k,.bool b,.int .i64 n,.string t,.string x,.slice p len cap],.bool l] w fun e w'=>e=.returned (.bool false)∧Below w.heap.size w w':=by
 have S:=zai (k:=k) (b:=b) (n:=n) (t:=t) (x:=x) (p:=p) (len:=len) (cap:=cap) w rfl
 have b0:=zas w (.cells #[.int .i64 k,.bool b,.int .i64 n,.string t,.string x,.slice p len cap] 60)
 have f0:=S.c0
 have e1:(k == 1)=false:=by simp;omega
 have e2:(k == 2)=false:=by simp;omega
 have e3:(k == 3)=false:=by simp;omega
 have e4:(k == 4)=false:=by simp;omega
 have e5:(k == 5)=false:=by simp;omega
 clear hk h5
 go_enter Tryz.func84,Tryz.ntmps84
 go_wp2_with fail
 go_ret
 exact ⟨rfl,b0⟩
set_option maxRecDepth 20000 in
set_option maxHeartbeats 3200000 in
theorem zt7 (b:Bool) (n:Int) (t x:ByteArray) (q:List Val) (p:Option Addr) (cap:Nat) (l:Bool) (w:World) (hf:Fine n t x q.length) (hl:Held w (.slice p q.length cap) q):
 Calls Tryz.prog 84 #[.agg #[.int .i64 1,.bool b,.int .i64 n,.string t,.string x,.slice p q.length cap],.bool l] w fun e w'=>e=.returned (.bool (mayP (.mk 1 b n t x q) 0))∧Below w.heap.size w w':=by
 obtain ⟨w1,hw1⟩:∃ w1,w1=w.alloc (.cells #[.int .i64 1,.bool b,.int .i64 n,.string t,.string x,.slice p q.length cap] 60):=⟨_,rfl⟩
 have S:Six w1 w.heap.size 1 b n t x p q.length cap:=by rw [hw1];exact zai _ rfl
 have b0:Below w.heap.size w w1:=by rw [hw1];exact zas _ _
 have HM:=Lib.hid (fun (W:World) (h:Held W (.slice p q.length cap) q)=>zm5 1 b n t x q p cap W hf h)
 have HL:=Lib.hid hl
 have HW:=Lib.hid hw1
 have f0:=S.c0
 clear hl hw1
 generalize mayP (.mk 1 b n t x q) 0=r at HM ⊢
 go_enter Tryz.func84,Tryz.ntmps84
 go_upto_region 1 with fail
 rw [← HW.out]
 go_wp2_with (first
  |((with_reducible refine zaj (.tmp 2) w.heap.size S ?_ ?_ ?_ ?_);rfl;rfl;rfl)
  |(go_at_call 108;(with_reducible refine (HM.out _ (Held.below q HL.out b0)).mono ?_);rintro e w9 ⟨rfl,hb9⟩;have b9:=zab b0 hb9 b0.size))
 go_ret
 exact ⟨rfl,b9⟩
set_option maxRecDepth 20000 in
set_option maxHeartbeats 3200000 in
theorem zt8 (b:Bool) (n:Int) (t x:ByteArray) (q:List Val) (p:Option Addr) (cap:Nat) (l:Bool) (w:World) (hf:Fine n t x q.length) (hl:Held w (.slice p q.length cap) q):
 Calls Tryz.prog 84 #[.agg #[.int .i64 2,.bool b,.int .i64 n,.string t,.string x,.slice p q.length cap],.bool l] w fun e w'=>e=.returned (.bool (mayP (.mk 2 b n t x q) 0))∧Below w.heap.size w w':=by
 obtain ⟨w1,hw1⟩:∃ w1,w1=w.alloc (.cells #[.int .i64 2,.bool b,.int .i64 n,.string t,.string x,.slice p q.length cap] 60):=⟨_,rfl⟩
 have S:Six w1 w.heap.size 2 b n t x p q.length cap:=by rw [hw1];exact zai _ rfl
 have b0:Below w.heap.size w w1:=by rw [hw1];exact zas _ _
 have HM:=Lib.hid (fun (W:World) (h:Held W (.slice p q.length cap) q)=>zm5 2 b n t x q p cap W hf h)
 have HL:=Lib.hid hl
 have HW:=Lib.hid hw1
 have f0:=S.c0
 clear hl hw1
 generalize mayP (.mk 2 b n t x q) 0=r at HM ⊢
 go_enter Tryz.func84,Tryz.ntmps84
 go_upto_region 1 with fail
 rw [← HW.out]
 go_wp2_with (first
  |((with_reducible refine zaj (.tmp 2) w.heap.size S ?_ ?_ ?_ ?_);rfl;rfl;rfl)
  |(go_at_call 108;(with_reducible refine (HM.out _ (Held.below q HL.out b0)).mono ?_);rintro e w9 ⟨rfl,hb9⟩;have b9:=zab b0 hb9 b0.size))
 go_ret
 exact ⟨rfl,b9⟩
set_option maxRecDepth 20000 in
set_option maxHeartbeats 3200000 in
theorem zt9 (b:Bool) (n:Int) (t x:ByteArray) (q:List Val) (p:Option Addr) (cap:Nat) (l:Bool) (w:World) (hf:Fine n t x q.length) (hl:Held w (.slice p q.length cap) q):
 Calls Tryz.prog 84 #[.agg #[.int .i64 3,.bool b,.int .i64 n,.string t,.string x,.slice p q.length cap],.bool l] w fun e w'=>e=.returned (.bool (mayP (.mk 3 b n t x q) 0))∧Below w.heap.size w w':=by
 obtain ⟨w1,hw1⟩:∃ w1,w1=w.alloc (.cells #[.int .i64 3,.bool b,.int .i64 n,.string t,.string x,.slice p q.length cap] 60):=⟨_,rfl⟩
 have S:Six w1 w.heap.size 3 b n t x p q.length cap:=by rw [hw1];exact zai _ rfl
 have b0:Below w.heap.size w w1:=by rw [hw1];exact zas _ _
 have HM:=Lib.hid (fun (W:World) (h:Held W (.slice p q.length cap) q)=>zm5 3 b n t x q p cap W hf h)
 have HL:=Lib.hid hl
 have HW:=Lib.hid hw1
 have f0:=S.c0
 clear hl hw1
 generalize mayP (.mk 3 b n t x q) 0=r at HM ⊢
 go_enter Tryz.func84,Tryz.ntmps84
 go_upto_region 1 with fail
 rw [← HW.out]
 go_wp2_with (first
  |((with_reducible refine zaj (.tmp 2) w.heap.size S ?_ ?_ ?_ ?_);rfl;rfl;rfl)
  |(go_at_call 108;(with_reducible refine (HM.out _ (Held.below q HL.out b0)).mono ?_);rintro e w9 ⟨rfl,hb9⟩;have b9:=zab b0 hb9 b0.size))
 go_ret
 exact ⟨rfl,b9⟩
set_option maxRecDepth 20000 in
set_option maxHeartbeats 3200000 in
theorem zua (b:Bool) (n:Int) (t x:ByteArray) (q:List Val) (p:Option Addr) (cap:Nat) (l:Bool) (w:World) (hf:Fine n t x q.length) (hl:Held w (.slice p q.length cap) q):
 Calls Tryz.prog 84 #[.agg #[.int .i64 4,.bool b,.int .i64 n,.string t,.string x,.slice p q.length cap],.bool l] w fun e w'=>e=.returned (.bool (mayP (.mk 4 b n t x q) 0))∧Below w.heap.size w w':=by
 obtain ⟨w1,hw1⟩:∃ w1,w1=w.alloc (.cells #[.int .i64 4,.bool b,.int .i64 n,.string t,.string x,.slice p q.length cap] 60):=⟨_,rfl⟩
 have S:Six w1 w.heap.size 4 b n t x p q.length cap:=by rw [hw1];exact zai _ rfl
 have b0:Below w.heap.size w w1:=by rw [hw1];exact zas _ _
 have HM:=Lib.hid (fun (W:World) (h:Held W (.slice p q.length cap) q)=>zm5 4 b n t x q p cap W hf h)
 have HL:=Lib.hid hl
 have HW:=Lib.hid hw1
 have f0:=S.c0
 clear hl hw1
 generalize mayP (.mk 4 b n t x q) 0=r at HM ⊢
 go_enter Tryz.func84,Tryz.ntmps84
 go_upto_region 1 with fail
 rw [← HW.out]
 go_wp2_with (first
  |((with_reducible refine zaj (.tmp 2) w.heap.size S ?_ ?_ ?_ ?_);rfl;rfl;rfl)
  |(go_at_call 108;(with_reducible refine (HM.out _ (Held.below q HL.out b0)).mono ?_);rintro e w9 ⟨rfl,hb9⟩;have b9:=zab b0 hb9 b0.size))
 go_ret
 exact ⟨rfl,b9⟩
set_option maxRecDepth 20000 in
set_option maxHeartbeats 6400000 in
theorem zub (b:Bool) (n:Int) (t x:ByteArray) (q:List Val) (p:Option Addr) (cap:Nat) (l:Bool) (w:World) (hf:Fine n t x q.length) (hl:Held w (.slice p q.length cap) q) (each:∀ v∈q,zd9 v false):
 Calls Tryz.prog 84 #[.agg #[.int .i64 5,.bool b,.int .i64 n,.string t,.string x,.slice p q.length cap],.bool l] w fun e w'=>e=.returned (.bool (zcs (.mk 5 b n t x q) l))∧Below w.heap.size w w':=by
 obtain ⟨r,hr⟩:∃ r,r=zcs (.mk 5 b n t x q) l:=⟨_,rfl⟩
 rw [← hr]
 have S:=zai (k:=5) (b:=b) (n:=n) (t:=t) (x:=x) (p:=p) (len:=q.length) (cap:=cap) w rfl
 have b0:=zas w (.cells #[.int .i64 5,.bool b,.int .i64 n,.string t,.string x,.slice p q.length cap] 60)
 have HM0:=fun (W:World) (h:Held W (.slice p q.length cap) q)=>zm5 5 b n t x q p cap W hf h
 obtain ⟨m,hm⟩:∃ m,m=q.length:=⟨_,rfl⟩
 have hml:m≤2097152:=by rw [hm];exact hf.hn
 rw [← hm] at S b0 HM0 hl ⊢
 have f0:=S.c0
 have HN:=Lib.hid hm
 have HM:=Lib.hid HM0
 have HL:=Lib.hid hl
 have HS:=Lib.hid S
 have HR:=Lib.hid hr
 have HE:=Lib.hid each
 clear hm HM0 hl S hr each hf
 go_enter Tryz.func84,Tryz.ntmps84
 go_wp2_with fail
 go_loopw [5] (fun i wr=>∃ j:Nat,j≤m∧i=.int .i64 j∧Below w.heap.size w wr∧Six wr w.heap.size 5 b n t x p m cap∧Hid (∀ (i:Nat) (h:i < q.length),i < j→zcs q[i] false=true)) (fun i _=>m - (intOf i).toNat)
 case atStart=>exact ⟨0,Nat.zero_le _,rfl,b0,HS.out,Lib.hid fun _ _ h=>absurd h (by omega)⟩
 case round=>
  clear f0 b0
  obtain ⟨j,hj,rfl,hb,S,HA⟩:=hrel
  have f5:=S.c5
  by_cases hlt:(j:Int) < m
  ·have hj1:j < q.length:=by have:=HN.out;omega
   obtain ⟨g,off,rfl,hh⟩:∃ g off,p=some ⟨g,off,none⟩∧zb5 w g off q:=by
    have hq:=HL.out
    cases q with
    | nil=>simp at hj1
    | cons v r=>exact hq.form
   obtain ⟨k1,b1,n1,t1,x1,q1,p1,cp1,o1⟩:=((zb5.at_ q off hh j hj1).below _ hb).opens
   have hc:=HE.out q[j] (List.getElem_mem hj1) wr k1 b1 n1 t1 x1 q1 p1 cp1 o1.e o1.hf o1.hl
   obtain ⟨c,hcc⟩:∃ c,c=zcs q[j] false:=⟨_,rfl⟩
   rw [← hcc] at hc
   have HC:=Lib.hid hcc
   have HC2:=Lib.hid hc
   clear hc hcc
   have O1:=Lib.hid o1
   clear o1 hh
   cases c with
   | true=>
     go_wp2_with (first
      |((with_reducible refine zby (.tmp 27) g (off+j*6) k1 b1 n1 t1 x1 _ O1.out.c0 O1.out.c1 O1.out.c2 O1.out.c3 O1.out.c4 O1.out.c5 ?_ ?_ ?_ ?_);rfl;rfl;rfl)
      |(go_at_call 84;(with_reducible refine HC2.out.mono ?_);rintro e w3 ⟨rfl,hb3⟩;have b3:=zab hb hb3 hb.size;have S3:=S.below hb3;clear hb3))
     go_roundw
     case rel=>
      refine ⟨j+1,by omega,by go_num,b3,S3,Lib.hid fun i hi hlt'=>?_⟩
      by_cases e:i=j
      ·subst e;exact HC.out.symm
      ·exact HA.out i hi (by omega)
     case measure=>simp [intOf];omega
   | false=>
     go_wp2_with (first
      |((with_reducible refine zby (.tmp 27) g (off+j*6) k1 b1 n1 t1 x1 _ O1.out.c0 O1.out.c1 O1.out.c2 O1.out.c3 O1.out.c4 O1.out.c5 ?_ ?_ ?_ ?_);rfl;rfl;rfl)
      |(go_at_call 84;(with_reducible refine HC2.out.mono ?_);rintro e w3 ⟨rfl,hb3⟩;have b3:=zab hb hb3 hb.size;clear hb3))
     go_ret
     exact ⟨by rw [HR.out,zt5 l (List.getElem_mem hj1) HC.out.symm];rfl,b3⟩
  ·have HA2:Hid (∀ u∈q,zcs u false=true):=Lib.hid fun u hu=>by
    obtain ⟨i,hi,rfl⟩:=List.getElem_of_mem hu
    exact HA.out i hi (by have:=HN.out;omega)
   have hLw:=Held.below q HL.out hb
   have HC:=HM.out wr hLw
   clear hLw
   cases l with
   | true=>
     have HC2:=Lib.hid HC
     clear HC
     go_wp2_with (first
      |((with_reducible refine zao (.tmp 2) w.heap.size S ?_ ?_ ?_ ?_);rfl;rfl;rfl)
      |(go_at_call 108;(with_reducible refine HC2.out.mono ?_);rintro e w9 ⟨rfl,hb9⟩;have b9:=zab hb hb9 hb.size))
     go_ret
     exact ⟨by rw [HR.out,zqi HA2.out];rfl,b9⟩
   | false=>
     clear HC
     go_wp2_with fail
     go_ret
     exact ⟨by rw [HR.out,zog];rfl,hb⟩
theorem zm6 (v:Val) (l:Bool) (k:Int) (b:Bool) (n:Int) (t x:ByteArray) (q:List Val) (ev:v=.mk k b n t x q) (each:∀ u∈q,zd9 u false):zd9 v l:=by
 subst ev
 intro W k1 b1 n1 t1 x1 q1 p cap e hf hl
 cases e
 by_cases h1:k=1
 ·subst h1;rw [zeh l (by omega)];exact zt7 b n t x q p cap l W hf hl
 by_cases h2:k=2
 ·subst h2;rw [zeh l (by omega)];exact zt8 b n t x q p cap l W hf hl
 by_cases h3:k=3
 ·subst h3;rw [zeh l (by omega)];exact zt9 b n t x q p cap l W hf hl
 by_cases h4:k=4
 ·subst h4;rw [zeh l (by omega)];exact zua b n t x q p cap l W hf hl
 by_cases h5:k=5
 ·subst h5;exact zub b n t x q p cap l W hf hl each
 rw [zqh l (by omega) h5]
 exact zt6 k b n t x p q.length cap l W (by omega) h5
mutual
theorem zif:(v:Val)→(l:Bool)→zd9 v l
 | .mk k b n t x q,l=>zm6 _ l k b n t x q rfl (fun u h=>zgs q u h)
theorem zgs:(q:List Val)→∀ u∈q,zd9 u false
 | [],_,h=>absurd h (by simp)
 | v::r,u,h=>by
   rcases List.mem_cons.1 h with h | h
   ·rw [h];exact zif v false
   ·exact zgs r u h
end
end Go.Proofs.YtcfmenkigolnoaaGreatDoor

/- GRY -/
namespace Go.Proofs.YtcfmenkigolnoaaGreatDoor
open Go.RowKit
def zf5 (ps:List zax):Bool:=zd8 (ps.map zax.key) && ps.all fun p=>ze2 p.v
theorem zqj (ps:List zax) (i:Nat) (hi:i < ps.length):zf5 (ps.take (i+1))=(zf5 (ps.take i) && ((zci ps[i].key && !memB ps[i].key ((ps.map zax.key).take i)) && ze2 ps[i].v)):=by
 have hi2:i < (ps.map zax.key).length:=by rw [List.length_map];exact hi
 have h:zd8 ((ps.map zax.key).take (i+1))=(zd8 ((ps.map zax.key).take i) && (zci (ps.map zax.key)[i] && !memB (ps.map zax.key)[i] ((ps.map zax.key).take i))):=zgg _ i hi2
 rw [List.getElem_map] at h
 unfold zf5
 rw [List.map_take,List.map_take,h,List.take_succ_eq_append_getElem hi,List.all_append,List.all_cons,List.all_nil,Bool.and_true]
 ac_rfl
theorem zoh {ps:List zax} {i:Nat} (hi:i < ps.length) (h:((zci ps[i].key && !memB ps[i].key ((ps.map zax.key).take i)) && ze2 ps[i].v)=false):zb9 ps=false:=by
 rw [Bool.and_eq_false_iff] at h
 unfold zb9
 rcases h with h | h
 ·have h2:zcv (ps.map zax.key)=false:=zid (i:=i) (by rw [List.length_map];exact hi) (by rw [List.getElem_map];exact h)
  rw [h2,Bool.and_false,Bool.false_and]
 ·have h2:(ps.all fun p=>ze2 p.v)=false:=by
   rw [Bool.eq_false_iff]
   intro q
   rw [List.all_eq_true] at q
   have:=q _ (List.getElem_mem hi)
   rw [h] at this
   simp at this
  rw [h2,Bool.and_false]
theorem zqk {ps:List zax} (h:zf5 ps=true):zb9 ps=decide (ps.length≤65536):=by
 unfold zf5 at h
 rw [Bool.and_eq_true] at h
 unfold zb9
 rw [zjf h.1,h.2,List.length_map,Bool.and_true,Bool.and_self]
set_option maxHeartbeats 6400000 in
set_option maxRecDepth 20000 in
theorem zjg (V:Value) (ps:List zax) (W:World) (h:zak za0 W (Old W) V ps) (hn:ps.length≤2097152):Calls Tryz.prog 41 #[V] W fun e w'=>e=.returned (.bool (zb9 ps))∧Below W.heap.size W w':=by
 obtain ⟨p,cap,rfl⟩:=h.slice
 obtain ⟨n,hl⟩:∃ n,n=ps.length:=⟨_,rfl⟩
 obtain ⟨r,hr⟩:∃ r,r=zb9 ps:=⟨_,rfl⟩
 rw [← hr,← hl]
 rw [← hl] at hn
 by_cases hbig:n≤65536
 ·have hb1:decide ((65536:Int) < n)=false:=decide_eq_false (by omega)
  have H1:=Lib.hid h
  have HL:=Lib.hid hl
  have HR:=Lib.hid hr
  have HBG:=Lib.hid hbig
  clear h hl hr hbig
  go_enter Tryz.func41,Tryz.ntmps41
  go_wp2_with fail
  go_loopg [3] n (fun gg s3 wr=>∃ j:Nat,j+gg=n∧s3=.int .i64 j∧Hid (zf5 (ps.take j)=true)∧Hid (Below W.heap.size W wr))
  case atStart=>exact ⟨0,by omega,rfl,Lib.hid (by simp [zf5,zd8]),Lib.hid (Below.refl _ _)⟩
  case round=>
   obtain ⟨j,hjg,rfl,HA,HB⟩:=hrel
   clear hb1
   by_cases hj:(j:Int) < n
   ·have hj1:j < ps.length:=by have:=HL.out;omega
    obtain ⟨g,o,cp1,cc1,e1,hg1,hr1,hra1⟩:=(H1.out.stays (zad HB.out)).at_ j hj1
    injection e1 with e11 e12 e13
    subst e11
    obtain ⟨x,hx⟩:∃ x,x=ps[j]:=⟨_,rfl⟩
    rw [← hx] at hr1
    obtain ⟨key,⟨k1,b1,i1,t1,x1,q1⟩⟩:=x
    obtain ⟨c61,rfl,hks,hv1⟩:=hr1
    obtain ⟨L1,rfl,hf1,hq1⟩:=hv1
    have hh1:=zay.held q1 hq1
    obtain ⟨lp1,lc1,rfl⟩:=za5 hh1
    have ra:wr.rangeAt g (o+j*7) [.string key,.int .i64 k1,.bool b1,.int .i64 i1,.string t1,.string x1,.slice lp1 q1.length lc1]:=hra1
    have rv:wr.rangeAt g (o+j*7+1) [.int .i64 k1,.bool b1,.int .i64 i1,.string t1,.string x1,.slice lp1 q1.length lc1]:=fun i u hi=>by
     have:=ra (i+1) u (by rw [List.getElem?_cons_succ];exact hi)
     rw [show o+j*7+1+i=o+j*7+(i+1) by omega]
     exact this
    have c0:wr.cell? ⟨g,o+j*7,none⟩=some (.string key):=ra 0 _ rfl
    have hkey:key=ps[j].key:=by rw [← hx]
    have hval:(.mk k1 b1 i1 t1 x1 q1:Val)=ps[j].v:=by rw [← hx]
    have hw:=zic key wr hks
    have hp:=zif (.mk k1 b1 i1 t1 x1 q1) true wr k1 b1 i1 t1 x1 q1 lp1 lc1 rfl hf1 hh1
    rw [show zcs (.mk k1 b1 i1 t1 x1 q1) true=ze2 (.mk k1 b1 i1 t1 x1 q1) from rfl] at hp
    obtain ⟨r1,hr1⟩:∃ r1,r1=zci key:=⟨_,rfl⟩
    obtain ⟨r2,hr2⟩:∃ r2,r2=ze2 (.mk k1 b1 i1 t1 x1 q1):=⟨_,rfl⟩
    rw [← hr1] at hw
    rw [← hr2] at hp
    have HWD:=Lib.hid hw
    have HPL:=Lib.hid hp
    have HZ:Hid (((r1 && !memB key ((ps.map zax.key).take j)) && r2)=false→r=false):=Lib.hid fun h=>by
     rw [HR.out]
     refine zoh hj1 ?_
     rw [← hkey,← hval,← hr1,← hr2]
     exact h
    have HY:Hid (((r1 && !memB key ((ps.map zax.key).take j)) && r2)=true→zf5 (ps.take (j+1))=true):=Lib.hid fun h=>by
     rw [zqj ps j hj1,HA.out,← hkey,← hval,← hr1,← hr2,h]
     rfl
    have HK:=Lib.hid hkey
    have hB:=HB.out
    clear hw hp hr1 hr2 hkey hval hx hra1 e12 e13 hh1 hq1 hf1 HA HB ra hks
    cases r1 with
    | false=>
      obtain rfl:r=false:=HZ.out rfl
      clear rv HPL
      go_wp2_with (first
       |(go_at_call 42;(with_reducible refine HWD.out.mono ?_);rintro e w3 ⟨rfl,rfl⟩))
      go_ret
      exact ⟨rfl,hB⟩
    | true=>
      cases r2 with
      | false=>
        obtain rfl:r=false:=HZ.out (by rw [Bool.and_false])
        go_wp2_with (first
         |(go_at_call 42;(with_reducible refine HWD.out.mono ?_);rintro e w3 ⟨rfl,rfl⟩)
         |((with_reducible refine zfp (.tmp 25) g (o+j*7+1) 60 _ 6 _ rv rfl Tryz.underlying60 rfl (by kernel_rfl) ?_ ?_ ?_ ?_);rfl;rfl;rfl)
         |(go_at_call 84;(with_reducible refine HPL.out.mono ?_);rintro e w4 ⟨rfl,hb4⟩;have b4:=zab hB hb4 hB.size))
        go_ret
        exact ⟨rfl,b4⟩
      | true=>
        go_wp2_with (first
         |(go_at_call 42;(with_reducible refine HWD.out.mono ?_);rintro e w3 ⟨rfl,rfl⟩)
         |((with_reducible refine zfp (.tmp 25) g (o+j*7+1) 60 _ 6 _ rv rfl Tryz.underlying60 rfl (by kernel_rfl) ?_ ?_ ?_ ?_);rfl;rfl;rfl)
         |(go_at_call 84;(with_reducible refine HPL.out.mono ?_);rintro e w4 ⟨rfl,hb4⟩;have b4:=zab hB hb4 hB.size))
        have HB4:=Lib.hid b4
        clear c0 rv hb4 b4 hB HWD HPL
        go_loopg [4] j (fun gg s4 wr2=>∃ i:Nat,i+gg=j∧s4=.int .i64 i∧Hid (∀ m (h:m < ps.length),m < i→ps[m].key≠key)∧Hid (Below W.heap.size W wr2))
        case atStart=>exact ⟨0,by omega,rfl,Lib.hid (fun m _ h=>absurd h (by omega)),HB4⟩
        case round=>
         clear HB4
         obtain ⟨i,hig,rfl,HC,HB⟩:=hrel
         by_cases hi:(i:Int) < j
         ·have hi1:i < ps.length:=by omega
          obtain ⟨g1,o1,cp1,cc1,e1,hg1,hr1,hra1⟩:=(H1.out.stays (zad HB.out)).at_ i hi1
          injection e1 with e11 e12 e13
          injection e11 with e14
          injection e14 with e15 e16
          subst e15 e16
          obtain ⟨g2,o2,cp2,cc2,e1,hg2,hr2,hra2⟩:=(H1.out.stays (zad HB.out)).at_ j hj1
          injection e1 with e21 e22 e23
          injection e21 with e24
          injection e24 with e25 e26
          subst e25 e26
          obtain ⟨y,hy⟩:∃ y,y=ps[i].key:=⟨_,rfl⟩
          obtain ⟨t1,rfl,_,_⟩:=hr1
          obtain ⟨t2,rfl,_,_⟩:=hr2
          have c1:=hra1 0 _ rfl
          have c2:=hra2 0 _ rfl
          rw [← hy] at c1
          rw [← HK.out] at c2
          replace c1:wr.cell? ⟨g,o+i*7,none⟩=some (.string y):=c1
          replace c2:wr.cell? ⟨g,o+j*7,none⟩=some (.string key):=c2
          have HYY:=Lib.hid hy
          clear hra1 hra2 e12 e13 e22 e23 hy
          by_cases q:y=key
          ·subst q
           have HR2:Hid (r=false):=Lib.hid (HZ.out (by
            have:memB y ((ps.map zax.key).take j)=true:=by
             rw [zef,HYY.out]
             refine List.mem_iff_getElem.2 ⟨i,by rw [List.length_take,List.length_map];omega,?_⟩
             rw [List.getElem_take,List.getElem_map]
            rw [this]
            rfl))
           have hB:=HB.out
           clear HB
           go_upto_region 11 with fail
           go_quiet (fail)
           have hB9:=hB.trans (zbt (Below.refl _ wr) nq |>.mono hB.size)
           clear c1 c2 hB
           generalize wr.drewN nq=w9 at*
           go_wp2_with fail
           go_ret
           exact ⟨by rw [HR2.out];rfl,hB9⟩
          ·have q2:(y.toList == key.toList)=false:=zn5 q
           have HC2:Hid (∀ m (h:m < ps.length),m < i+1→ps[m].key≠key):=Lib.hid fun m h1 h2=>by
            by_cases e:m=i
            ·subst e
             rw [← HYY.out]
             exact q
            ·exact HC.out m h1 (by omega)
           have hB:=HB.out
           clear HB q
           go_upto_region 11 with fail
           go_quiet (fail)
           have hB9:=hB.trans (zbt (Below.refl _ wr) nq |>.mono hB.size)
           clear c1 c2 hB
           generalize wr.drewN nq=w9 at*
           go_wp2_with fail
           go_roundg (gk - 1)
           case measure=>omega
           case rel=>exact ⟨i+1,by omega,by go_num,HC2,Lib.hid hB9⟩
         ·have HM:Hid (zf5 (ps.take (j+1))=true):=Lib.hid (HY.out (by
           have:memB key ((ps.map zax.key).take j)=false:=by
            refine zhz fun h=>?_
            obtain ⟨m,hm,e⟩:=List.getElem_of_mem h
            rw [List.length_take,List.length_map] at hm
            rw [List.getElem_take,List.getElem_map] at e
            exact HC.out m (by omega) (by omega) e
           rw [this]
           rfl))
          go_wp2_with fail
          go_roundg (n - (j+1))
          case measure=>omega
          case rel=>exact ⟨j+1,by omega,by go_num,HM,HB⟩
   ·have HZ:Hid (r=true):=Lib.hid (by
     have e:ps.take j=ps:=by rw [List.take_of_length_le];have:=HL.out;omega
     have h:=HA.out
     rw [e] at h
     rw [HR.out,zqk h,← HL.out]
     exact decide_eq_true HBG.out)
    go_wp2_with fail
    go_ret
    exact ⟨by rw [HZ.out];rfl,HB.out⟩
 ·have hb1:decide ((65536:Int) < n)=true:=decide_eq_true (by omega)
  obtain rfl:r=false:=by
   rw [hr]
   unfold zb9
   rw [← hl,decide_eq_false hbig]
   rfl
  clear hr hl h hbig
  go_enter Tryz.func41,Tryz.ntmps41
  go_wp2_with fail
  go_ret
  exact ⟨rfl,Below.refl _ _⟩
end Go.Proofs.YtcfmenkigolnoaaGreatDoor
