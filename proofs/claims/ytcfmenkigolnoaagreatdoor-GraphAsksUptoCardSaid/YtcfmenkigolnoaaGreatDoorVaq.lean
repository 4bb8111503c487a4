/- Texts of one kind, one behind the other: each says ahead of itself what it shows. -/
import Derived.Test.YtcfmenkigolnoaaGreatDoorVae
import Derived.Test.YtcfmenkigolnoaaGreatDoorVap
import Derived.Test.YtcfmenkigolnoaaGreatDoorVao
import Derived.Test.YtcfmenkigolnoaaGreatDoorVab
import Derived.Test.YtcfmenkigolnoaaGreatDoorVaa
import Derived.Deep.RegionHeld3
import Derived.Deep.RegionWith
import Derived.Test.YtcfmenkigolnoaaGreatDoorVad
import Derived.Deep.WholeRow
import Derived.Laws.IdiomStrings
import Derived.Deep.DeepCutAuto
import Derived.Laws.StructEq
import Derived.WalkMore
import Derived.Deep.LoopGhost
import Derived.OwnWalk
import Derived.BigGuardPart
/- OE -/
namespace Go.Proofs.YtcfmenkigolnoaaGreatDoor
open Go.RowKit
def zry (v:Val):Prop:=∀ (W:World) (k:Int) (b:Bool) (n:Int) (t x:ByteArray) (q:List Val) (p:Option Addr) (cap:Nat) (v2:Val) (k2:Int) (b2:Bool) (n2:Int) (t2 x2:ByteArray) (q2:List Val) (p2:Option Addr) (cap2:Nat),
 v=.mk k b n t x q→v2=.mk k2 b2 n2 t2 x2 q2→q.length≤2097152→Held W (.slice p q.length cap) q→Held W (.slice p2 q2.length cap2) q2→
 Calls Tryz.prog 28 #[.agg #[.int .i64 k,.bool b,.int .i64 n,.string t,.string x,.slice p q.length cap],.agg #[.int .i64 k2,.bool b2,.int .i64 n2,.string t2,.string x2,.slice p2 q2.length cap2]] W
  fun e w'=>e=.returned (.bool (zht v v2))∧Below W.heap.size W w'
theorem zxx (p p2:Option Addr) (n n2 cap cap2:Nat) (w:World) (h:¬ n=n2):
 Calls Tryz.prog 60 #[.slice p n cap,.slice p2 n2 cap2] w fun e w'=>e=.returned (.bool false)∧Below w.heap.size w w':=by
 have h1:((n:Int) != n2)=true:=by simp;omega
 clear h
 go_enter Tryz.func60,Tryz.ntmps60
 go_wp2_with fail
 go_ret
 exact ⟨rfl,Below.refl _ _⟩
theorem zvc (p p2:Option Addr) (cap cap2:Nat) (w:World):
 Calls Tryz.prog 60 #[.slice p 0 cap,.slice p2 0 cap2] w fun e w'=>e=.returned (.bool true)∧Below w.heap.size w w':=by
 go_enter Tryz.func60,Tryz.ntmps60
 go_wp2_with fail
 go_loopw [5] (fun i wr=>i=.int .i64 0∧wr=w) (fun _ _=>0)
 case atStart=>exact ⟨rfl,rfl⟩
 case round=>
  obtain ⟨rfl,rfl⟩:=hrel
  go_wp2_with fail
  go_ret
  exact ⟨rfl,Below.refl _ _⟩
set_option maxRecDepth 20000 in
set_option maxHeartbeats 3200000 in
theorem zvd (l l2:List Val) (g off cap g2 off2 cap2:Nat) (w:World) (hl:zb8 w g off l) (hl2:zb8 w g2 off2 l2) (hlen:l2.length=l.length) (hn:l.length≤2097152) (each:∀ v∈l,zry v):
 Calls Tryz.prog 60 #[.slice (some ⟨g,off,none⟩) l.length cap,.slice (some ⟨g2,off2,none⟩) l.length cap2] w fun e w'=>e=.returned (.bool (zci l l2))∧Below w.heap.size w w':=by
 have HH:=Lib.hid hl
 have HH2:=Lib.hid hl2
 have HE:=Lib.hid each
 have HL:=Lib.hid hlen
 clear hl hl2 each hlen
 go_enter Tryz.func60,Tryz.ntmps60
 go_wp2_with fail
 go_loopw [5] (fun i wr=>∃ j:Nat,j≤l.length∧i=.int .i64 j∧Below w.heap.size w wr∧∀ (i:Nat) (h:i < l.length) (h2:i < l2.length),i < j→zht l[i] l2[i]=true) (fun i _=>l.length - (intOf i).toNat)
 case atStart=>exact ⟨0,Nat.zero_le _,rfl,Below.refl _ _,fun _ _ _ h=>absurd h (by omega)⟩
 case round=>
  obtain ⟨j,hj,rfl,hb,hall⟩:=hrel
  have HA:=Lib.hid hall
  clear hall
  by_cases hlt:j < l.length
  ·have hlt2:j < l2.length:=by have:=HL.out;omega
   obtain ⟨k,b,n,t,x,q,p,cp,o1⟩:=(zb8.at_ l off HH.out j hlt).opens
   obtain ⟨k2,b2,n2,t2,x2,q2,p2,cp2,o2⟩:=(zb8.at_ l2 off2 HH2.out j hlt2).opens
   have hc:=fun W (hb:Below w.heap.size w W)=>HE.out l[j] (List.getElem_mem hlt) W k b n t x q p cp l2[j] k2 b2 n2 t2 x2 q2 p2 cp2 o1.e o2.e o1.hf.hn (Held.below q o1.hl hb) (Held.below q2 o2.hl hb)
   obtain ⟨r,hr⟩:∃ r,r=zht l[j] l2[j]:=⟨_,rfl⟩
   rw [← hr] at hc
   have R1:∀ w',Below w.heap.size w w'→w'.rangeAt g (off+j*6) [.int .i64 k,.bool b,.int .i64 n,.string t,.string x,.slice p q.length cp]:=fun w' h=>(o1.below h).range
   have R2:∀ w',Below w.heap.size w w'→w'.rangeAt g2 (off2+j*6) [.int .i64 k2,.bool b2,.int .i64 n2,.string t2,.string x2,.slice p2 q2.length cp2]:=fun w' h=>(o2.below h).range
   have HC:=Lib.hid hc
   have HR:=Lib.hid hr
   have HR1:=Lib.hid R1
   have HR2:=Lib.hid R2
   clear o1 o2 hr hc R1 R2
   have hlti:(j:Int) < l.length:=by omega
   go_wp2_with fail
   refine wp_region_held_drew (S:=fun w'=>Below w.heap.size w w') (by kernel_rfl) hb.drew (fun hHeld=>?_)
   refine tg (i:=0) (.slice (some ⟨g,off,none⟩) l.length cap) rfl hHeld ?_
   refine tg (i:=1) (.int .i64 j) rfl hHeld ?_
   refine tg (i:=2) (.pointer (some ⟨g,off+j*6,none⟩)) rfl hHeld ?_
   refine tk (i:=3) rfl (yieldsIf_load_mid (by rfl) 60 (.tmp 19) rfl g (off+j*6) rfl _ _ (fun w h=>HR1.out w h) Tryz.underlying60 rfl zhe) hHeld ?_
   refine tg (i:=4) (.slice (some ⟨g2,off2,none⟩) l.length cap2) rfl hHeld ?_
   refine tg (i:=5) (.int .i64 j) rfl hHeld ?_
   refine tg (i:=6) (.pointer (some ⟨g2,off2+j*6,none⟩)) rfl hHeld ?_
   refine tk (i:=7) rfl (yieldsIf_load_mid (by rfl) 60 (.tmp 23) rfl g2 (off2+j*6) rfl _ _ (fun w h=>HR2.out w h) Tryz.underlying60 rfl zhe) hHeld ?_
   refine tr 8 rfl (fun K hK=>?_)
   rw [if_pos (by rfl)]
   go_simp
   refine (HC.out _ hHeld).mono ?_
   rintro e w3 ⟨rfl,hb3⟩
   refine hK.out _ _ (zab hHeld hb3 hHeld.size) (fun hHeld2=>?_)
   clear hK K hb3 hHeld
   try simp only [putS]
   refine tg (i:=9) (.bool (!r)) rfl hHeld2 ?_
   refine wpAnyH_done (by kernel_rfl) ?_ _
   cases r with
   | true=>
     go_wp2_with fail
     go_roundw
     case rel=>
      refine ⟨j+1,by omega,by go_num,hHeld2,fun i hi hi2 hlt'=>?_⟩
      by_cases e:i=j
      ·subst e;exact HR.out.symm
      ·exact HA.out i hi hi2 (by omega)
     case measure=>simp [intOf];omega
   | false=>
     go_wp2_with fail
     go_ret
     exact ⟨by rw [zin l l2 j hlt hlt2 HR.out.symm];rfl,hHeld2⟩
  ·go_wp2_with fail
   go_ret
   exact ⟨by rw [zhf l l2 fun i h h2=>HA.out i h h2 (by omega)];rfl,hb⟩
theorem eqRowAt (l l2:List Val) (p p2:Option Addr) (cap cap2:Nat) (w:World) (hl:Held w (.slice p l.length cap) l) (hl2:Held w (.slice p2 l2.length cap2) l2) (hn:l.length≤2097152) (each:∀ v∈l,zry v):
 Calls Tryz.prog 60 #[.slice p l.length cap,.slice p2 l2.length cap2] w fun e w'=>e=.returned (.bool ((l.length == l2.length) && zci l l2))∧Below w.heap.size w w':=by
 by_cases h:l.length=l2.length
 ·rw [show (l.length == l2.length)=true by simpa using h,Bool.true_and,← h]
  cases l with
  | nil=>
    unfold zci
    exact zvc _ _ _ _ _
  | cons v r=>
    cases l2 with
    | nil=>simp at h
    | cons v2 r2=>
      obtain ⟨g,off,rfl,hh⟩:=hl.form
      obtain ⟨g2,off2,rfl,hh2⟩:=hl2.form
      exact zvd (v::r) (v2::r2) g off cap g2 off2 cap2 w hh hh2 h.symm hn each
 ·rw [show (l.length == l2.length)=false by simpa using h,Bool.false_and]
  exact zxx p p2 _ _ cap cap2 w h
set_option maxHeartbeats 1600000 in
theorem zrz (v:Val) (k:Int) (b:Bool) (n:Int) (t x:ByteArray) (q:List Val) (ev:v=.mk k b n t x q) (each:∀ u∈q,zry u):zry v:=by
 subst ev
 intro W k1 b1 n1 t1 x1 q1 p cap v2 k2 b2 n2 t2 x2 q2 p2 cap2 e1 e2 hn hl hl2
 cases e1
 subst e2
 unfold zht
 obtain ⟨c1,hc1⟩:∃ c1,c1=Obj.cells #[.int .i64 k,.bool b,.int .i64 n,.string t,.string x,.slice p q.length cap] 60:=⟨_,rfl⟩
 obtain ⟨c2,hc2⟩:∃ c2,c2=Obj.cells #[.int .i64 k2,.bool b2,.int .i64 n2,.string t2,.string x2,.slice p2 q2.length cap2] 60:=⟨_,rfl⟩
 have b0:=zbi W c1 c2
 have hc:=eqRowAt q q2 p p2 cap cap2 ((W.alloc c1).alloc c2) (Held.below q hl b0) (Held.below q2 hl2 b0) hn each
 have l0:Six ((W.alloc c1).alloc c2) W.heap.size k b n t x p q.length cap:=by rw [hc1];exact (zal _ rfl).alloc _
 have l1:Six ((W.alloc c1).alloc c2) (W.heap.size+1) k2 b2 n2 t2 x2 p2 q2.length cap2:=by rw [hc2];exact zal _ (by simp)
 have z0:=b0.size
 have f0:=l0.c0
 have f1:=l0.c1
 have f2:=l0.c2
 have f3:=l0.c3
 have f4:=l0.c4
 have f5:=l0.c5
 have g0:=l1.c0
 have g1:=l1.c1
 have g2:=l1.c2
 have g3:=l1.c3
 have g4:=l1.c4
 have g5:=l1.c5
 clear l0 l1 hl hl2 each hn
 subst hc1 hc2
 cases a0:(k == k2) with
 | false=>
   rw [Bool.false_and]
   go_enter Tryz.func28,Tryz.ntmps28
   go_wp2_with fail
   go_ret
   exact ⟨rfl,b0⟩
 | true=>
   rw [Bool.true_and]
   cases a1:(b == b2) with
   | false=>
     rw [Bool.false_and]
     go_enter Tryz.func28,Tryz.ntmps28
     go_wp2_with fail
     go_ret
     exact ⟨rfl,b0⟩
   | true=>
     rw [Bool.true_and]
     cases a2:(n == n2) with
     | false=>
       rw [Bool.false_and]
       go_enter Tryz.func28,Tryz.ntmps28
       go_wp2_with fail
       go_ret
       exact ⟨rfl,b0⟩
     | true=>
       rw [Bool.true_and]
       cases a3:(t.toList == t2.toList) with
       | false=>
         rw [Bool.false_and]
         go_enter Tryz.func28,Tryz.ntmps28
         go_wp2_with fail
         go_ret
         exact ⟨rfl,b0⟩
       | true=>
         rw [Bool.true_and]
         cases a4:(x.toList == x2.toList) with
         | false=>
           rw [Bool.false_and]
           go_enter Tryz.func28,Tryz.ntmps28
           go_wp2_with fail
           go_ret
           exact ⟨rfl,b0⟩
         | true=>
           rw [Bool.true_and]
           generalize (q.length == q2.length && zci q q2)=r at hc ⊢
           go_enter Tryz.func28,Tryz.ntmps28
           go_wp2_with (go_at_call 60;(with_reducible refine hc.mono ?_);rintro e w3 ⟨rfl,hb3⟩;replace b0:=zab b0 hb3 z0)
           go_ret
           exact ⟨rfl,b0⟩
mutual
theorem zqr:(v:Val)→zry v
 | .mk k b n t x q=>zrz _ k b n t x q rfl (zn5 q)
theorem zn5:(q:List Val)→∀ u∈q,zry u
 | [],_,h=>absurd h (by simp)
 | v::r,u,h=>by
   rcases List.mem_cons.1 h with h | h
   ·rw [h];exact zqr v
   ·exact zn5 r u h
end
end Go.Proofs.YtcfmenkigolnoaaGreatDoor

/- GWK -/
namespace Go.Proofs.YtcfmenkigolnoaaGreatDoor
open Go.RowKit
mutual
theorem zg7:(v:Val)→zht v v=true
 | .mk k b n t x l=>by
   unfold zht
   rw [zgq l]
   simp
theorem zgq:(l:List Val)→zci l l=true
 | []=>by unfold zci;rfl
 | v::r=>by
   unfold zci
   rw [zg7 v,zgq r]
   rfl
end
theorem zn6 (v u:Val) (c c2:List Value) (W:World) (P P2:Nat→Prop) (h:valE.rel W P c v) (h2:valE.rel W P2 c2 u):
 Calls Tryz.prog 28 #[.agg c.toArray,.agg c2.toArray] W fun e w'=>e=.returned (.bool (zht v u))∧Below W.heap.size W w':=by
 obtain ⟨k,b,n,t,x,q⟩:=v
 obtain ⟨k2,b2,n2,t2,x2,q2⟩:=u
 obtain ⟨L,rfl,hf,hq⟩:=h
 obtain ⟨L2,rfl,hf2,hq2⟩:=h2
 obtain ⟨p,cap,rfl⟩:=za7 (za9.held q hq)
 obtain ⟨p2,cap2,rfl⟩:=za7 (za9.held q2 hq2)
 exact zqr _ W k b n t x q p cap _ k2 b2 n2 t2 x2 q2 p2 cap2 rfl rfl hf.hn (za9.held q hq) (za9.held q2 hq2)
theorem zve (p q:Option Addr) (n m c d:Nat) (w:World):(Instr.field 25 (.agg #[.slice p n c,.slice q m d]) 1).run Tryz.prog w=.ok (.slice q m d) w:=by kernel_rfl
def gW:zaw:=⟨[⟨1,[⟨#[65]⟩],[]⟩],[⟨7,1,1,⟨#[116]⟩,[]⟩]⟩
theorem zy0:zd5 gW=true:=by decide
theorem zk0:zep gW:=goodG zy0
def wW:Way:=⟨(1,0),by decide⟩
theorem zxy:zd9 gW=[7]:=by simp [zd9,gW]
theorem zxz:zez gW=[1]:=by simp [zez,gW]
theorem gW_hops:zgn gW wW []=[7]:=by
 unfold zgn
 rw [zxy]
 decide
theorem gW_lab:zcp gW [⟨#[65]⟩]=[1]:=by
 unfold zcp
 rw [zxz]
 simp [zff,zdm,gW,sortS,zqc]
set_option maxHeartbeats 3200000 in
set_option maxRecDepth 20000 in
theorem wakesAt (w:World) (hG:Gd w):Calls Tryz.prog 9 #[] w fun e w'=>e=.returned (.bool true)∧Below w.heap.size w w':=by
 obtain ⟨w1,hw1⟩:∃ w1,w1=((w.alloc (.cells #[.string ⟨#[65]⟩] 9)).alloc (.cells #[.int .i64 1,.slice (some ⟨w.heap.size,0,none⟩) 1 1,.slice none 0 0] 38)).alloc (.cells #[.int .i64 7,.int .i64 1,.int .i64 1,.string ⟨#[116]⟩,.slice none 0 0] 41):=⟨_,rfl⟩
 have bw:Below w.heap.size w w1:=by rw [hw1];exact (zbi _ _ _).alloc (by simp;omega) _
 have u0:w1.heap[w.heap.size]?=some (.cells #[.string ⟨#[65]⟩] 9 (0,0)):=by rw [hw1];exact zat _ (zat _ (zae _ _ rfl))
 have u1:w1.heap[w.heap.size+1]?=some (.cells #[.int .i64 1,.slice (some ⟨w.heap.size,0,none⟩) 1 1,.slice none 0 0] 38 (0,0)):=by rw [hw1];exact zat _ (zae _ _ (by simp))
 have u2:w1.heap[w.heap.size+1+1]?=some (.cells #[.int .i64 7,.int .i64 1,.int .i64 1,.string ⟨#[116]⟩,.slice none 0 0] 41 (0,0)):=by rw [hw1];exact zae _ _ (by simp)
 have hsz:w1.heap.size=w.heap.size+3:=by rw [hw1];simp
 have sl:zaj zbk w1 (Old w1) (.slice (some ⟨w.heap.size,0,none⟩) 1 1) [⟨#[65]⟩]:=⟨_,1,rfl,fun _=>⟨w.heap.size,0,_,rfl,by show w.heap.size < w1.heap.size;omega,zax u0 0 [.string ⟨#[65]⟩] rfl,RowE.single ⟨rfl,by decide⟩⟩⟩
 have sn:zaj zay w1 (Old w1) (.slice (some ⟨w.heap.size+1,0,none⟩) 1 1) gW.nodes:=⟨_,1,rfl,fun _=>⟨w.heap.size+1,0,_,rfl,by show w.heap.size+1 < w1.heap.size;omega,zax u1 0 [.int .i64 1,.slice (some ⟨w.heap.size,0,none⟩) 1 1,.slice none 0 0] rfl,RowE.single ⟨_,_,rfl,by decide,by decide,by decide,sl,zaj.nil _ _⟩⟩⟩
 have se:zaj za0 w1 (Old w1) (.slice (some ⟨w.heap.size+1+1,0,none⟩) 1 1) gW.edges:=⟨_,1,rfl,fun _=>⟨w.heap.size+1+1,0,_,rfl,by show w.heap.size+1+1 < w1.heap.size;omega,zax u2 0 [.int .i64 7,.int .i64 1,.int .i64 1,.string ⟨#[116]⟩,.slice none 0 0] rfl,RowE.single ⟨_,rfl,by decide,by decide,by decide,zaj.nil _ _⟩⟩⟩
 have hl:=zyy gW _ _ w1 (hG.below bw) sn se (by decide) (by decide)
 have HL:=Lib.hid hl
 have HBW:=Lib.hid bw
 have HW:=Lib.hid hw1
 clear hl sn se sl u0 u1 u2 hsz bw hG hw1
 have hf25:=zve
 go_enter Tryz.func9,Tryz.ntmps9
 go_upto_region 2 with (first
  |(rw [← HW.out];go_at_call 11;go_loud (refine HL.out.mono ?_);rintro e w2 ⟨hb2,hs⟩;rw [if_pos zy0] at hs;obtain ⟨s,rfl,hst⟩:=hs))
 have b2:=zab HBW.out hb2 HBW.out.size
 have HHP:Hid (Calls Tryz.prog 23 #[.pointer (some ⟨s,0,none⟩),.int .i64 1,.int .i64 0,.slice none 0 0] w2 (fun e w'=>∃ p cap,e=.returned (.slice p 1 cap)∧zb9 w' (.slice p 1 cap) [7]∧Below w2.heap.size w2 w')):=Lib.hid (by
  refine (zu9 w2 s gW hst zk0.de zk0.ne wW (.slice none 0 0) [] ⟨none,0,rfl,fun h=>absurd rfl h⟩ (by decide)).mono ?_
  rintro e w' ⟨R,rfl,hR,hb⟩
  rw [gW_hops] at hR
  obtain ⟨p,cap,rfl⟩:=zba hR
  exact ⟨p,cap,rfl,za4 hR,hb⟩)
 have HLB:Hid (∀ W',zcz W' s gW→Calls Tryz.prog 31 #[.pointer (some ⟨s,0,none⟩),.slice (some ⟨W'.heap.size,0,none⟩) 1 1] (W'.alloc (.cells #[.string ⟨#[65]⟩] 9)) (fun e w'=>∃ p cap,e=.returned (.slice p 1 cap)∧zb9 w' (.slice p 1 cap) [1]∧Below W'.heap.size W' w')):=Lib.hid fun W' h=>by
  refine (askLab W' s gW h zk0 [⟨#[65]⟩] (fun t ht=>by
   obtain rfl:t=⟨#[65]⟩:=by simpa using ht
   decide) (by decide)).mono ?_
  rintro e w' ⟨p,cap,rfl,hi,hb⟩
  rw [gW_lab] at hi ⊢
  exact ⟨p,cap,rfl,hi,hb⟩
 have HPL:Hid (∀ W',zcz W' s gW→Calls Tryz.prog 16 #[.pointer (some ⟨s,0,none⟩)] W' (fun e w'=>∃ pn nn kn pe ke,e=.returned (.agg #[.slice pn nn kn,.slice pe 1 ke])∧Below W'.heap.size W' w')):=Lib.hid fun W' h=>by
  refine (zvb W' s gW h zk0).mono ?_
  intro e w' hp
  obtain ⟨vn,ve,rfl,hn,he,hb⟩:=hp.slices
  obtain ⟨p1,c1,rfl⟩:=hn.slice
  obtain ⟨p2,c2,rfl⟩:=he.slice
  rw [show (za3 gW).edges.length=1 from zdt gW]
  exact ⟨p1,_,c1,p2,c2,rfl,hb⟩
 have HEQ:=Lib.hid (fun W' z p cap h=>eqOne W' z p cap h)
 have HST:=Lib.hid hst
 have HB2:=Lib.hid b2
 clear hst hb2 b2 HL HBW HW
 go_wp2_with (first
  |(go_at_call 23;(with_reducible refine HHP.out.mono ?_);rintro e w3 ⟨p3,k3,rfl,hi3,hb3⟩;have B3:=hb3)
  |(go_at_call 24;(with_reducible refine (HEQ.out _ 7 p3 k3 hi3).mono ?_);rintro e w4 ⟨rfl,hb4⟩;have B4:=zab B3 hb4 B3.size;have st4:=HST.out.below B4)
  |(go_at_call 31;(with_reducible refine (HLB.out _ st4).mono ?_);rintro e w5 ⟨p5,k5,rfl,hi5,hb5⟩;have B5:=zab B4 hb5 B4.size)
  |(go_at_call 24;(with_reducible refine (HEQ.out _ 1 p5 k5 hi5).mono ?_);rintro e w6 ⟨rfl,hb6⟩;have B6:=zab B5 hb6 B5.size;have st6:=HST.out.below B6)
  |(go_at_call 16;(with_reducible refine (HPL.out _ st6).mono ?_);rintro e w7 ⟨pn,nn,kn,pe,ke,rfl,hb7⟩;have B7:=zab B6 hb7 B6.size))
 go_ret
 exact ⟨rfl,zab HB2.out B7 HB2.out.size⟩
end Go.Proofs.YtcfmenkigolnoaaGreatDoor

/- GPS -/
namespace Go.Proofs.YtcfmenkigolnoaaGreatDoor
open Go.RowKit
end Go.Proofs.YtcfmenkigolnoaaGreatDoor

/- GLP -/
namespace Go.Proofs.YtcfmenkigolnoaaGreatDoor
open Go.RowKit
structure Run (s gb:Nat) (vn ve:Value) (g:zaw) (W:World):Prop where
 st:zcz W s g
 box:W.heap[gb]?=some (.cells #[vn,ve] 25 (0,0))
 ns:zaj zay W (Old W) vn g.nodes
 es:zaj za0 W (Old W) ve g.edges
theorem Run.below {W W':World} {s gb:Nat} {vn ve:Value} {g:zaw} (h:Run s gb vn ve g W) (b:Below W.heap.size W W'):Run s gb vn ve g W':=
 ⟨h.st.below b,(b.block _ (zaa h.box)).trans h.box,h.ns.stays (zad b),h.es.stays (zad b)⟩
theorem zah {W W':World} {p:Addr} {v:Value} (h:W.cell? p=some v) (b:Below W.heap.size W W'):W'.cell? p=some v:=(b.cell (p:=p) (World.block_lt_of_cell? W _ h)).trans h
theorem zaz {W W':World} {g o:Nat} {c:List Value} (h:W.rangeAt g o c) (b:Below W.heap.size W W'):W'.rangeAt g o c:=fun j u hj=>zah (h j u hj) b
def zr0 (W:World) (v:Val) (e:Ending) (w':World):Prop:=∃ c,e=.returned (.agg c.toArray)∧valE.rel w' (Old w') c v∧Below W.heap.size W w'
end Go.Proofs.YtcfmenkigolnoaaGreatDoor

/- GLM -/
namespace Go.Proofs.YtcfmenkigolnoaaGreatDoor
open Go.RowKit
theorem zn7 (g:zaw) (w:Way) (ts:List ByteArray):(zgn g w ts).length≤g.edges.length:=by
 unfold zgn
 refine zds _ _ _ (zds _ _ _ ?_)
 rw [zgm]
 exact Nat.le_refl _
theorem zn8 (g:zaw) (ls:List ByteArray):(zcp g ls).length≤g.nodes.length:=by
 unfold zcp
 refine zds _ _ _ ?_
 rw [zgk]
 exact Nat.le_refl _
end Go.Proofs.YtcfmenkigolnoaaGreatDoor

/- DMa -/
namespace Go.Proofs.YtcfmenkigolnoaaGreatDoor
open Go.RowKit
set_option maxHeartbeats 1600000 in
theorem zy1 (s:ByteArray) (w:World) (hs:s.size≤maxLen):
 Calls Tryz.prog 161 #[.string s] w fun e w'=>e=.returned (.bool (zcq s))∧w=w':=by
 unfold maxLen at hs
 by_cases h0:s.size=0
 ·have hv:zcq s=false:=by
   unfold zcq
   rw [decide_eq_false_iff_not]
   omega
  rw [hv]
  go_enter Tryz.func161,Tryz.ntmps161
  go_wp2_with fail
  go_ret
  exact ⟨rfl,rfl⟩
 ·by_cases hbig:(1048576:Int) < s.size
  ·have hv:zcq s=false:=by
    unfold zcq
    rw [decide_eq_false_iff_not]
    omega
   have h1:¬ (s.size:Int) < 1:=by omega
   rw [hv]
   go_enter Tryz.func161,Tryz.ntmps161
   go_wp2_with fail
   go_ret
   exact ⟨rfl,rfl⟩
  ·have h1:¬ (s.size:Int) < 1:=by omega
   go_enter Tryz.func161,Tryz.ntmps161
   go_wp2_with fail
   go_loop [3] (fun i=>∃ k:Nat,k≤s.size∧i=.int .i64 k∧∀ j (h:j < s.size),j < k→zge s[j]=true) (fun i=>s.size - (intOf i).toNat)
   case atStart=>exact ⟨0,Nat.zero_le _,rfl,fun j _ h=>absurd h (by omega)⟩
   case round=>
    obtain ⟨k,hk,rfl,hall⟩:=hrel
    have HA:=Lib.hid hall
    clear hall
    by_cases hlt:k < s.size
    ·by_cases h1:(s[k].toNat:Int)≤32
     ·go_wp2_with fail
      go_ret
      exact ⟨by rw [zg1 hlt (by simp [zge];omega)];rfl,rfl⟩
     ·by_cases h2:(s[k].toNat:Int)=60
      ·go_wp2_with fail
       go_ret
       exact ⟨by rw [zg1 hlt (by simp [zge];omega)];rfl,rfl⟩
      ·by_cases h3:(s[k].toNat:Int)=62
       ·go_wp2_with fail
        go_ret
        exact ⟨by rw [zg1 hlt (by simp [zge];omega)];rfl,rfl⟩
       ·go_wp2_with fail
        go_round
        case rel=>exact ⟨k+1,by omega,by go_num,zfb (p:=fun _=>zge) hlt HA.out (by simp [zge];omega)⟩
        case measure=>simp [intOf];omega
    ·go_wp2_with fail
     go_ret
     have hv:zcq s=true:=by
      unfold zcq
      rw [decide_eq_true_eq]
      exact ⟨by omega,by omega,fun j hj=>HA.out j hj (by omega)⟩
     exact ⟨by rw [hv];rfl,rfl⟩
set_option maxHeartbeats 3200000 in
theorem refName (s:ByteArray) (w:World) (hs:s.size≤maxLen):
 Calls Tryz.prog 162 #[.string s] w fun e w'=>e=.returned (.bool (zdj s))∧w=w':=by
 unfold maxLen at hs
 by_cases h0:s.size=0
 ·have hv:zdj s=false:=by
   unfold zdj
   rw [decide_eq_false_iff_not]
   omega
  rw [hv]
  go_enter Tryz.func162,Tryz.ntmps162
  go_wp2_with fail
  go_ret
  exact ⟨rfl,rfl⟩
 have hpos:0 < s.size:=by omega
 have hlow:¬ (s.size:Int) < 1:=by omega
 by_cases hbig:(64:Int) < s.size
 ·have hv:zdj s=false:=by
   unfold zdj
   rw [decide_eq_false_iff_not]
   omega
  rw [hv]
  go_enter Tryz.func162,Tryz.ntmps162
  go_wp2_with fail
  go_ret
  exact ⟨rfl,rfl⟩
 by_cases hd:(48:Int)≤s[0].toNat∧(s[0].toNat:Int)≤57
 ·have hv:zdj s=false:=zf2 hpos (by simp [zd1,zda];omega)
  rw [hv]
  obtain ⟨d1,d2⟩:=hd
  go_enter Tryz.func162,Tryz.ntmps162
  go_wp2_with fail
  go_ret
  exact ⟨rfl,rfl⟩
 have HD:=Lib.hid hd
 have hdd:¬ (48:Int)≤s[0].toNat∨¬ (s[0].toNat:Int)≤57:=by omega
 clear hd
 rcases hdd with hdd | hdd
 all_goals
  go_enter Tryz.func162,Tryz.ntmps162
  go_wp2_with fail
  all_goals
   go_loop [3] (fun i=>∃ k:Nat,k≤s.size∧i=.int .i64 k∧∀ j (h:j < s.size),j < k→zd1 j s[j]=true) (fun i=>s.size - (intOf i).toNat)
   case atStart=>exact ⟨0,Nat.zero_le _,rfl,fun j _ h=>absurd h (by omega)⟩
   case round=>
    clear hdd
    obtain ⟨k,hk,rfl,hall⟩:=hrel
    have HA:=Lib.hid hall
    clear hall
    by_cases hlt:k < s.size
    ·by_cases a1:(97:Int)≤s[k].toNat
     ·by_cases a2:(s[k].toNat:Int)≤122
      ·go_wp2_with fail
       go_round
       case rel=>exact ⟨k+1,by omega,by go_num,zfb (p:=zd1) hlt HA.out (by simp [zd1,zda];omega)⟩
       case measure=>simp [intOf];omega
      ·have a3:(65:Int)≤s[k].toNat:=by omega
       have a4:¬ (s[k].toNat:Int)≤90:=by omega
       have a5:(48:Int)≤s[k].toNat:=by omega
       have a6:¬ (s[k].toNat:Int)≤57:=by omega
       have a7:¬ (s[k].toNat:Int)=95:=by omega
       have e7:((s[k].toNat:Int) == 95)=false:=by simpa using a7
       go_wp2_with fail
       go_ret
       exact ⟨by rw [zf2 hlt (by simp [zd1,zda,zfa];omega)];rfl,rfl⟩
     ·by_cases a3:(65:Int)≤s[k].toNat
      ·by_cases a4:(s[k].toNat:Int)≤90
       ·go_wp2_with fail
        go_round
        case rel=>exact ⟨k+1,by omega,by go_num,zfb (p:=zd1) hlt HA.out (by simp [zd1,zda];omega)⟩
        case measure=>simp [intOf];omega
       ·have a5:(48:Int)≤s[k].toNat:=by omega
        have a6:¬ (s[k].toNat:Int)≤57:=by omega
        by_cases a7:(s[k].toNat:Int)=95
        ·have e7:((s[k].toNat:Int) == 95)=true:=by simpa using a7
         go_wp2_with fail
         go_round
         case rel=>exact ⟨k+1,by omega,by go_num,zfb (p:=zd1) hlt HA.out (by simp [zd1,zda];omega)⟩
         case measure=>simp [intOf];omega
        ·have e7:((s[k].toNat:Int) == 95)=false:=by simpa using a7
         go_wp2_with fail
         go_ret
         exact ⟨by rw [zf2 hlt (by simp [zd1,zda,zfa];omega)];rfl,rfl⟩
      ·by_cases a5:(48:Int)≤s[k].toNat
       ·by_cases a6:(s[k].toNat:Int)≤57
        ·have hk0:k≠0:=by
          rintro rfl
          exact HD.out ⟨a5,a6⟩
         go_wp2_with fail
         go_round
         case rel=>exact ⟨k+1,by omega,by go_num,zfb (p:=zd1) hlt HA.out (by simp [zd1,zfa,hk0];omega)⟩
         case measure=>simp [intOf];omega
        ·have a7:¬ (s[k].toNat:Int)=95:=by omega
         have e7:((s[k].toNat:Int) == 95)=false:=by simpa using a7
         go_wp2_with fail
         go_ret
         exact ⟨by rw [zf2 hlt (by simp [zd1,zda,zfa];omega)];rfl,rfl⟩
       ·have a7:¬ (s[k].toNat:Int)=95:=by omega
        have e7:((s[k].toNat:Int) == 95)=false:=by simpa using a7
        go_wp2_with fail
        go_ret
        exact ⟨by rw [zf2 hlt (by simp [zd1,zda,zfa];omega)];rfl,rfl⟩
    ·go_wp2_with fail
     go_ret
     have hv:zdj s=true:=by
      unfold zdj
      rw [decide_eq_true_eq]
      exact ⟨hpos,by omega,fun j hj=>HA.out j hj (by omega)⟩
     exact ⟨by rw [hv];rfl,rfl⟩
end Go.Proofs.YtcfmenkigolnoaaGreatDoor

/- A3 -/
namespace Go.Proofs.YtcfmenkigolnoaaGreatDoor
open Go.RowKit
def zvf (b o:Nat) (v:Value) (w:World):Prop:=w.cell? ⟨b,o,none⟩=some v∧w.frozen? ⟨b,o,none⟩=false∧b < w.heap.size
theorem zvf.below {b o:Nat} {v:Value} {w w':World} (h:zvf b o v w) (k:Below w.heap.size w w'):zvf b o v w':=
 ⟨(k.cell (p:=⟨b,o,none⟩) h.2.2).trans h.1,(k.frozen (p:=⟨b,o,none⟩) h.2.2).trans h.2.1,Nat.lt_of_lt_of_le h.2.2 k.size⟩
end Go.Proofs.YtcfmenkigolnoaaGreatDoor

/- A4 -/
namespace Go.Proofs.YtcfmenkigolnoaaGreatDoor
open Go.RowKit
end Go.Proofs.YtcfmenkigolnoaaGreatDoor

/- A5 -/
namespace Go.Proofs.YtcfmenkigolnoaaGreatDoor
open Go.RowKit
end Go.Proofs.YtcfmenkigolnoaaGreatDoor

/- D -/
namespace Go.Proofs.YtcfmenkigolnoaaGreatDoor
def valD:List UInt8→Nat
 | []=>0
 | c::r=>(c.toNat - 48)*10 ^ r.length+valD r
theorem zi6 (l r:List UInt8):valD (l++r)=valD l*10 ^ r.length+valD r:=by
 induction l with
 | nil=>simp [valD]
 | cons c l ih=>
   simp only [List.cons_append,valD,ih,List.length_append,Nat.pow_add,Nat.add_mul]
   rw [← Nat.mul_assoc];omega
theorem zqs {c:UInt8} (h:zbz c=true):48≤c.toNat∧c.toNat≤57:=by
 have:=(zc9 c).1 h;omega
theorem zpl (l:List UInt8) (h:l.all zbz=true):valD l < 10 ^ l.length:=by
 induction l with
 | nil=>simp [valD]
 | cons c l ih=>
   simp only [List.all_cons,Bool.and_eq_true] at h
   have:=zqs h.1
   have ih:=ih h.2
   have:(c.toNat - 48)*10 ^ l.length≤9*10 ^ l.length:=Nat.mul_le_mul_right _ (by omega)
   simp only [valD,List.length_cons,Nat.pow_succ]
   omega
theorem zgr:∀ (a b:List UInt8),a.all zbz=true→b.all zbz=true→a.length=b.length→valD a=valD b→a=b
 | [],[],_,_,_,_=>rfl
 | [],_::_,_,_,h,_=>by simp at h
 | _::_,[],_,_,h,_=>by simp at h
 | c::a,d::b,ha,hb,hl,hv=>by
   simp only [List.all_cons,Bool.and_eq_true] at ha hb
   have hl':a.length=b.length:=by simpa using hl
   have l1:=zpl a ha.2
   have l2:=zpl b hb.2
   have c1:=zqs ha.1
   have c2:=zqs hb.1
   simp only [valD] at hv
   rw [← hl'] at hv l2
   have key:c.toNat - 48=d.toNat - 48∧valD a=valD b:=by
    generalize c.toNat - 48=p at*
    generalize d.toNat - 48=q at*
    generalize 10 ^ a.length=B at*
    rcases Nat.lt_trichotomy p q with h | h | h
    ·have:(p+1)*B≤q*B:=Nat.mul_le_mul_right _ h
     rw [Nat.add_mul,Nat.one_mul] at this
     omega
    ·subst h;exact ⟨rfl,by omega⟩
    ·have:(q+1)*B≤p*B:=Nat.mul_le_mul_right _ h
     rw [Nat.add_mul,Nat.one_mul] at this
     omega
   have:c=d:=UInt8.toNat_inj.1 (by omega)
   rw [this,zgr a b ha.2 hb.2 hl' key.2]
def zvg (N p:Nat):UInt8:=UInt8.ofNat (48+N / 10 ^ p % 10)
def zgs (N lo:Nat):Nat→List UInt8
 | 0=>[]
 | n+1=>zvg N (lo+n)::zgs N lo n
theorem zi7 (N p:Nat):(zvg N p).toNat=48+N / 10 ^ p % 10:=by
 unfold zvg
 have:N / 10 ^ p % 10 < 10:=Nat.mod_lt _ (by omega)
 rw [UInt8.toNat_ofNat']
 omega
theorem zvh (N p:Nat):zbz (zvg N p)=true:=by
 rw [zc9,zi7]
 have:N / 10 ^ p % 10 < 10:=Nat.mod_lt _ (by omega)
 omega
theorem zke (N lo n:Nat):(zgs N lo n).length=n:=by
 induction n with
 | zero=>rfl
 | succ n ih=>simp [zgs,ih]
theorem zr1 (N lo n:Nat):(zgs N lo n).all zbz=true:=by
 induction n with
 | zero=>rfl
 | succ n ih=>simp [zgs,ih,zvh]
theorem zr2 (N lo n:Nat):valD (zgs N lo n)=N / 10 ^ lo % 10 ^ n:=by
 induction n with
 | zero=>simp [zgs,valD,Nat.mod_one]
 | succ n ih=>
   simp only [zgs,valD,ih,zke,zi7]
   rw [Nat.pow_add,← Nat.div_div_eq_div_mul,Nat.add_sub_cancel_left,Nat.pow_succ]
   generalize N / 10 ^ lo=M
   rw [Nat.mod_mul,Nat.mul_comm (M / 10 ^ n % 10)]
   omega
theorem rep_dig (k:Nat):(List.replicate k (48:UInt8)).all zbz=true:=by
 induction k with
 | zero=>rfl
 | succ k ih=>rw [List.replicate_succ,List.all_cons,ih];rfl
theorem zpm (k:Nat):valD (List.replicate k (48:UInt8))=0:=by
 induction k with
 | zero=>rfl
 | succ k ih=>rw [List.replicate_succ];simp [valD,ih]
theorem zn9 (k:Nat) (l:List UInt8):Lib.trimLeftB (List.replicate k 48++l) 48=Lib.trimLeftB l 48:=by
 unfold Lib.trimLeftB
 induction k with
 | zero=>simp
 | succ k ih=>rw [List.replicate_succ,List.cons_append,List.dropWhile_cons,if_pos (by simp)];exact ih
theorem zoa (k:Nat) (l:List UInt8):Lib.trimRightB (l++List.replicate k 48) 48=Lib.trimRightB l 48:=by
 have:=zn9 k l.reverse
 unfold Lib.trimLeftB at this
 unfold Lib.trimRightB
 rw [List.reverse_append,List.reverse_replicate,this]
end Go.Proofs.YtcfmenkigolnoaaGreatDoor

/- D2 -/
namespace Go.Proofs.YtcfmenkigolnoaaGreatDoor
theorem zvi:Lib.cut [] [46]=([],[],false):=by simp [Lib.cut,Lib.index]
theorem cut_hit (r:List UInt8):Lib.cut (46::r) [46]=([],r,true):=by simp [Lib.cut,Lib.index]
theorem zk1 (c:UInt8) (r:List UInt8) (h:c≠46):Lib.cut (c::r) [46]=(c::(Lib.cut r [46]).1,(Lib.cut r [46]).2.1,(Lib.cut r [46]).2.2):=by
 have hp:[46].isPrefixOf (c::r)=false:=by simp [List.isPrefixOf,beq_eq_false_iff_ne.2 (fun e:(46:UInt8)=c=>h e.symm)]
 have hge:=Lib.index_ge r [46]
 unfold Lib.cut
 rw [Lib.index,hp]
 by_cases h0:0≤Lib.index r [46]
 ·have e1:(Lib.index r [46] == -1)=false:=by simp;omega
  simp only [Bool.false_eq_true,if_false,e1]
  rw [if_pos h0,if_pos (by omega)]
  have e2:(Lib.index r [46]+1).toNat=(Lib.index r [46]).toNat+1:=by omega
  rw [e2]
  simp
 ·have e1:Lib.index r [46]=-1:=by omega
  rw [e1]
  simp
theorem zpn (d e:List UInt8) (h:d.all zbz=true):Lib.cut (d++46::e) [46]=(d,e,true):=by
 induction d with
 | nil=>exact cut_hit e
 | cons c d ih=>
   simp only [List.all_cons,Bool.and_eq_true] at h
   rw [List.cons_append,zk1 _ _ (by rintro rfl;exact absurd h.1 (by decide)),ih h.2]
theorem zf7 (l:List UInt8):∃ k,l=List.replicate k 48++Lib.trimLeftB l 48:=by
 unfold Lib.trimLeftB
 induction l with
 | nil=>exact ⟨0,rfl⟩
 | cons c l ih=>
   by_cases h:c=48
   ·obtain ⟨k,hk⟩:=ih
    refine ⟨k+1,?_⟩
    rw [List.dropWhile_cons,if_pos (by simp [h]),List.replicate_succ,List.cons_append,← hk,h]
   ·exact ⟨0,by rw [List.dropWhile_cons,if_neg (by simp [h])];rfl⟩
theorem zi8 (l:List UInt8):∃ k,l=Lib.trimRightB l 48++List.replicate k 48:=by
 obtain ⟨k,hk⟩:=zf7 l.reverse
 refine ⟨k,?_⟩
 unfold Lib.trimLeftB at hk
 unfold Lib.trimRightB
 have:=congrArg List.reverse hk
 rw [List.reverse_reverse,List.reverse_append,List.reverse_replicate] at this
 exact this
theorem zvj {l:List UInt8} (h:l.all zbz=true):(Lib.trimLeftB l 48).all zbz=true:=by
 obtain ⟨k,hk⟩:=zf7 l
 rw [hk,List.all_append,Bool.and_eq_true] at h
 exact h.2
theorem zkf (l:List UInt8):valD (Lib.trimLeftB l 48)=valD l:=by
 obtain ⟨k,hk⟩:=zf7 l
 have:=congrArg valD hk
 rw [zi6,zpm] at this
 omega
theorem zr3 (l:List UInt8) {n:Nat} (h:l.length≤n):valD (Lib.trimRightB l 48)*10 ^ (n - (Lib.trimRightB l 48).length)=valD l*10 ^ (n - l.length):=by
 obtain ⟨k,hk⟩:=zi8 l
 generalize Lib.trimRightB l 48=t at*
 subst hk
 rw [zi6,zpm,List.length_append,List.length_replicate,Nat.add_zero,Nat.mul_assoc,← Nat.pow_add]
 simp only [List.length_append,List.length_replicate] at h
 congr 2
 omega
theorem zvk (l:List UInt8):∀ c r,Lib.trimLeftB l 48=c::r→c≠48:=by
 intro c r h e
 have:=List.head?_dropWhile_not (fun x:UInt8=>x == 48) l
 unfold Lib.trimLeftB at h
 rw [h,e] at this
 simp at this
theorem zvl {l:List UInt8} (hd:l.all zbz=true):Lib.trimLeftB l 48=[]↔valD l=0:=by
 constructor
 ·intro h;rw [← zkf,h];rfl
 ·intro h
  cases e:Lib.trimLeftB l 48 with
  | nil=>rfl
  | cons c r=>
    have hc:=zvk l c r e
    have hdd:=zvj hd
    rw [e,List.all_cons,Bool.and_eq_true] at hdd
    have:=zqs hdd.1
    have h2:=zkf l
    rw [e,h] at h2
    simp only [valD] at h2
    have hne:c.toNat≠48:=fun h=>hc (UInt8.toNat_inj.1 h)
    have:0 < (c.toNat - 48)*10 ^ r.length:=Nat.mul_pos (by omega) (Nat.pow_pos (by omega))
    omega
theorem zvm {l:List UInt8} (hd:l.all zbz=true):Lib.trimRightB l 48=[]↔valD l=0:=by
 constructor
 ·intro h
  have:=zr3 l (Nat.le_refl _)
  rw [h] at this
  simpa [valD] using this.symm
 ·intro h
  obtain ⟨k,hk⟩:=zi8 l
  have:l=List.replicate l.length 48:=zgr _ _ hd (rep_dig _) (by simp) (by rw [h,zpm])
  rw [this]
  have e:=zoa l.length []
  rw [List.nil_append] at e
  rw [e];rfl
end Go.Proofs.YtcfmenkigolnoaaGreatDoor

/- R -/
namespace Go.Proofs.YtcfmenkigolnoaaGreatDoor
open Go.RowKit
end Go.Proofs.YtcfmenkigolnoaaGreatDoor

/- M2 -/
namespace Go.Proofs.YtcfmenkigolnoaaGreatDoor
theorem zqt (j:Nat):BASE ^ j=10 ^ (9*j):=by
 rw [Nat.pow_mul];rfl
theorem zqu (j:Nat):0 < BASE ^ j:=Nat.pow_pos (by decide)
theorem limb_N (f:Nat→Nat) (hf:ze9 f) (j:Nat):∀ n,j < n→n≤16→vN n f / BASE ^ j % BASE=f j:=by
 intro n
 induction n with
 | zero=>intro h;omega
 | succ n ih=>
   intro h hn
   by_cases e:j=n
   ·subst e
    have:=vN_lt f hf j (by omega)
    simp only [vN]
    rw [Nat.add_mul_div_right _ _ (zqu j),Nat.div_eq_of_lt this,Nat.zero_add,Nat.mod_eq_of_lt (hf j (by omega))]
   ·have hlt:j < n:=by omega
    rw [← ih hlt (by omega)]
    simp only [vN]
    obtain ⟨d,rfl⟩:∃ d,n=j+1+d:=⟨n - (j+1),by omega⟩
    have e:f (j+1+d)*BASE ^ (j+1+d)=(f (j+1+d)*BASE ^ d*BASE)*BASE ^ j:=by
     rw [Nat.pow_add,Nat.pow_succ]
     generalize BASE ^ d=x
     generalize BASE ^ j=y
     ac_rfl
    rw [e,Nat.add_mul_div_right _ _ (zqu j),Nat.add_mul_mod_self_right]
theorem zx0 (f:Nat→Nat) (hf:ze9 f) (j:Nat) (hj:j < 16):f j=wval f / BASE ^ j % BASE:=(limb_N f hf j 16 hj (Nat.le_refl _)).symm
theorem vN_updv (f:Nat→Nat) (j v:Nat):∀ n,j < n→vN n (upd f j v)+f j*BASE ^ j=vN n f+v*BASE ^ j:=by
 intro n
 induction n with
 | zero=>intro h;omega
 | succ n ih=>
   intro h
   by_cases e:j=n
   ·subst e
    simp only [vN,zp6,vN_upd _ _ _ _ (Nat.le_refl _)];omega
   ·have:=ih (by omega)
    simp only [vN,zgc f v (show n≠j by omega)];omega
theorem zx1 (f:Nat→Nat) (j v:Nat) (hj:j < 16):wval (upd f j v)+f j*BASE ^ j=wval f+v*BASE ^ j:=vN_updv f j v 16 hj
theorem room (f:Nat→Nat) (hf:ze9 f) (M p:Nat) (hp:p < 144) (h:wval f=M*10 ^ (p+1)):f (p / 9)+9*10 ^ (p % 9) < BASE:=by
 rw [zx0 f hf (p / 9) (by omega),zqt,h]
 have e:10 ^ (p+1)=10 ^ (p % 9+1)*10 ^ (9*(p / 9)):=by rw [← Nat.pow_add];congr 1;omega
 rw [e,← Nat.mul_assoc,Nat.mul_div_cancel _ (Nat.pow_pos (by omega))]
 obtain ⟨r,hr⟩:∃ r,r=p % 9:=⟨_,rfl⟩
 rw [← hr]
 have hr9:r≤8:=by omega
 have eb:BASE=10 ^ (r+1)*10 ^ (8 - r):=by rw [← Nat.pow_add,show r+1+(8 - r)=9 by omega];rfl
 rw [Nat.mul_comm M,eb,Nat.mul_mod_mul_left]
 have h1:M % 10 ^ (8 - r) < 10 ^ (8 - r):=Nat.mod_lt _ (Nat.pow_pos (by omega))
 have h2:10 ^ (r+1)*(M % 10 ^ (8 - r)+1)≤10 ^ (r+1)*10 ^ (8 - r):=Nat.mul_le_mul_left _ h1
 rw [Nat.mul_add,Nat.mul_one,Nat.pow_succ] at h2
 have h3:0 < 10 ^ r:=Nat.pow_pos (by omega)
 rw [Nat.pow_succ]
 omega
end Go.Proofs.YtcfmenkigolnoaaGreatDoor

/- B1 -/
namespace Go.Proofs.YtcfmenkigolnoaaGreatDoor
open Go.RowKit
theorem zpo (A:ByteArray) (k:Nat) (h:k < A.size):A[k]=A.data.toList[k]'(by simpa using h):=by
 simp [ByteArray.getElem_eq_getElem_data]
end Go.Proofs.YtcfmenkigolnoaaGreatDoor

/- B2 -/
namespace Go.Proofs.YtcfmenkigolnoaaGreatDoor
open Go.RowKit
structure IsDigs (d:Array Value) (k N:Nat):Prop where
 size:d.size=144
 at_:∀ j,144 - k≤j→j < 144→d[j]?=some (.int .u8 ((zvg N (143 - j)).toNat:Int))
end Go.Proofs.YtcfmenkigolnoaaGreatDoor

/- A1 -/
namespace Go.Proofs.YtcfmenkigolnoaaGreatDoor
open Go.RowKit
end Go.Proofs.YtcfmenkigolnoaaGreatDoor

/- A2 -/
namespace Go.Proofs.YtcfmenkigolnoaaGreatDoor
open Go.RowKit
end Go.Proofs.YtcfmenkigolnoaaGreatDoor

/- A6 -/
namespace Go.Proofs.YtcfmenkigolnoaaGreatDoor
open Go.RowKit
end Go.Proofs.YtcfmenkigolnoaaGreatDoor

/- D3 -/
namespace Go.Proofs.YtcfmenkigolnoaaGreatDoor
end Go.Proofs.YtcfmenkigolnoaaGreatDoor

/- A8 -/
namespace Go.Proofs.YtcfmenkigolnoaaGreatDoor
open Go.RowKit
theorem zw5.done {f g h:Nat→Nat} {c:Nat} (H:zw5 f g h c 16) (hs:wval f+wval g < BASE ^ 16):wval h=wval f+wval g:=by
 have s:=H.sum
 have hc:c=0:=by
  by_cases e:c=0
  ·exact e
  ·have:1*BASE ^ 16≤c*BASE ^ 16:=Nat.mul_le_mul_right _ (by omega)
   unfold wval at hs;omega
 subst hc
 unfold wval at *;omega
theorem zhw.done {f g h:Nat→Nat} {c:Nat} (H:zhw f g h c 16) (hs:wval g≤wval f) (hf:ze9 f):wval h+wval g=wval f:=by
 have s:=H.sum
 have hl:=vN_lt h H.words 16 (by omega)
 have hc:c=0:=by
  by_cases e:c=0
  ·exact e
  ·have:1*BASE ^ 16≤c*BASE ^ 16:=Nat.mul_le_mul_right _ (by omega)
   unfold wval at hs;omega
 subst hc
 unfold wval;omega
theorem below3 (w:World) (a b c:Obj):Below w.heap.size w (((w.alloc a).alloc b).alloc c):=(((Below.refl _ _).alloc (Nat.le_refl _) _).alloc (by simp) _).alloc (by simp;omega) _
end Go.Proofs.YtcfmenkigolnoaaGreatDoor

/- M3 -/
namespace Go.Proofs.YtcfmenkigolnoaaGreatDoor
structure zqv (N m t R:Nat) (qs:List UInt8):Prop where
 len:qs.length=t
 dig:qs.all zbz=true
 eq:valD qs*m+R=N / 10 ^ (164 - t)
 lt:R < m
theorem zqv.zero {N m:Nat} (hN:N < 10 ^ 164) (hm:0 < m):zqv N m 0 0 []:=
 ⟨rfl,rfl,by rw [Nat.sub_zero,Nat.div_eq_of_lt hN];simp [valD],hm⟩
theorem zqv.done {N m R:Nat} {qs:List UInt8} (H:zqv N m 164 R qs):qs=zgs (N / m) 0 164:=by
 have e:=H.eq
 rw [Nat.sub_self,Nat.pow_zero,Nat.div_one] at e
 have hq:N / m=valD qs:=by
  rw [← e]
  have:=H.lt
  rw [Nat.mul_comm,Nat.mul_add_div (by omega),Nat.div_eq_of_lt this,Nat.add_zero]
 have hl:=zpl qs H.dig
 rw [H.len] at hl
 refine zgr _ _ H.dig (zr1 _ _ _) (by rw [H.len,zke]) ?_
 rw [zr2,Nat.pow_zero,Nat.div_one,hq,Nat.mod_eq_of_lt hl]
theorem zp7.done {f h:Nat→Nat} {d c:Nat} (H:zp7 f d h c 16) (hs:wval f*10+d < BASE ^ 16):wval h=wval f*10+d:=by
 have s:=H.sum
 have hc:c=0:=by
  by_cases e:c=0
  ·exact e
  ·have:1*BASE ^ 16≤c*BASE ^ 16:=Nat.mul_le_mul_right _ (by omega)
   unfold wval at hs;omega
 subst hc
 unfold wval at *;omega
end Go.Proofs.YtcfmenkigolnoaaGreatDoor

/- B3 -/
namespace Go.Proofs.YtcfmenkigolnoaaGreatDoor
open Go.RowKit
theorem Only.grown {b:Nat} {w w':World} (h:Only b w w'):w.grownBy w' (some b):=
 ⟨h.os,h.tape,h.output,h.size,fun k hk e=>h.block k hk (by rintro rfl;exact e rfl)⟩
theorem info5:(Tryz.prog.info? 5).map (fun i=>(i.zero,i.size,i.bytes))=some (some (.int .u8 0),1,1):=by kernel_rfl
def vals (l:List UInt8):List Value:=l.map fun b=>.int .u8 (b.toNat:Int)
end Go.Proofs.YtcfmenkigolnoaaGreatDoor

/- B4 -/
namespace Go.Proofs.YtcfmenkigolnoaaGreatDoor
open Go.RowKit
end Go.Proofs.YtcfmenkigolnoaaGreatDoor

/- B5 -/
namespace Go.Proofs.YtcfmenkigolnoaaGreatDoor
open Go.RowKit
end Go.Proofs.YtcfmenkigolnoaaGreatDoor

/- B6 -/
namespace Go.Proofs.YtcfmenkigolnoaaGreatDoor
open Go.RowKit
end Go.Proofs.YtcfmenkigolnoaaGreatDoor

/- D4 -/
namespace Go.Proofs.YtcfmenkigolnoaaGreatDoor
end Go.Proofs.YtcfmenkigolnoaaGreatDoor

/- M4 -/
namespace Go.Proofs.YtcfmenkigolnoaaGreatDoor
def Mid (f:Nat→Nat):Prop:=∀ j,j < 3∨11≤j→j < 16→f j=0
theorem zy2 (f:Nat→Nat) (h:Mid f):vN 3 f=0:=by
 simp only [vN,h 0 (by omega) (by omega),h 1 (by omega) (by omega),h 2 (by omega) (by omega)]
 simp
theorem zy3 (f:Nat→Nat) (h:Mid f):vN 11 f=wval f:=by
 have:=zw4 f (fun _=>0) 11 16 (by omega) (fun j a b=>h j (by omega) b)
 have e:∀ n,vN n (fun _=>0)=0:=by intro n;induction n with
  | zero=>rfl
  | succ n ih=>simp [vN,ih]
 rw [e,e] at this
 unfold wval;omega
structure zi9 (f g p:Nat→Nat) (i:Nat):Prop where
 val:wval p*BASE ^ 6=vN i f*wval g
 words:ze9 p
 high:∀ j,i+5≤j→j < 16→p j=0
structure zvn (f g p:Nat→Nat) (i j cr:Nat):Prop where
 val:wval p*BASE ^ 6+cr*BASE ^ (i+j)=vN i f*wval g+f i*BASE ^ i*vN j g
 words:ze9 p
 high:∀ k,i+5≤k→k < 16→p k=0
 carry:cr < BASE
theorem zvo:wval (fun _=>0)=0:=by
 have e:∀ n,vN n (fun _=>0)=0:=by intro n;induction n with
  | zero=>rfl
  | succ n ih=>simp [vN,ih]
 exact e 16
theorem zi9.zero {f g:Nat→Nat} (hf:Mid f):zi9 f g (fun _=>0) 3:=
 ⟨by rw [zy2 f hf,zvo,Nat.zero_mul,Nat.zero_mul],fun _ _=>by decide,fun _ _ _=>rfl⟩
theorem zi9.inner {f g p:Nat→Nat} {i:Nat} (H:zi9 f g p i) (hg:Mid g):zvn f g p i 3 0:=
 ⟨by rw [zy2 g hg,H.val,Nat.zero_mul,Nat.mul_zero],H.words,H.high,by decide⟩
theorem zvn.outer {f g p:Nat→Nat} {i cr:Nat} (H:zvn f g p i 11 cr) (hg:Mid g) (hi:i < 11):zi9 f g (upd p (i+5) cr) (i+1):=by
 refine ⟨?_,H.words.upd H.carry,?_⟩
 ·have hu:=zx1 p (i+5) cr (by omega)
  rw [H.high (i+5) (by omega) (by omega),Nat.zero_mul,Nat.add_zero] at hu
  have hv:=H.val
  rw [zy3 g hg] at hv
  have e6:BASE ^ (i+11)=BASE ^ (i+5)*BASE ^ 6:=by rw [← Nat.pow_add]
  rw [hu,Nat.add_mul,Nat.mul_assoc,← e6,hv]
  simp only [vN,Nat.add_mul]
 ·intro k hk hk2
  rw [zgc _ _ (by omega)]
  exact H.high k (by omega) hk2
theorem zi9.done {f g p:Nat→Nat} (H:zi9 f g p 11) (hf:Mid f):wval p*10 ^ 54=wval f*wval g:=by
 have:=H.val
 rw [zy3 f hf,zqt] at this
 exact this
end Go.Proofs.YtcfmenkigolnoaaGreatDoor

/- DDC1 -/
namespace Go.Proofs.YtcfmenkigolnoaaGreatDoor
open Go.RowKit
end Go.Proofs.YtcfmenkigolnoaaGreatDoor

/- DDC0 -/
namespace Go.Proofs.YtcfmenkigolnoaaGreatDoor
open Go.RowKit
def Strs (w:World) (b off n:Nat) (S:Nat→ByteArray):Prop:=∀ i,i < n→w.cell? ⟨b,off+i,none⟩=some (.string (S i))
theorem Strs.below {w w':World} {b off n:Nat} {S:Nat→ByteArray} (h:Strs w b off n S) (k:Below w.heap.size w w'):Strs w' b off n S:=fun i hi=>
 (k.cell (p:=⟨b,off+i,none⟩) (World.block_lt_of_cell? w _ (h i hi))).trans (h i hi)
end Go.Proofs.YtcfmenkigolnoaaGreatDoor
