/- Texts of one kind, one behind the other: each says ahead of itself what it shows. -/
import Derived.Test.YtanbgdhmfjgihaaGreatDoorTaq
import Derived.Test.YtanbgdhmfjgihaaGreatDoorTah
import Derived.Test.YtanbgdhmfjgihaaGreatDoorTab
namespace Go.Proofs.YtanbgdhmfjgihaaGreatDoor
open Go.RowKit
set_option maxHeartbeats 12800000
set_option maxRecDepth 20000
theorem zm3 (v:V6) (u:Val) (q:List Val) (W:World) (h:Is W v u q):
 Calls Tryz.prog 49 #[.agg #[.int .i64 v.k,.bool v.b,.int .i64 v.n,.string v.t,.string v.x,.slice v.p v.len v.cap]] W fun e w'=>e=.returned (.bool (mayP u 0))∧Below W.heap.size W w':=by
 obtain ⟨k,b,n,t,x,p,len,cap⟩:=v
 obtain ⟨e,hq,hf,hl⟩:=h
 simp only at e hq hf hl
 subst hq e
 exact refMay k b n t x q p cap W hf hl
theorem zuz (s q o:V6) (us uq uo:Val) (ls lq lo:List Val) (W:World) (hs:Is W s us ls) (hq:Is W q uq lq) (ho:Is W o uo lo):
 Calls Tryz.prog 14 #[.agg #[.int .i64 s.k,.bool s.b,.int .i64 s.n,.string s.t,.string s.x,.slice s.p s.len s.cap,.int .i64 q.k,.bool q.b,.int .i64 q.n,.string q.t,.string q.x,.slice q.p q.len q.cap,.int .i64 o.k,.bool o.b,.int .i64 o.n,.string o.t,.string o.x,.slice o.p o.len o.cap]] W fun e w'=>e=.returned (.bool (chkP s q o us uq uo))∧Below W.heap.size W w':=by
 obtain ⟨W0,hW0⟩:∃ W0,W0=W.alloc (.cells #[.int .i64 s.k,.bool s.b,.int .i64 s.n,.string s.t,.string s.x,.slice s.p s.len s.cap,.int .i64 q.k,.bool q.b,.int .i64 q.n,.string q.t,.string q.x,.slice q.p q.len q.cap,.int .i64 o.k,.bool o.b,.int .i64 o.n,.string o.t,.string o.x,.slice o.p o.len o.cap] 41):=⟨_,rfl⟩
 have B:za4 W0 W.heap.size s q o:=by rw [hW0];exact zc9 _ rfl
 have b0:Below W.heap.size W W0:=by rw [hW0];exact za0 _ _
 have hc1:=fun w (h:Below W.heap.size W w)=>zm3 s us ls w (hs.below h)
 have hc2:=fun w (h:Below W.heap.size W w)=>zm3 q uq lq w (hq.below h)
 have hc3:=fun w (h:Below W.heap.size W w)=>zm3 o uo lo w (ho.below h)
 have HW:=Lib.hid hW0
 clear hW0 hs hq ho
 rw [show chkP s q o us uq uo=(mayP us 0 && mayP uq 0 && mayP uo 0 && (objP o.k && zbc s.k && zbd q.k)) by
  unfold chkP
  cases zbc s.k <;> cases zbd q.k <;> cases objP o.k <;> cases mayP us 0 <;> cases mayP uq 0 <;> cases mayP uo 0 <;> rfl]
 generalize mayP us 0=r1 at hc1 ⊢
 generalize mayP uq 0=r2 at hc2 ⊢
 generalize mayP uo 0=r3 at hc3 ⊢
 cases r1 with
 | false=>
   clear hc2
   clear hc3
   rw [show (false && r2 && r3 && (objP o.k && zbc s.k && zbd q.k))=false by simp]
   go_enter Tryz.func14,Tryz.ntmps14
   go_wp2_with (first
    |(rw [← HW.out];(with_reducible refine zal (.tmp 3) W.heap.size 0 s B.r0 ?_ ?_ ?_ ?_);rfl;rfl;rfl)
    |(go_at_call 49;(with_reducible refine (hc1 _ b0).mono ?_);rintro e w3 ⟨rfl,hb3⟩;replace b0:=zak b0 hb3 b0.size;replace B:=B.below hb3;clear hb3))
   go_ret
   exact ⟨rfl,b0⟩
 | true=>
   cases r2 with
   | false=>
     clear hc3
     rw [show (true && false && r3 && (objP o.k && zbc s.k && zbd q.k))=false by simp]
     go_enter Tryz.func14,Tryz.ntmps14
     go_wp2_with (first
      |(rw [← HW.out];(with_reducible refine zal (.tmp 3) W.heap.size 0 s B.r0 ?_ ?_ ?_ ?_);rfl;rfl;rfl)
      |((with_reducible refine zaq (.tmp 8) W.heap.size 6 q B.r1 ?_ ?_ ?_ ?_);rfl;rfl;rfl)
      |(go_at_call 49;(with_reducible refine (hc1 _ b0).mono ?_);rintro e w3 ⟨rfl,hb3⟩;replace b0:=zak b0 hb3 b0.size;replace B:=B.below hb3;clear hb3)
      |(go_at_call 49;(with_reducible refine (hc2 _ b0).mono ?_);rintro e w3 ⟨rfl,hb3⟩;replace b0:=zak b0 hb3 b0.size;replace B:=B.below hb3;clear hb3))
     go_ret
     exact ⟨rfl,b0⟩
   | true=>
     cases r3 with
     | false=>
       rw [show (true && true && false && (objP o.k && zbc s.k && zbd q.k))=false by simp]
       go_enter Tryz.func14,Tryz.ntmps14
       go_wp2_with (first
        |(rw [← HW.out];(with_reducible refine zal (.tmp 3) W.heap.size 0 s B.r0 ?_ ?_ ?_ ?_);rfl;rfl;rfl)
        |((with_reducible refine zaq (.tmp 8) W.heap.size 6 q B.r1 ?_ ?_ ?_ ?_);rfl;rfl;rfl)
        |((with_reducible refine zaq (.tmp 14) W.heap.size 12 o B.r2 ?_ ?_ ?_ ?_);rfl;rfl;rfl)
        |(go_at_call 49;(with_reducible refine (hc1 _ b0).mono ?_);rintro e w3 ⟨rfl,hb3⟩;replace b0:=zak b0 hb3 b0.size;replace B:=B.below hb3;clear hb3)
        |(go_at_call 49;(with_reducible refine (hc2 _ b0).mono ?_);rintro e w3 ⟨rfl,hb3⟩;replace b0:=zak b0 hb3 b0.size;replace B:=B.below hb3;clear hb3)
        |(go_at_call 49;(with_reducible refine (hc3 _ b0).mono ?_);rintro e w3 ⟨rfl,hb3⟩;replace b0:=zak b0 hb3 b0.size;replace B:=B.below hb3;clear hb3))
       go_ret
       exact ⟨rfl,b0⟩
     | true=>
       rw [show (true && true && true && (objP o.k && zbc s.k && zbd q.k))=(objP o.k && zbc s.k && zbd q.k) by simp]
       obtain ⟨rr,hrr⟩:∃ rr,rr=(objP o.k && zbc s.k && zbd q.k):=⟨_,rfl⟩
       rw [← hrr]
       have HR:=Lib.hid hrr
       clear hrr
       go_enter Tryz.func14,Tryz.ntmps14
       go_upto_region 3 with (first
        |(rw [← HW.out];(with_reducible refine zal (.tmp 3) W.heap.size 0 s B.r0 ?_ ?_ ?_ ?_);rfl;rfl;rfl)
        |((with_reducible refine zaq (.tmp 8) W.heap.size 6 q B.r1 ?_ ?_ ?_ ?_);rfl;rfl;rfl)
        |((with_reducible refine zaq (.tmp 14) W.heap.size 12 o B.r2 ?_ ?_ ?_ ?_);rfl;rfl;rfl)
        |(go_at_call 49;(with_reducible refine (hc1 _ b0).mono ?_);rintro e w3 ⟨rfl,hb3⟩;replace b0:=zak b0 hb3 b0.size;replace B:=B.below hb3;clear hb3)
        |(go_at_call 49;(with_reducible refine (hc2 _ b0).mono ?_);rintro e w3 ⟨rfl,hb3⟩;replace b0:=zak b0 hb3 b0.size;replace B:=B.below hb3;clear hb3)
        |(go_at_call 49;(with_reducible refine (hc3 _ b0).mono ?_);rintro e w3 ⟨rfl,hb3⟩;replace b0:=zak b0 hb3 b0.size;replace B:=B.below hb3;clear hb3))
       have f0:=B.c0
       have f6:=B.c6
       have f12:=B.c12
       clear hc1 hc2 hc3 HW
       by_cases e8:o.k=8
       ·have g8:(o.k == (8:Int))=true:=by simpa using e8
        have ho:objP o.k=true:=by rw [e8];rfl
        clear e8
        by_cases s8:s.k=8
        ·have h8:(s.k == (8:Int))=true:=by simpa using s8
         have hv:(objP o.k && zbc s.k && zbd q.k)=(q.k == (8:Int)):=by rw [ho,Bool.true_and];unfold zbc zbd;rw [h8];simp
         have HV:=Lib.hid hv
         clear hv ho s8
         go_wp2_with fail
         go_ret
         exact ⟨by rw [HR.out,HV.out];rfl,b0⟩
        ·have h8:(s.k == (8:Int))=false:=by simpa using s8
         by_cases s9:s.k=9
         ·have h9:(s.k == (9:Int))=true:=by simpa using s9
          have hv:(objP o.k && zbc s.k && zbd q.k)=(q.k == (8:Int)):=by rw [ho,Bool.true_and];unfold zbc zbd;rw [h8,h9];simp
          have HV:=Lib.hid hv
          clear hv ho s8 s9
          go_wp2_with fail
          go_ret
          exact ⟨by rw [HR.out,HV.out];rfl,b0⟩
         ·have h9:(s.k == (9:Int))=false:=by simpa using s9
          have hv:(objP o.k && zbc s.k && zbd q.k)=false:=by rw [ho,Bool.true_and];unfold zbc zbd;rw [h8,h9];simp
          have HV:=Lib.hid hv
          clear hv ho s8 s9
          go_wp2_with fail
          go_ret
          exact ⟨by rw [HR.out,HV.out];rfl,b0⟩
       have g8:(o.k == (8:Int))=false:=by simpa using e8
       by_cases e9:o.k=9
       ·have g9:(o.k == (9:Int))=true:=by simpa using e9
        have ho:objP o.k=true:=by rw [e9];rfl
        clear e9
        by_cases s8:s.k=8
        ·have h8:(s.k == (8:Int))=true:=by simpa using s8
         have hv:(objP o.k && zbc s.k && zbd q.k)=(q.k == (8:Int)):=by rw [ho,Bool.true_and];unfold zbc zbd;rw [h8];simp
         have HV:=Lib.hid hv
         clear hv ho s8
         go_wp2_with fail
         go_ret
         exact ⟨by rw [HR.out,HV.out];rfl,b0⟩
        ·have h8:(s.k == (8:Int))=false:=by simpa using s8
         by_cases s9:s.k=9
         ·have h9:(s.k == (9:Int))=true:=by simpa using s9
          have hv:(objP o.k && zbc s.k && zbd q.k)=(q.k == (8:Int)):=by rw [ho,Bool.true_and];unfold zbc zbd;rw [h8,h9];simp
          have HV:=Lib.hid hv
          clear hv ho s8 s9
          go_wp2_with fail
          go_ret
          exact ⟨by rw [HR.out,HV.out];rfl,b0⟩
         ·have h9:(s.k == (9:Int))=false:=by simpa using s9
          have hv:(objP o.k && zbc s.k && zbd q.k)=false:=by rw [ho,Bool.true_and];unfold zbc zbd;rw [h8,h9];simp
          have HV:=Lib.hid hv
          clear hv ho s8 s9
          go_wp2_with fail
          go_ret
          exact ⟨by rw [HR.out,HV.out];rfl,b0⟩
       have g9:(o.k == (9:Int))=false:=by simpa using e9
       by_cases e10:o.k=10
       ·have g10:(o.k == (10:Int))=true:=by simpa using e10
        have ho:objP o.k=true:=by rw [e10];rfl
        clear e10
        by_cases s8:s.k=8
        ·have h8:(s.k == (8:Int))=true:=by simpa using s8
         have hv:(objP o.k && zbc s.k && zbd q.k)=(q.k == (8:Int)):=by rw [ho,Bool.true_and];unfold zbc zbd;rw [h8];simp
         have HV:=Lib.hid hv
         clear hv ho s8
         go_wp2_with fail
         go_ret
         exact ⟨by rw [HR.out,HV.out];rfl,b0⟩
        ·have h8:(s.k == (8:Int))=false:=by simpa using s8
         by_cases s9:s.k=9
         ·have h9:(s.k == (9:Int))=true:=by simpa using s9
          have hv:(objP o.k && zbc s.k && zbd q.k)=(q.k == (8:Int)):=by rw [ho,Bool.true_and];unfold zbc zbd;rw [h8,h9];simp
          have HV:=Lib.hid hv
          clear hv ho s8 s9
          go_wp2_with fail
          go_ret
          exact ⟨by rw [HR.out,HV.out];rfl,b0⟩
         ·have h9:(s.k == (9:Int))=false:=by simpa using s9
          have hv:(objP o.k && zbc s.k && zbd q.k)=false:=by rw [ho,Bool.true_and];unfold zbc zbd;rw [h8,h9];simp
          have HV:=Lib.hid hv
          clear hv ho s8 s9
          go_wp2_with fail
          go_ret
          exact ⟨by rw [HR.out,HV.out];rfl,b0⟩
       have g10:(o.k == (10:Int))=false:=by simpa using e10
       by_cases e4:o.k=4
       ·have g4:(o.k == (4:Int))=true:=by simpa using e4
        have ho:objP o.k=true:=by rw [e4];rfl
        clear e4
        by_cases s8:s.k=8
        ·have h8:(s.k == (8:Int))=true:=by simpa using s8
         have hv:(objP o.k && zbc s.k && zbd q.k)=(q.k == (8:Int)):=by rw [ho,Bool.true_and];unfold zbc zbd;rw [h8];simp
         have HV:=Lib.hid hv
         clear hv ho s8
         go_wp2_with fail
         go_ret
         exact ⟨by rw [HR.out,HV.out];rfl,b0⟩
        ·have h8:(s.k == (8:Int))=false:=by simpa using s8
         by_cases s9:s.k=9
         ·have h9:(s.k == (9:Int))=true:=by simpa using s9
          have hv:(objP o.k && zbc s.k && zbd q.k)=(q.k == (8:Int)):=by rw [ho,Bool.true_and];unfold zbc zbd;rw [h8,h9];simp
          have HV:=Lib.hid hv
          clear hv ho s8 s9
          go_wp2_with fail
          go_ret
          exact ⟨by rw [HR.out,HV.out];rfl,b0⟩
         ·have h9:(s.k == (9:Int))=false:=by simpa using s9
          have hv:(objP o.k && zbc s.k && zbd q.k)=false:=by rw [ho,Bool.true_and];unfold zbc zbd;rw [h8,h9];simp
          have HV:=Lib.hid hv
          clear hv ho s8 s9
          go_wp2_with fail
          go_ret
          exact ⟨by rw [HR.out,HV.out];rfl,b0⟩
       have g4:(o.k == (4:Int))=false:=by simpa using e4
       by_cases e1:o.k=1
       ·have g1:(o.k == (1:Int))=true:=by simpa using e1
        have ho:objP o.k=true:=by rw [e1];rfl
        clear e1
        by_cases s8:s.k=8
        ·have h8:(s.k == (8:Int))=true:=by simpa using s8
         have hv:(objP o.k && zbc s.k && zbd q.k)=(q.k == (8:Int)):=by rw [ho,Bool.true_and];unfold zbc zbd;rw [h8];simp
         have HV:=Lib.hid hv
         clear hv ho s8
         go_wp2_with fail
         go_ret
         exact ⟨by rw [HR.out,HV.out];rfl,b0⟩
        ·have h8:(s.k == (8:Int))=false:=by simpa using s8
         by_cases s9:s.k=9
         ·have h9:(s.k == (9:Int))=true:=by simpa using s9
          have hv:(objP o.k && zbc s.k && zbd q.k)=(q.k == (8:Int)):=by rw [ho,Bool.true_and];unfold zbc zbd;rw [h8,h9];simp
          have HV:=Lib.hid hv
          clear hv ho s8 s9
          go_wp2_with fail
          go_ret
          exact ⟨by rw [HR.out,HV.out];rfl,b0⟩
         ·have h9:(s.k == (9:Int))=false:=by simpa using s9
          have hv:(objP o.k && zbc s.k && zbd q.k)=false:=by rw [ho,Bool.true_and];unfold zbc zbd;rw [h8,h9];simp
          have HV:=Lib.hid hv
          clear hv ho s8 s9
          go_wp2_with fail
          go_ret
          exact ⟨by rw [HR.out,HV.out];rfl,b0⟩
       have g1:(o.k == (1:Int))=false:=by simpa using e1
       by_cases e2:o.k=2
       ·have g2:(o.k == (2:Int))=true:=by simpa using e2
        have ho:objP o.k=true:=by rw [e2];rfl
        clear e2
        by_cases s8:s.k=8
        ·have h8:(s.k == (8:Int))=true:=by simpa using s8
         have hv:(objP o.k && zbc s.k && zbd q.k)=(q.k == (8:Int)):=by rw [ho,Bool.true_and];unfold zbc zbd;rw [h8];simp
         have HV:=Lib.hid hv
         clear hv ho s8
         go_wp2_with fail
         go_ret
         exact ⟨by rw [HR.out,HV.out];rfl,b0⟩
        ·have h8:(s.k == (8:Int))=false:=by simpa using s8
         by_cases s9:s.k=9
         ·have h9:(s.k == (9:Int))=true:=by simpa using s9
          have hv:(objP o.k && zbc s.k && zbd q.k)=(q.k == (8:Int)):=by rw [ho,Bool.true_and];unfold zbc zbd;rw [h8,h9];simp
          have HV:=Lib.hid hv
          clear hv ho s8 s9
          go_wp2_with fail
          go_ret
          exact ⟨by rw [HR.out,HV.out];rfl,b0⟩
         ·have h9:(s.k == (9:Int))=false:=by simpa using s9
          have hv:(objP o.k && zbc s.k && zbd q.k)=false:=by rw [ho,Bool.true_and];unfold zbc zbd;rw [h8,h9];simp
          have HV:=Lib.hid hv
          clear hv ho s8 s9
          go_wp2_with fail
          go_ret
          exact ⟨by rw [HR.out,HV.out];rfl,b0⟩
       have g2:(o.k == (2:Int))=false:=by simpa using e2
       by_cases e3:o.k=3
       ·have g3:(o.k == (3:Int))=true:=by simpa using e3
        have ho:objP o.k=true:=by rw [e3];rfl
        clear e3
        by_cases s8:s.k=8
        ·have h8:(s.k == (8:Int))=true:=by simpa using s8
         have hv:(objP o.k && zbc s.k && zbd q.k)=(q.k == (8:Int)):=by rw [ho,Bool.true_and];unfold zbc zbd;rw [h8];simp
         have HV:=Lib.hid hv
         clear hv ho s8
         go_wp2_with fail
         go_ret
         exact ⟨by rw [HR.out,HV.out];rfl,b0⟩
        ·have h8:(s.k == (8:Int))=false:=by simpa using s8
         by_cases s9:s.k=9
         ·have h9:(s.k == (9:Int))=true:=by simpa using s9
          have hv:(objP o.k && zbc s.k && zbd q.k)=(q.k == (8:Int)):=by rw [ho,Bool.true_and];unfold zbc zbd;rw [h8,h9];simp
          have HV:=Lib.hid hv
          clear hv ho s8 s9
          go_wp2_with fail
          go_ret
          exact ⟨by rw [HR.out,HV.out];rfl,b0⟩
         ·have h9:(s.k == (9:Int))=false:=by simpa using s9
          have hv:(objP o.k && zbc s.k && zbd q.k)=false:=by rw [ho,Bool.true_and];unfold zbc zbd;rw [h8,h9];simp
          have HV:=Lib.hid hv
          clear hv ho s8 s9
          go_wp2_with fail
          go_ret
          exact ⟨by rw [HR.out,HV.out];rfl,b0⟩
       have g3:(o.k == (3:Int))=false:=by simpa using e3
       have ho:objP o.k=false:=by unfold objP;rw [g8,g9,g10,g4,g1,g2,g3];rfl
       have hv:(objP o.k && zbc s.k && zbd q.k)=false:=by rw [ho,Bool.false_and,Bool.false_and]
       have HV:=Lib.hid hv
       clear hv ho e8 e9 e10 e4 e1 e2 e3
       go_wp2_with fail
       go_ret
       exact ⟨by rw [HR.out,HV.out];rfl,b0⟩
def zsx (v:Val):Prop:=∀ (W:World) (k:Int) (b:Bool) (n:Int) (t x:ByteArray) (q:List Val) (p:Option Addr) (cap:Nat) (v2:Val) (k2:Int) (b2:Bool) (n2:Int) (t2 x2:ByteArray) (q2:List Val) (p2:Option Addr) (cap2:Nat),
 v=.mk k b n t x q→v2=.mk k2 b2 n2 t2 x2 q2→q.length≤2097152→Held W (.slice p q.length cap) q→Held W (.slice p2 q2.length cap2) q2→
 Calls Tryz.prog 32 #[.agg #[.int .i64 k,.bool b,.int .i64 n,.string t,.string x,.slice p q.length cap],.agg #[.int .i64 k2,.bool b2,.int .i64 n2,.string t2,.string x2,.slice p2 q2.length cap2]] W
  fun e w'=>e=.returned (.bool (zb8 v v2))∧Below W.heap.size W w'
theorem zwy (p p2:Option Addr) (n n2 cap cap2:Nat) (w:World) (h:¬ n=n2):
 Calls Tryz.prog 66 #[.slice p n cap,.slice p2 n2 cap2] w fun e w'=>e=.returned (.bool false)∧Below w.heap.size w w':=by
 have h1:((n:Int) != n2)=true:=by simp;omega
 clear h
 go_enter Tryz.func66,Tryz.ntmps66
 go_wp2_with fail
 go_ret
 exact ⟨rfl,Below.refl _ _⟩
theorem zu0 (p p2:Option Addr) (cap cap2:Nat) (w:World):
 Calls Tryz.prog 66 #[.slice p 0 cap,.slice p2 0 cap2] w fun e w'=>e=.returned (.bool true)∧Below w.heap.size w w':=by
 go_enter Tryz.func66,Tryz.ntmps66
 go_wp2_with fail
 go_loopw [5] (fun i wr=>i=.int .i64 0∧wr=w) (fun _ _=>0)
 case atStart=>exact ⟨rfl,rfl⟩
 case round=>
  obtain ⟨rfl,rfl⟩:=hrel
  go_wp2_with fail
  go_ret
  exact ⟨rfl,Below.refl _ _⟩
theorem zu1 (l l2:List Val) (g off cap g2 off2 cap2:Nat) (w:World) (hl:zar w g off l) (hl2:zar w g2 off2 l2) (hlen:l2.length=l.length) (hn:l.length≤2097152) (each:∀ v∈l,zsx v):
 Calls Tryz.prog 66 #[.slice (some ⟨g,off,none⟩) l.length cap,.slice (some ⟨g2,off2,none⟩) l.length cap2] w fun e w'=>e=.returned (.bool (za8 l l2))∧Below w.heap.size w w':=by
 have HH:=Lib.hid hl
 have HH2:=Lib.hid hl2
 have HE:=Lib.hid each
 have HL:=Lib.hid hlen
 clear hl hl2 each hlen
 go_enter Tryz.func66,Tryz.ntmps66
 go_wp2_with fail
 go_loopw [5] (fun i wr=>∃ j:Nat,j≤l.length∧i=.int .i64 j∧Below w.heap.size w wr∧∀ (i:Nat) (h:i < l.length) (h2:i < l2.length),i < j→zb8 l[i] l2[i]=true) (fun i _=>l.length - (intOf i).toNat)
 case atStart=>exact ⟨0,Nat.zero_le _,rfl,Below.refl _ _,fun _ _ _ h=>absurd h (by omega)⟩
 case round=>
  obtain ⟨j,hj,rfl,hb,hall⟩:=hrel
  have HA:=Lib.hid hall
  clear hall
  by_cases hlt:j < l.length
  ·have hlt2:j < l2.length:=by have:=HL.out;omega
   obtain ⟨k,b,n,t,x,q,p,cp,o1⟩:=(zar.at_ l off HH.out j hlt).opens
   obtain ⟨k2,b2,n2,t2,x2,q2,p2,cp2,o2⟩:=(zar.at_ l2 off2 HH2.out j hlt2).opens
   have hc:=fun W (hb:Below w.heap.size w W)=>HE.out l[j] (List.getElem_mem hlt) W k b n t x q p cp l2[j] k2 b2 n2 t2 x2 q2 p2 cp2 o1.e o2.e o1.hf.hn (Held.below q o1.hl hb) (Held.below q2 o2.hl hb)
   obtain ⟨r,hr⟩:∃ r,r=zb8 l[j] l2[j]:=⟨_,rfl⟩
   rw [← hr] at hc
   have R1:∀ w',Below w.heap.size w w'→w'.rangeAt g (off+j*6) [.int .i64 k,.bool b,.int .i64 n,.string t,.string x,.slice p q.length cp]:=fun w' h=>(o1.below h).range
   have R2:∀ w',Below w.heap.size w w'→w'.rangeAt g2 (off2+j*6) [.int .i64 k2,.bool b2,.int .i64 n2,.string t2,.string x2,.slice p2 q2.length cp2]:=fun w' h=>(o2.below h).range
   have HC:=Lib.hid hc
   have HR:=Lib.hid hr
   have HR1:=Lib.hid R1
   have HR2:=Lib.hid R2
   clear o1 o2 hr hc R1 R2
   have hlti:(j:Int) < l.length:=by omega
   go_wp2_with fail
   refine wp_region_held_drew (S:=fun w'=>Below w.heap.size w w') (by kernel_rfl) hb.drew (fun hHeld=>?_)
   refine tg (i:=0) (.slice (some ⟨g,off,none⟩) l.length cap) rfl hHeld ?_
   refine tg (i:=1) (.int .i64 j) rfl hHeld ?_
   refine tg (i:=2) (.pointer (some ⟨g,off+j*6,none⟩)) rfl hHeld ?_
   refine tk (i:=3) rfl (yieldsIf_load_mid (by rfl) 39 (.tmp 19) rfl g (off+j*6) rfl _ _ (fun w h=>HR1.out w h) Tryz.underlying39 rfl zas) hHeld ?_
   refine tg (i:=4) (.slice (some ⟨g2,off2,none⟩) l.length cap2) rfl hHeld ?_
   refine tg (i:=5) (.int .i64 j) rfl hHeld ?_
   refine tg (i:=6) (.pointer (some ⟨g2,off2+j*6,none⟩)) rfl hHeld ?_
   refine tk (i:=7) rfl (yieldsIf_load_mid (by rfl) 39 (.tmp 23) rfl g2 (off2+j*6) rfl _ _ (fun w h=>HR2.out w h) Tryz.underlying39 rfl zas) hHeld ?_
   refine tr 8 rfl (fun K hK=>?_)
   rw [if_pos (by rfl)]
   go_simp
   refine (HC.out _ hHeld).mono ?_
   rintro e w3 ⟨rfl,hb3⟩
   refine hK.out _ _ (zak hHeld hb3 hHeld.size) (fun hHeld2=>?_)
   clear hK K hb3 hHeld
   try simp only [putS]
   refine tg (i:=9) (.bool (!r)) rfl hHeld2 ?_
   refine wpAnyH_done (by kernel_rfl) ?_ _
   cases r with
   | true=>
     go_wp2_with fail
     go_roundw
     case rel=>
      refine ⟨j+1,by omega,by go_num,hHeld2,fun i hi hi2 hlt'=>?_⟩
      by_cases e:i=j
      ·subst e;exact HR.out.symm
      ·exact HA.out i hi hi2 (by omega)
     case measure=>simp [intOf];omega
   | false=>
     go_wp2_with fail
     go_ret
     exact ⟨by rw [zff l l2 j hlt hlt2 HR.out.symm];rfl,hHeld2⟩
  ·go_wp2_with fail
   go_ret
   exact ⟨by rw [zen l l2 fun i h h2=>HA.out i h h2 (by omega)];rfl,hb⟩
theorem eqRowAt (l l2:List Val) (p p2:Option Addr) (cap cap2:Nat) (w:World) (hl:Held w (.slice p l.length cap) l) (hl2:Held w (.slice p2 l2.length cap2) l2) (hn:l.length≤2097152) (each:∀ v∈l,zsx v):
 Calls Tryz.prog 66 #[.slice p l.length cap,.slice p2 l2.length cap2] w fun e w'=>e=.returned (.bool ((l.length == l2.length) && za8 l l2))∧Below w.heap.size w w':=by
 by_cases h:l.length=l2.length
 ·rw [show (l.length == l2.length)=true by simpa using h,Bool.true_and,← h]
  cases l with
  | nil=>
    unfold za8
    exact zu0 _ _ _ _ _
  | cons v r=>
    cases l2 with
    | nil=>simp at h
    | cons v2 r2=>
      obtain ⟨g,off,rfl,hh⟩:=hl.form
      obtain ⟨g2,off2,rfl,hh2⟩:=hl2.form
      exact zu1 (v::r) (v2::r2) g off cap g2 off2 cap2 w hh hh2 h.symm hn each
 ·rw [show (l.length == l2.length)=false by simpa using h,Bool.false_and]
  exact zwy p p2 _ _ cap cap2 w h
theorem zsy (v:Val) (k:Int) (b:Bool) (n:Int) (t x:ByteArray) (q:List Val) (ev:v=.mk k b n t x q) (each:∀ u∈q,zsx u):zsx v:=by
 subst ev
 intro W k1 b1 n1 t1 x1 q1 p cap v2 k2 b2 n2 t2 x2 q2 p2 cap2 e1 e2 hn hl hl2
 cases e1
 subst e2
 unfold zb8
 obtain ⟨c1,hc1⟩:∃ c1,c1=Obj.cells #[.int .i64 k,.bool b,.int .i64 n,.string t,.string x,.slice p q.length cap] 39:=⟨_,rfl⟩
 obtain ⟨c2,hc2⟩:∃ c2,c2=Obj.cells #[.int .i64 k2,.bool b2,.int .i64 n2,.string t2,.string x2,.slice p2 q2.length cap2] 39:=⟨_,rfl⟩
 have b0:=zfl W c1 c2
 have hc:=eqRowAt q q2 p p2 cap cap2 ((W.alloc c1).alloc c2) (Held.below q hl b0) (Held.below q2 hl2 b0) hn each
 have l0:Six ((W.alloc c1).alloc c2) W.heap.size k b n t x p q.length cap:=by rw [hc1];exact (zaf _ rfl).alloc _
 have l1:Six ((W.alloc c1).alloc c2) (W.heap.size+1) k2 b2 n2 t2 x2 p2 q2.length cap2:=by rw [hc2];exact zaf _ (by simp)
 have z0:=b0.size
 have f0:=l0.c0
 have f1:=l0.c1
 have f2:=l0.c2
 have f3:=l0.c3
 have f4:=l0.c4
 have f5:=l0.c5
 have g0:=l1.c0
 have g1:=l1.c1
 have g2:=l1.c2
 have g3:=l1.c3
 have g4:=l1.c4
 have g5:=l1.c5
 clear l0 l1 hl hl2 each hn
 subst hc1 hc2
 cases a0:(k == k2) with
 | false=>
   rw [Bool.false_and]
   go_enter Tryz.func32,Tryz.ntmps32
   go_wp2_with fail
   go_ret
   exact ⟨rfl,b0⟩
 | true=>
   rw [Bool.true_and]
   cases a1:(b == b2) with
   | false=>
     rw [Bool.false_and]
     go_enter Tryz.func32,Tryz.ntmps32
     go_wp2_with fail
     go_ret
     exact ⟨rfl,b0⟩
   | true=>
     rw [Bool.true_and]
     cases a2:(n == n2) with
     | false=>
       rw [Bool.false_and]
       go_enter Tryz.func32,Tryz.ntmps32
       go_wp2_with fail
       go_ret
       exact ⟨rfl,b0⟩
     | true=>
       rw [Bool.true_and]
       cases a3:(t.toList == t2.toList) with
       | false=>
         rw [Bool.false_and]
         go_enter Tryz.func32,Tryz.ntmps32
         go_wp2_with fail
         go_ret
         exact ⟨rfl,b0⟩
       | true=>
         rw [Bool.true_and]
         cases a4:(x.toList == x2.toList) with
         | false=>
           rw [Bool.false_and]
           go_enter Tryz.func32,Tryz.ntmps32
           go_wp2_with fail
           go_ret
           exact ⟨rfl,b0⟩
         | true=>
           rw [Bool.true_and]
           generalize (q.length == q2.length && za8 q q2)=r at hc ⊢
           go_enter Tryz.func32,Tryz.ntmps32
           go_wp2_with (go_at_call 66;(with_reducible refine hc.mono ?_);rintro e w3 ⟨rfl,hb3⟩;replace b0:=zak b0 hb3 z0)
           go_ret
           exact ⟨rfl,b0⟩
mutual
theorem zrd:(v:Val)→zsx v
 | .mk k b n t x q=>zsy _ k b n t x q rfl (zow q)
theorem zow:(q:List Val)→∀ u∈q,zsx u
 | [],_,h=>absurd h (by simp)
 | v::r,u,h=>by
   rcases List.mem_cons.1 h with h | h
   ·rw [h];exact zrd v
   ·exact zow r u h
end
theorem zox (v v2:V6) (u u2:Val) (q q2:List Val) (W:World) (h:Is W v u q) (h2:Is W v2 u2 q2):
 Calls Tryz.prog 32 #[.agg #[.int .i64 v.k,.bool v.b,.int .i64 v.n,.string v.t,.string v.x,.slice v.p v.len v.cap],.agg #[.int .i64 v2.k,.bool v2.b,.int .i64 v2.n,.string v2.t,.string v2.x,.slice v2.p v2.len v2.cap]] W fun e w'=>e=.returned (.bool (zb8 u u2))∧Below W.heap.size W w':=by
 obtain ⟨k,b,n,t,x,p,len,cap⟩:=v
 obtain ⟨k2,b2,n2,t2,x2,p2,len2,cap2⟩:=v2
 obtain ⟨e,hq,hf,hl⟩:=h
 obtain ⟨e2,hq2,hf2,hl2⟩:=h2
 simp only at e hq hf hl e2 hq2 hf2 hl2
 subst hq hq2
 exact zrd u W k b n t x q p cap u2 k2 b2 n2 t2 x2 q2 p2 cap2 e e2 hf.hn hl hl2
structure Tri3 where
 s:Val
 p:Val
 o:Val
def Tri3.l (t:Tri3):List Val:=[t.s,t.p,t.o]
def flat (l:List Tri3):List Val:=l.flatMap Tri3.l
theorem zie:flat []=[]:=rfl
theorem zc1 (t:Tri3) (l:List Tri3):flat (t::l)=t.s::t.p::t.o::flat l:=rfl
theorem zif:(l:List Tri3)→(flat l).length=3*l.length
 | []=>rfl
 | t::l=>by rw [zc1];simp only [List.length_cons];rw [zif l];omega
theorem zkx:(l:List Tri3)→(j:Nat)→(h:j < l.length)→(flat l)[3*j]?=some l[j].s∧(flat l)[3*j+1]?=some l[j].p∧(flat l)[3*j+2]?=some l[j].o
 | [],_,h=>absurd h (by simp)
 | t::l,0,_=>⟨rfl,rfl,rfl⟩
 | t::l,j+1,h=>by
   have r:=zkx l j (by simpa using h)
   rw [zc1,show 3*(j+1)=3*j+3 by omega]
   simp only [List.getElem_cons_succ]
   exact r
def Tris (W:World) (L:Value) (l:List Tri3):Prop:=
 ∃ p cap,L=.slice p l.length cap∧(l≠[]→∃ g off,p=some ⟨g,off,none⟩∧zar W g off (flat l))
theorem Tris.below {W W':World} {L:Value} {l:List Tri3} (h:Tris W L l) (b:Below W.heap.size W W'):Tris W' L l:=by
 obtain ⟨p,cap,e,k⟩:=h
 refine ⟨p,cap,e,fun hn=>?_⟩
 obtain ⟨g,off,e2,k2⟩:=k hn
 exact ⟨g,off,e2,zar.below _ k2 b⟩
theorem isOf {W:World} {g off:Nat} {u:Val} (h:zay W g off u):∃ v:V6,∃ q,Is W v u q∧W.rangeAt g off [.int .i64 v.k,.bool v.b,.int .i64 v.n,.string v.t,.string v.x,.slice v.p v.len v.cap]:=by
 obtain ⟨k,b,n,t,x,q,p,cp,o1⟩:=h.opens
 exact ⟨⟨k,b,n,t,x,p,q.length,cp⟩,q,⟨o1.e,rfl,o1.hf,o1.hl⟩,zcy o1.c0 o1.c1 o1.c2 o1.c3 o1.c4 o1.c5⟩
theorem zhb {W:World} {g off:Nat} {l:List Tri3} (h:zar W g off (flat l)) (j:Nat) (hj:j < l.length):
 ∃ s p o:V6,∃ ls lp lo,Is W s l[j].s ls∧Is W p l[j].p lp∧Is W o l[j].o lo∧
  W.rangeAt g (off+j*18) [.int .i64 s.k,.bool s.b,.int .i64 s.n,.string s.t,.string s.x,.slice s.p s.len s.cap,.int .i64 p.k,.bool p.b,.int .i64 p.n,.string p.t,.string p.x,.slice p.p p.len p.cap,.int .i64 o.k,.bool o.b,.int .i64 o.n,.string o.t,.string o.x,.slice o.p o.len o.cap]:=by
 have hl:=zif l
 obtain ⟨e0,e1,e2⟩:=zkx l j hj
 have h0:=zar.at_ (flat l) off h (3*j) (by omega)
 have h1:=zar.at_ (flat l) off h (3*j+1) (by omega)
 have h2:=zar.at_ (flat l) off h (3*j+2) (by omega)
 rw [List.getElem?_eq_getElem (by omega)] at e0 e1 e2
 rw [Option.some.inj e0,show off+3*j*6=off+j*18 by omega] at h0
 rw [Option.some.inj e1,show off+(3*j+1)*6=off+j*18+6 by omega] at h1
 rw [Option.some.inj e2,show off+(3*j+2)*6=off+j*18+12 by omega] at h2
 obtain ⟨s,ls,hs,rs⟩:=isOf h0
 obtain ⟨p,lp,hp,rp⟩:=isOf h1
 obtain ⟨o,lo,ho,ro⟩:=isOf h2
 refine ⟨s,p,o,ls,lp,lo,hs,hp,ho,?_⟩
 intro i v hv
 match i,hv with
 | 0,e=>exact rs 0 v e
 | 1,e=>exact rs 1 v e
 | 2,e=>exact rs 2 v e
 | 3,e=>exact rs 3 v e
 | 4,e=>exact rs 4 v e
 | 5,e=>exact rs 5 v e
 | 6,e=>have:=rp 0 v e;simpa [Nat.add_assoc] using this
 | 7,e=>have:=rp 1 v e;simpa [Nat.add_assoc] using this
 | 8,e=>have:=rp 2 v e;simpa [Nat.add_assoc] using this
 | 9,e=>have:=rp 3 v e;simpa [Nat.add_assoc] using this
 | 10,e=>have:=rp 4 v e;simpa [Nat.add_assoc] using this
 | 11,e=>have:=rp 5 v e;simpa [Nat.add_assoc] using this
 | 12,e=>have:=ro 0 v e;simpa [Nat.add_assoc] using this
 | 13,e=>have:=ro 1 v e;simpa [Nat.add_assoc] using this
 | 14,e=>have:=ro 2 v e;simpa [Nat.add_assoc] using this
 | 15,e=>have:=ro 3 v e;simpa [Nat.add_assoc] using this
 | 16,e=>have:=ro 4 v e;simpa [Nat.add_assoc] using this
 | 17,e=>have:=ro 5 v e;simpa [Nat.add_assoc] using this
 | i+18,e=>simp at e
theorem zae {W W':World} {g off:Nat} {cs:List Value} (h:W.rangeAt g off cs) (b:Below W.heap.size W W'):W'.rangeAt g off cs:=
 fun i v hv=>(b.cell (p:=⟨g,off+i,none⟩) (World.block_lt_of_cell? W _ (h i v hv))).trans (h i v hv)
structure R3 where
 a:Nat
 b:Nat
 c:Nat
deriving DecidableEq,Inhabited
def R3.at (r:R3):Nat→Nat
 | 0=>r.a
 | 1=>r.b
 | _=>r.c
structure SM where
 vs:List Val
 rs:List R3
 ls:Nat→List Nat
structure SMok (s:SM):Prop where
 r:∀ x∈s.rs,x.a < s.vs.length∧x.b < s.vs.length∧x.c < s.vs.length
 l:∀ k,∀ x∈s.ls k,x < s.rs.length
 nv:s.vs.length < 1073741824
 nr:s.rs.length < 1073741824
 nl:∀ k,(s.ls k).length < 1073741824
theorem SMok.at {s:SM} (h:SMok s) (x:R3) (hx:x∈s.rs) (v:Nat):x.at v < s.vs.length:=by
 have:=h.r x hx
 match v with
 | 0=>exact this.1
 | 1=>exact this.2.1
 | v+2=>exact this.2.2
def zfb (W:World) (p:Option Addr) (l:List Nat):Prop:=l≠[]→∃ g o,p=some ⟨g,o,none⟩∧∀ (j:Nat) (h:j < l.length),W.cell? ⟨g,o+j,none⟩=some (.int .i64 (l[j]:Nat))
def zmc (W:World) (p:Option Addr) (l:List R3):Prop:=l≠[]→∃ g o,p=some ⟨g,o,none⟩∧∀ (j:Nat) (h:j < l.length),W.rangeAt g (o+j*3) [.int .i64 (l[j].a:Nat),.int .i64 (l[j].b:Nat),.int .i64 (l[j].c:Nat)]
def zmd (W:World) (p:Option Addr) (l:List Val):Prop:=l≠[]→∃ g o,p=some ⟨g,o,none⟩∧zar W g o l
section
variable {W W':World} {p:Option Addr}
theorem zfb.below {l:List Nat} (h:zfb W p l) (b:Below W.heap.size W W'):zfb W' p l:=fun hn=>by
 obtain ⟨g,o,e,k⟩:=h hn
 exact ⟨g,o,e,fun j hj=>(b.cell (p:=⟨g,o+j,none⟩) (World.block_lt_of_cell? W _ (k j hj))).trans (k j hj)⟩
theorem zmc.below {l:List R3} (h:zmc W p l) (b:Below W.heap.size W W'):zmc W' p l:=fun hn=>by
 obtain ⟨g,o,e,k⟩:=h hn
 exact ⟨g,o,e,fun j hj=>zae (k j hj) b⟩
theorem zmd.below {l:List Val} (h:zmd W p l) (b:Below W.heap.size W W'):zmd W' p l:=fun hn=>by
 obtain ⟨g,o,e,k⟩:=h hn
 exact ⟨g,o,e,zar.below _ k b⟩
end
structure zd1 (W:World) (sp:Nat) (s:SM) (pv pr:Option Addr) (cv cr:Nat) (pp:Nat→Option Addr) (cc:Nat→Nat):Prop where
 h:W.heap[sp]?=some (.cells #[.slice pv s.vs.length cv,.slice pr s.rs.length cr,.slice (pp 0) (s.ls 0).length (cc 0),.slice (pp 1) (s.ls 1).length (cc 1),.slice (pp 2) (s.ls 2).length (cc 2),.slice (pp 3) (s.ls 3).length (cc 3),.slice (pp 4) (s.ls 4).length (cc 4),.slice (pp 5) (s.ls 5).length (cc 5)] 76)
 v:zmd W pv s.vs
 r:zmc W pr s.rs
 l:∀ k,k < 6→zfb W (pp k) (s.ls k)
def zeu (W:World) (sp:Nat) (s:SM):Prop:=∃ pv pr cv cr pp cc,zd1 W sp s pv pr cv cr pp cc
theorem zeu.below {W W':World} {sp:Nat} {s:SM} (h:zeu W sp s) (b:Below W.heap.size W W'):zeu W' sp s:=by
 obtain ⟨pv,pr,cv,cr,pp,cc,k⟩:=h
 exact ⟨pv,pr,cv,cr,pp,cc,(b.block _ (zac k.h)).trans k.h,k.v.below b,k.r.below b,fun i hi=>(k.l i hi).below b⟩
structure At (W0:World) (s:SM) (W:World) (g:Nat) (c:CS) (k:Nat):Prop where
 S:zeu W0 c.sp s
 n:c.n=(s.ls k).length
 l:zfb W0 c.pl (s.ls k)
 h0:c.l0 < 3
 h1:c.l1 < 3
 h2:c.l2 < 3
 hg:W0.heap.size≤g
 b:Below W0.heap.size W0 W
 B:Cur W g c
theorem At.low {W0 W W':World} {s:SM} {g k:Nat} {c:CS} (h:At W0 s W g c k) (b:Low W.heap.size W W'):At W0 s W' g c k:=
 ⟨h.S,h.n,h.l,h.h0,h.h1,h.h2,h.hg,zak h.b b.is h.b.size,h.B.low b⟩
theorem At.bel {W0 W W':World} {s:SM} {g k:Nat} {c:CS} (h:At W0 s W g c k) (b:Below W.heap.size W W'):At W0 s W' g c k:=
 ⟨h.S,h.n,h.l,h.h0,h.h1,h.h2,h.hg,zak h.b b h.b.size,h.B.below b⟩
def SM.num (s:SM) (k v j:Nat):Nat:=((s.rs[((s.ls k)[j]?).getD 0]?).getD default).at v
theorem SM.num_eq (s:SM) (k v j:Nat) (hj:j < (s.ls k).length) (hr:(s.ls k)[j] < s.rs.length):s.num k v j=(s.rs[(s.ls k)[j]]).at v:=by
 unfold SM.num
 rw [List.getElem?_eq_getElem hj,Option.getD_some,List.getElem?_eq_getElem hr,Option.getD_some]
theorem SM.num_lt (s:SM) (ok:SMok s) (k v j:Nat) (hj:j < (s.ls k).length):s.num k v j < s.vs.length:=by
 have hr:=ok.l k _ (List.getElem_mem hj)
 rw [s.num_eq k v j hj hr]
 exact ok.at _ (List.getElem_mem hr) v
theorem CS.lev_lt {W0 W:World} {s:SM} {g k:Nat} {c:CS} (h:At W0 s W g c k):c.lev < 3:=by
 unfold CS.lev
 have:=h.h0
 have:=h.h1
 have:=h.h2
 split <;> assumption
theorem CS.lev_cell (c:CS) (h1:1≤c.d) (h3:c.d≤3):c.cells[2+(c.d - 1)]?=some (.int .i64 c.lev):=by
 obtain ⟨sp,pl,n,cl,l0,l1,l2,a0,e0,a1,e1,a2,e2,d⟩:=c
 simp only at h1 h3
 obtain rfl | rfl | rfl:d=1∨d=2∨d=3:=by omega
 ·rfl
 ·rfl
 ·rfl
theorem numC {W0 W:World} {s:SM} {g k:Nat} {c:CS} (h:At W0 s W g c k) (ok:SMok s) (h1:1≤c.d) (h3:c.d≤3) (j:Nat) (hj:j < c.n):
 Calls Tryz.prog 93 #[.pointer (some ⟨g,0,none⟩),.int .i64 j] W fun e w'=>e=.returned (.int .i64 (s.num k c.lev j:Nat))∧Low W.heap.size W w':=by
 obtain ⟨pv,pr,cv,cr,pp,cc,k0⟩:=h.S
 have hn:=h.n
 have hj2:j < (s.ls k).length:=by omega
 have hne:s.ls k≠[]:=by intro e;rw [e] at hj2;exact absurd hj2 (by simp)
 obtain ⟨gl,ol,el,kl⟩:=(h.l.below h.b) hne
 have hr:=ok.l k _ (List.getElem_mem hj2)
 have hne2:s.rs≠[]:=by intro e;rw [e] at hr;exact absurd hr (by simp)
 obtain ⟨gr,fr,er,kr⟩:=(k0.r.below h.b) hne2
 have S':=(h.b.block _ (zac k0.h)).trans k0.h
 have B:=h.B
 rw [s.num_eq k c.lev j hj2 hr]
 refine numAt g c.sp gl ol c.n c.cl gr fr s.rs.length cr (c.d - 1) c.lev j ((s.ls k)[j]) _ W (by omega) (CS.lev_lt h) hj hr (B.cell 0 _ rfl) ?_ ?_ (B.cell _ _ (c.lev_cell h1 h3)) ?_ (kl j hj2) ?_
 ·rw [← el];exact B.cell 1 _ rfl
 ·rw [show c.d - 1+1=c.d by omega];exact B.cell 11 _ rfl
 ·rw [← er];exact zab S' 1 rfl
 ·have hv:=CS.lev_lt h
  have R:=kr _ hr
  generalize c.lev=v at hv ⊢
  match v,hv with
  | 0,_=>exact R 0 _ rfl
  | 1,_=>exact R 1 _ rfl
  | 2,_=>exact R 2 _ rfl
theorem zu2 {W0 W:World} {s:SM} {g k:Nat} {c:CS} (h:At W0 s W g c k) (h1:1≤c.d) (h3:c.d≤3):
 Calls Tryz.prog 65 #[.pointer (some ⟨g,0,none⟩)] W fun e w'=>e=.returned (.agg #[.int .i64 c.pos,.int .i64 c.fin])∧Low W.heap.size W w':=by
 have B:=h.B
 obtain ⟨sp,pl,n,cl,l0,l1,l2,a0,e0,a1,e1,a2,e2,d⟩:=c
 simp only at h1 h3
 obtain rfl | rfl | rfl:d=1∨d=2∨d=3:=by omega
 ·exact here1 g a0 e0 W (B.cell 11 _ rfl) (zqt (B.cell 5 _ rfl) (B.cell 6 _ rfl))
 ·exact here2 g a1 e1 W (B.cell 11 _ rfl) (zqt (B.cell 7 _ rfl) (B.cell 8 _ rfl))
 ·exact here3 g a2 e2 W (B.cell 11 _ rfl) (zqt (B.cell 9 _ rfl) (B.cell 10 _ rfl))
theorem zm4 {W0 W:World} {s:SM} {g k:Nat} {c:CS} (h:At W0 s W g c k) (h3:c.d≤3):
 Calls Tryz.prog 62 #[.pointer (some ⟨g,0,none⟩)] W fun e w'=>e=.returned (.bool (decide (1≤c.d) && decide (c.pos < c.fin)))∧Low W.heap.size W w':=by
 have c11:=h.B.c11
 by_cases h1:1≤c.d
 ·have hh:=zu2 h h1 h3
  have he:=fun w=>zeb c.pos c.fin w
  have hr:(decide (1≤c.d) && decide (c.pos < c.fin))=!decide (c.fin≤c.pos):=by
   rw [decide_eq_true h1,Bool.true_and]
   by_cases q:c.pos < c.fin
   ·rw [decide_eq_true q,decide_eq_false (by omega)];rfl
   ·rw [decide_eq_false q,decide_eq_true (by omega)];rfl
  rw [hr]
  have hd:(0:Int) < (c.d:Int):=by omega
  clear hr h
  generalize decide (c.fin≤c.pos)=z at*
  generalize (c.pos:Nat)=a at*
  generalize (c.fin:Nat)=f at*
  go_enter Tryz.func62,Tryz.ntmps62
  go_wp2_with (first
   |(go_at_call 65;(with_reducible refine hh.mono ?_);rintro e w3 ⟨rfl,hb3⟩)
   |(go_at_call 56;(with_reducible refine (he _).mono ?_);rintro e w4 ⟨rfl,hb4⟩;have hb5:=zad hb3 hb4 hb3.size))
  go_ret
  exact ⟨rfl,hb5⟩
 ·have hz:c.d=0:=by omega
  have c11:W.cell? ⟨g,11,none⟩=some (.int .i64 0):=by have:=h.B.c11;rw [hz] at this;exact this
  rw [decide_eq_false h1,Bool.false_and]
  clear h
  go_enter Tryz.func62,Tryz.ntmps62
  go_wp2_with fail
  go_ret
  exact ⟨rfl,Low.refl _ _⟩
theorem zu3 (a f:Int) (w:World):(Instr.field 90 (.agg #[.int .i64 a,.int .i64 f]) 0).run Tryz.prog w=.ok (.int .i64 a) w:=by
 unfold Instr.field
 rw [Sem.run_bind,run_underlying Tryz.underlying90 w]
 simp [part,asAgg,Sem.run_bind,isAgg,sizeOf]
theorem zyb {W0 W:World} {s:SM} {g k:Nat} {c:CS} (h:At W0 s W g c k) (ok:SMok s) (h1:1≤c.d) (h3:c.d≤3) (j:Nat) (hj:j < c.n) (hp:c.pos < c.n):
 Calls Tryz.prog 59 #[.pointer (some ⟨g,0,none⟩),.int .i64 j] W fun e w'=>e=.returned (.bool (s.num k c.lev j == s.num k c.lev c.pos))∧Low W.heap.size W w':=by
 have hc1:=fun W' (b:Low W.heap.size W W')=>numC (h.low b) ok h1 h3 j hj
 have hc2:=fun W' (b:Low W.heap.size W W')=>numC (h.low b) ok h1 h3 c.pos hp
 have hc3:=fun W' (b:Low W.heap.size W W')=>zu2 (h.low b) h1 h3
 have b0:=Low.refl W.heap.size W
 have hr:(s.num k c.lev j == s.num k c.lev c.pos)=((s.num k c.lev j:Int) == (s.num k c.lev c.pos:Int)):=by
  rw [Bool.eq_iff_iff];simp only [beq_iff_eq];omega
 rw [hr]
 clear hr h
 generalize ((s.num k c.lev j:Nat):Int)=x at*
 generalize ((s.num k c.lev c.pos:Nat):Int)=y at*
 generalize (c.pos:Nat)=a at*
 generalize (c.fin:Nat)=f at*
 have hfl:=fun w=>zu3 a f w
 go_enter Tryz.func59,Tryz.ntmps59
 go_wp2_with (first
  |(go_at_call 93;(with_reducible refine (hc1 _ b0).mono ?_);rintro e w3 ⟨rfl,hb3⟩;replace b0:=zad b0 hb3 b0.size;clear hb3;clear hc1)
  |(go_at_call 93;(with_reducible refine (hc2 _ b0).mono ?_);rintro e w3 ⟨rfl,hb3⟩;replace b0:=zad b0 hb3 b0.size;clear hb3)
  |(go_at_call 65;(with_reducible refine (hc3 _ b0).mono ?_);rintro e w3 ⟨rfl,hb3⟩;replace b0:=zad b0 hb3 b0.size;clear hb3))
 go_ret
 exact ⟨rfl,b0⟩
theorem Six.low {w w':World} {g:Nat} {k:Int} {b:Bool} {n:Int} {t x:ByteArray} {p:Option Addr} {len cap:Nat} (h:Six w g k b n t x p len cap) (c:Low w.heap.size w w'):Six w' g k b n t x p len cap:=h.below c.is
theorem zwz (g sp gv ov nv cv j m:Nat) (v:V6) (w:World) (hm:m < nv)
 (k0:w.cell? ⟨g,0,none⟩=some (.pointer (some ⟨sp,0,none⟩))) (k1:w.cell? ⟨sp,0,none⟩=some (.slice (some ⟨gv,ov,none⟩) nv cv)) (kr:w.rangeAt gv (ov+m*6) [.int .i64 v.k,.bool v.b,.int .i64 v.n,.string v.t,.string v.x,.slice v.p v.len v.cap])
 (hn:∀ W,Low w.heap.size w W→Calls Tryz.prog 93 #[.pointer (some ⟨g,0,none⟩),.int .i64 j] W fun e w'=>e=.returned (.int .i64 m)∧Low W.heap.size W w'):
 Calls Tryz.prog 64 #[.pointer (some ⟨g,0,none⟩),.int .i64 j] w fun e w'=>e=.returned (.agg #[.int .i64 v.k,.bool v.b,.int .i64 v.n,.string v.t,.string v.x,.slice v.p v.len v.cap])∧Low w.heap.size w w':=by
 obtain ⟨W1,hW1⟩:∃ W1,W1=w.alloc (.cells #[.int .i64 0,.bool false,.int .i64 0,.string ⟨#[]⟩,.string ⟨#[]⟩,.slice none 0 0] 39):=⟨_,rfl⟩
 have hS:Six W1.drew w.heap.size 0 false 0 ⟨#[]⟩ ⟨#[]⟩ none 0 0:=by rw [hW1];exact zaf _ rfl
 have b0:Low w.heap.size w W1:=by rw [hW1];exact low1 _ _
 have K0:Hid (∀ W,Low w.heap.size w W→W.cell? ⟨g,0,none⟩=some (.pointer (some ⟨sp,0,none⟩))):=Lib.hid fun W h=>(h.cell (p:=⟨g,0,none⟩) (World.block_lt_of_cell? w _ k0)).trans k0
 have K1:Hid (∀ W,Low w.heap.size w W→W.cell? ⟨sp,0,none⟩=some (.slice (some ⟨gv,ov,none⟩) nv cv)):=Lib.hid fun W h=>(h.cell (p:=⟨sp,0,none⟩) (World.block_lt_of_cell? w _ k1)).trans k1
 have KR:Hid (∀ W,Low w.heap.size w W→W.rangeAt gv (ov+m*6) [.int .i64 v.k,.bool v.b,.int .i64 v.n,.string v.t,.string v.x,.slice v.p v.len v.cap]):=Lib.hid fun W h=>zae kr h.is
 have HN:=Lib.hid hn
 have hmi:(m:Int) < nv:=by omega
 have HW:=Lib.hid hW1
 clear hW1 k0 k1 kr hn
 go_enter Tryz.func64,Tryz.ntmps64
 go_upto_region 1 with fail
 rw [← HW.out]
 refine wp_region_held_drew (S:=fun W=>Low w.heap.size w W) (by kernel_rfl) b0.drew (fun hHeld=>?_)
 refine tg (i:=0) (.pointer (some ⟨g,0,none⟩)) rfl hHeld ?_
 refine tg (i:=1) (.pointer (some ⟨g,0,none⟩)) rfl hHeld ?_
 refine tg (i:=2) (.pointer (some ⟨g,0,none⟩)) rfl hHeld ?_
 refine tk (i:=3) (v:=.pointer (some ⟨sp,0,none⟩)) rfl (Or.inl ⟨by rfl,fun W h=>by have c0:=K0.out W h;go_simp⟩) hHeld ?_
 refine tg (i:=4) (.pointer (some ⟨sp,0,none⟩)) rfl hHeld ?_
 refine tg (i:=5) (.pointer (some ⟨sp,0,none⟩)) rfl hHeld ?_
 refine tk (i:=6) (v:=.slice (some ⟨gv,ov,none⟩) nv cv) rfl (Or.inl ⟨by rfl,fun W h=>by have c0:=K1.out W h;go_simp⟩) hHeld ?_
 refine tg (i:=7) (.pointer (some ⟨g,0,none⟩)) rfl hHeld ?_
 refine tg (i:=8) (.int .i64 j) rfl hHeld ?_
 refine tr 9 rfl (fun K hK=>?_)
 rw [if_pos (by rfl)]
 go_simp
 refine (HN.out _ hHeld).mono ?_
 rintro e0 w3 ⟨rfl,hb3⟩
 have hH2:=zad hHeld hb3 hHeld.size
 have hS3:=Six.low hS hb3
 clear hb3
 refine hK.out _ _ hH2 (fun hH2=>?_)
 clear hK K
 try simp only [putS]
 refine tg (i:=10) (.pointer (some ⟨gv,ov+m*6,none⟩)) rfl hH2 ?_
 refine tk (i:=11) rfl (yieldsIf_load_mid (by rfl) 39 (.tmp 15) rfl (gv) (ov+m*6) rfl _ _ (fun w h=>KR.out w h) Tryz.underlying39 rfl zas) hH2 ?_
 refine tr 12 rfl (fun K hK=>?_)
 rw [if_pos (by rfl)]
 obtain ⟨hH3,u4⟩:Low w.heap.size w w3∧Six w3 w.heap.size 0 false 0 ⟨#[]⟩ ⟨#[]⟩ none 0 0:=⟨hH2,hS3⟩
 have b1:=zbn hH3 (Only.setRow (b:=w.heap.size) w3 #[.int .i64 v.k,.bool v.b,.int .i64 v.n,.string v.t,.string v.x,.slice v.p v.len v.cap]) (Nat.le_refl _) hH3.size
 refine wp_store_row 39 (.tmp 4) (.tmp 16) rfl w.heap.size #[.int .i64 v.k,.bool v.b,.int .i64 v.n,.string v.t,.string v.x,.slice v.p v.len v.cap] rfl rfl 39 _ u4 zas rfl (by simp [Value.oneCell']) ?_
 refine hK.out _ _ b1 (fun _=>?_)
 have u5:=za6 (w:=w3) (g:=w.heap.size) (c':=#[.int .i64 v.k,.bool v.b,.int .i64 v.n,.string v.t,.string v.x,.slice v.p v.len v.cap]) u4
 generalize w3.setRow w.heap.size #[.int .i64 v.k,.bool v.b,.int .i64 v.n,.string v.t,.string v.x,.slice v.p v.len v.cap]=w5 at*
 clear hK K
 refine wpAnyH_done (by kernel_rfl) ?_ _
 go_wp2_with fail
 exact bodyPost_ret (v:=.agg #[.int .i64 v.k,.bool v.b,.int .i64 v.n,.string v.t,.string v.x,.slice v.p v.len v.cap]) (results_cell_row (p:=4) (ty:=39) Tryz.results64 _ _ w.heap.size 39 _ (0,0) _ rfl u5 Tryz.underlying39 rfl (by exact zas)) rfl ⟨rfl,b1⟩
theorem zyc {W0 W:World} {s:SM} {g k:Nat} {c:CS} (h:At W0 s W g c k) (ok:SMok s) (h1:1≤c.d) (h3:c.d≤3) (j:Nat) (hj:j < c.n):
 ∃ v:V6,∃ q,Is W v (s.vs[s.num k c.lev j]'(s.num_lt ok k c.lev j (by have:=h.n;omega))) q∧
  ∀ W',Low W.heap.size W W'→Calls Tryz.prog 64 #[.pointer (some ⟨g,0,none⟩),.int .i64 j] W' fun e w'=>e=.returned (.agg #[.int .i64 v.k,.bool v.b,.int .i64 v.n,.string v.t,.string v.x,.slice v.p v.len v.cap])∧Low W'.heap.size W' w':=by
 have hm:=s.num_lt ok k c.lev j (by have:=h.n;omega)
 obtain ⟨pv,pr,cv,cr,pp,cc,k0⟩:=h.S
 have hne:s.vs≠[]:=by intro e;rw [e] at hm;exact absurd hm (by simp)
 obtain ⟨gv,ov,ev,kv⟩:=(k0.v.below h.b) hne
 have h0:=zar.at_ s.vs ov kv (s.num k c.lev j) hm
 obtain ⟨v,q,i1,i2⟩:=isOf h0
 refine ⟨v,q,i1,fun W' b=>?_⟩
 have h':=h.low b
 have S':=(h'.b.block _ (zac k0.h)).trans k0.h
 refine zwz g c.sp gv ov s.vs.length cv j (s.num k c.lev j) v W' hm (h'.B.cell 0 _ rfl) (by rw [← ev];exact zab S' 0 rfl) (zae i2 b.is) (fun W2 b2=>numC (h'.low b2) ok h1 h3 j hj)
end Go.Proofs.YtanbgdhmfjgihaaGreatDoor
