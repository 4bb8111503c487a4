/- Texts of one kind, one behind the other: each says ahead of itself what it shows. -/
import Derived.Test.YtanbgdhmfjgihaaGreatDoorUaq
import Derived.Test.YtanbgdhmfjgihaaGreatDoorUah
namespace Go.Proofs.YtanbgdhmfjgihaaGreatDoor
open Go.RowKit
set_option maxHeartbeats 12800000
set_option maxRecDepth 20000
theorem znu (v:V6) (u:Val) (q:List Val) (W:World) (h:Is W v u q):
 Calls Tryz.prog 49 #[.agg #[.int .i64 v.k,.bool v.b,.int .i64 v.n,.string v.t,.string v.x,.slice v.p v.len v.cap]] W fun e w'=>e=.returned (.bool (mayP u 0))∧Below W.heap.size W w':=by
 obtain ⟨k,b,n,t,x,p,len,cap⟩:=v
 obtain ⟨e,hq,hf,hl⟩:=h
 simp only at e hq hf hl
 subst hq e
 exact refMay k b n t x q p cap W hf hl
theorem zhv (s q o:V6) (us uq uo:Val) (ls lq lo:List Val) (W:World) (hs:Is W s us ls) (hq:Is W q uq lq) (ho:Is W o uo lo):
 Calls Tryz.prog 14 #[.agg #[.int .i64 s.k,.bool s.b,.int .i64 s.n,.string s.t,.string s.x,.slice s.p s.len s.cap,.int .i64 q.k,.bool q.b,.int .i64 q.n,.string q.t,.string q.x,.slice q.p q.len q.cap,.int .i64 o.k,.bool o.b,.int .i64 o.n,.string o.t,.string o.x,.slice o.p o.len o.cap]] W fun e w'=>e=.returned (.bool (chkP s q o us uq uo))∧Below W.heap.size W w':=by
 obtain ⟨W0,hW0⟩:∃ W0,W0=W.alloc (.cells #[.int .i64 s.k,.bool s.b,.int .i64 s.n,.string s.t,.string s.x,.slice s.p s.len s.cap,.int .i64 q.k,.bool q.b,.int .i64 q.n,.string q.t,.string q.x,.slice q.p q.len q.cap,.int .i64 o.k,.bool o.b,.int .i64 o.n,.string o.t,.string o.x,.slice o.p o.len o.cap] 41):=⟨_,rfl⟩
 have B:za6 W0 W.heap.size s q o:=by rw [hW0];exact zd5 _ rfl
 have b0:Below W.heap.size W W0:=by rw [hW0];exact zap _ _
 have hc1:=fun w (h:Below W.heap.size W w)=>znu s us ls w (hs.below h)
 have hc2:=fun w (h:Below W.heap.size W w)=>znu q uq lq w (hq.below h)
 have hc3:=fun w (h:Below W.heap.size W w)=>znu o uo lo w (ho.below h)
 have HW:=Lib.hid hW0
 clear hW0 hs hq ho
 rw [show chkP s q o us uq uo=(mayP us 0 && mayP uq 0 && mayP uo 0 && (objP o.k && zbc s.k && zbd q.k)) by
  unfold chkP
  cases zbc s.k <;> cases zbd q.k <;> cases objP o.k <;> cases mayP us 0 <;> cases mayP uq 0 <;> cases mayP uo 0 <;> rfl]
 generalize mayP us 0=r1 at hc1 ⊢
 generalize mayP uq 0=r2 at hc2 ⊢
 generalize mayP uo 0=r3 at hc3 ⊢
 cases r1 with
 | false=>
   clear hc2
   clear hc3
   rw [show (false && r2 && r3 && (objP o.k && zbc s.k && zbd q.k))=false by simp]
   go_enter Tryz.func14,Tryz.ntmps14
   go_wp2_with (first
    |(rw [← HW.out];(with_reducible refine zam (.tmp 3) W.heap.size 0 s B.r0 ?_ ?_ ?_ ?_);rfl;rfl;rfl)
    |(go_at_call 49;(with_reducible refine (hc1 _ b0).mono ?_);rintro e w3 ⟨rfl,hb3⟩;replace b0:=zak b0 hb3 b0.size;replace B:=B.below hb3;clear hb3))
   go_ret
   exact ⟨rfl,b0⟩
 | true=>
   cases r2 with
   | false=>
     clear hc3
     rw [show (true && false && r3 && (objP o.k && zbc s.k && zbd q.k))=false by simp]
     go_enter Tryz.func14,Tryz.ntmps14
     go_wp2_with (first
      |(rw [← HW.out];(with_reducible refine zam (.tmp 3) W.heap.size 0 s B.r0 ?_ ?_ ?_ ?_);rfl;rfl;rfl)
      |((with_reducible refine zan (.tmp 8) W.heap.size 6 q B.r1 ?_ ?_ ?_ ?_);rfl;rfl;rfl)
      |(go_at_call 49;(with_reducible refine (hc1 _ b0).mono ?_);rintro e w3 ⟨rfl,hb3⟩;replace b0:=zak b0 hb3 b0.size;replace B:=B.below hb3;clear hb3)
      |(go_at_call 49;(with_reducible refine (hc2 _ b0).mono ?_);rintro e w3 ⟨rfl,hb3⟩;replace b0:=zak b0 hb3 b0.size;replace B:=B.below hb3;clear hb3))
     go_ret
     exact ⟨rfl,b0⟩
   | true=>
     cases r3 with
     | false=>
       rw [show (true && true && false && (objP o.k && zbc s.k && zbd q.k))=false by simp]
       go_enter Tryz.func14,Tryz.ntmps14
       go_wp2_with (first
        |(rw [← HW.out];(with_reducible refine zam (.tmp 3) W.heap.size 0 s B.r0 ?_ ?_ ?_ ?_);rfl;rfl;rfl)
        |((with_reducible refine zan (.tmp 8) W.heap.size 6 q B.r1 ?_ ?_ ?_ ?_);rfl;rfl;rfl)
        |((with_reducible refine zan (.tmp 14) W.heap.size 12 o B.r2 ?_ ?_ ?_ ?_);rfl;rfl;rfl)
        |(go_at_call 49;(with_reducible refine (hc1 _ b0).mono ?_);rintro e w3 ⟨rfl,hb3⟩;replace b0:=zak b0 hb3 b0.size;replace B:=B.below hb3;clear hb3)
        |(go_at_call 49;(with_reducible refine (hc2 _ b0).mono ?_);rintro e w3 ⟨rfl,hb3⟩;replace b0:=zak b0 hb3 b0.size;replace B:=B.below hb3;clear hb3)
        |(go_at_call 49;(with_reducible refine (hc3 _ b0).mono ?_);rintro e w3 ⟨rfl,hb3⟩;replace b0:=zak b0 hb3 b0.size;replace B:=B.below hb3;clear hb3))
       go_ret
       exact ⟨rfl,b0⟩
     | true=>
       rw [show (true && true && true && (objP o.k && zbc s.k && zbd q.k))=(objP o.k && zbc s.k && zbd q.k) by simp]
       obtain ⟨rr,hrr⟩:∃ rr,rr=(objP o.k && zbc s.k && zbd q.k):=⟨_,rfl⟩
       rw [← hrr]
       have HR:=Lib.hid hrr
       clear hrr
       go_enter Tryz.func14,Tryz.ntmps14
       go_upto_region 3 with (first
        |(rw [← HW.out];(with_reducible refine zam (.tmp 3) W.heap.size 0 s B.r0 ?_ ?_ ?_ ?_);rfl;rfl;rfl)
        |((with_reducible refine zan (.tmp 8) W.heap.size 6 q B.r1 ?_ ?_ ?_ ?_);rfl;rfl;rfl)
        |((with_reducible refine zan (.tmp 14) W.heap.size 12 o B.r2 ?_ ?_ ?_ ?_);rfl;rfl;rfl)
        |(go_at_call 49;(with_reducible refine (hc1 _ b0).mono ?_);rintro e w3 ⟨rfl,hb3⟩;replace b0:=zak b0 hb3 b0.size;replace B:=B.below hb3;clear hb3)
        |(go_at_call 49;(with_reducible refine (hc2 _ b0).mono ?_);rintro e w3 ⟨rfl,hb3⟩;replace b0:=zak b0 hb3 b0.size;replace B:=B.below hb3;clear hb3)
        |(go_at_call 49;(with_reducible refine (hc3 _ b0).mono ?_);rintro e w3 ⟨rfl,hb3⟩;replace b0:=zak b0 hb3 b0.size;replace B:=B.below hb3;clear hb3))
       have f0:=B.c0
       have f6:=B.c6
       have f12:=B.c12
       clear hc1 hc2 hc3 HW
       by_cases e8:o.k=8
       ·have g8:(o.k == (8:Int))=true:=by simpa using e8
        have ho:objP o.k=true:=by rw [e8];rfl
        clear e8
        by_cases s8:s.k=8
        ·have h8:(s.k == (8:Int))=true:=by simpa using s8
         have hv:(objP o.k && zbc s.k && zbd q.k)=(q.k == (8:Int)):=by rw [ho,Bool.true_and];unfold zbc zbd;rw [h8];simp
         have HV:=Lib.hid hv
         clear hv ho s8
         go_wp2_with fail
         go_ret
         exact ⟨by rw [HR.out,HV.out];rfl,b0⟩
        ·have h8:(s.k == (8:Int))=false:=by simpa using s8
         by_cases s9:s.k=9
         ·have h9:(s.k == (9:Int))=true:=by simpa using s9
          have hv:(objP o.k && zbc s.k && zbd q.k)=(q.k == (8:Int)):=by rw [ho,Bool.true_and];unfold zbc zbd;rw [h8,h9];simp
          have HV:=Lib.hid hv
          clear hv ho s8 s9
          go_wp2_with fail
          go_ret
          exact ⟨by rw [HR.out,HV.out];rfl,b0⟩
         ·have h9:(s.k == (9:Int))=false:=by simpa using s9
          have hv:(objP o.k && zbc s.k && zbd q.k)=false:=by rw [ho,Bool.true_and];unfold zbc zbd;rw [h8,h9];simp
          have HV:=Lib.hid hv
          clear hv ho s8 s9
          go_wp2_with fail
          go_ret
          exact ⟨by rw [HR.out,HV.out];rfl,b0⟩
       have g8:(o.k == (8:Int))=false:=by simpa using e8
       by_cases e9:o.k=9
       ·have g9:(o.k == (9:Int))=true:=by simpa using e9
        have ho:objP o.k=true:=by rw [e9];rfl
        clear e9
        by_cases s8:s.k=8
        ·have h8:(s.k == (8:Int))=true:=by simpa using s8
         have hv:(objP o.k && zbc s.k && zbd q.k)=(q.k == (8:Int)):=by rw [ho,Bool.true_and];unfold zbc zbd;rw [h8];simp
         have HV:=Lib.hid hv
         clear hv ho s8
         go_wp2_with fail
         go_ret
         exact ⟨by rw [HR.out,HV.out];rfl,b0⟩
        ·have h8:(s.k == (8:Int))=false:=by simpa using s8
         by_cases s9:s.k=9
         ·have h9:(s.k == (9:Int))=true:=by simpa using s9
          have hv:(objP o.k && zbc s.k && zbd q.k)=(q.k == (8:Int)):=by rw [ho,Bool.true_and];unfold zbc zbd;rw [h8,h9];simp
          have HV:=Lib.hid hv
          clear hv ho s8 s9
          go_wp2_with fail
          go_ret
          exact ⟨by rw [HR.out,HV.out];rfl,b0⟩
         ·have h9:(s.k == (9:Int))=false:=by simpa using s9
          have hv:(objP o.k && zbc s.k && zbd q.k)=false:=by rw [ho,Bool.true_and];unfold zbc zbd;rw [h8,h9];simp
          have HV:=Lib.hid hv
          clear hv ho s8 s9
          go_wp2_with fail
          go_ret
          exact ⟨by rw [HR.out,HV.out];rfl,b0⟩
       have g9:(o.k == (9:Int))=false:=by simpa using e9
       by_cases e10:o.k=10
       ·have g10:(o.k == (10:Int))=true:=by simpa using e10
        have ho:objP o.k=true:=by rw [e10];rfl
        clear e10
        by_cases s8:s.k=8
        ·have h8:(s.k == (8:Int))=true:=by simpa using s8
         have hv:(objP o.k && zbc s.k && zbd q.k)=(q.k == (8:Int)):=by rw [ho,Bool.true_and];unfold zbc zbd;rw [h8];simp
         have HV:=Lib.hid hv
         clear hv ho s8
         go_wp2_with fail
         go_ret
         exact ⟨by rw [HR.out,HV.out];rfl,b0⟩
        ·have h8:(s.k == (8:Int))=false:=by simpa using s8
         by_cases s9:s.k=9
         ·have h9:(s.k == (9:Int))=true:=by simpa using s9
          have hv:(objP o.k && zbc s.k && zbd q.k)=(q.k == (8:Int)):=by rw [ho,Bool.true_and];unfold zbc zbd;rw [h8,h9];simp
          have HV:=Lib.hid hv
          clear hv ho s8 s9
          go_wp2_with fail
          go_ret
          exact ⟨by rw [HR.out,HV.out];rfl,b0⟩
         ·have h9:(s.k == (9:Int))=false:=by simpa using s9
          have hv:(objP o.k && zbc s.k && zbd q.k)=false:=by rw [ho,Bool.true_and];unfold zbc zbd;rw [h8,h9];simp
          have HV:=Lib.hid hv
          clear hv ho s8 s9
          go_wp2_with fail
          go_ret
          exact ⟨by rw [HR.out,HV.out];rfl,b0⟩
       have g10:(o.k == (10:Int))=false:=by simpa using e10
       by_cases e4:o.k=4
       ·have g4:(o.k == (4:Int))=true:=by simpa using e4
        have ho:objP o.k=true:=by rw [e4];rfl
        clear e4
        by_cases s8:s.k=8
        ·have h8:(s.k == (8:Int))=true:=by simpa using s8
         have hv:(objP o.k && zbc s.k && zbd q.k)=(q.k == (8:Int)):=by rw [ho,Bool.true_and];unfold zbc zbd;rw [h8];simp
         have HV:=Lib.hid hv
         clear hv ho s8
         go_wp2_with fail
         go_ret
         exact ⟨by rw [HR.out,HV.out];rfl,b0⟩
        ·have h8:(s.k == (8:Int))=false:=by simpa using s8
         by_cases s9:s.k=9
         ·have h9:(s.k == (9:Int))=true:=by simpa using s9
          have hv:(objP o.k && zbc s.k && zbd q.k)=(q.k == (8:Int)):=by rw [ho,Bool.true_and];unfold zbc zbd;rw [h8,h9];simp
          have HV:=Lib.hid hv
          clear hv ho s8 s9
          go_wp2_with fail
          go_ret
          exact ⟨by rw [HR.out,HV.out];rfl,b0⟩
         ·have h9:(s.k == (9:Int))=false:=by simpa using s9
          have hv:(objP o.k && zbc s.k && zbd q.k)=false:=by rw [ho,Bool.true_and];unfold zbc zbd;rw [h8,h9];simp
          have HV:=Lib.hid hv
          clear hv ho s8 s9
          go_wp2_with fail
          go_ret
          exact ⟨by rw [HR.out,HV.out];rfl,b0⟩
       have g4:(o.k == (4:Int))=false:=by simpa using e4
       by_cases e1:o.k=1
       ·have g1:(o.k == (1:Int))=true:=by simpa using e1
        have ho:objP o.k=true:=by rw [e1];rfl
        clear e1
        by_cases s8:s.k=8
        ·have h8:(s.k == (8:Int))=true:=by simpa using s8
         have hv:(objP o.k && zbc s.k && zbd q.k)=(q.k == (8:Int)):=by rw [ho,Bool.true_and];unfold zbc zbd;rw [h8];simp
         have HV:=Lib.hid hv
         clear hv ho s8
         go_wp2_with fail
         go_ret
         exact ⟨by rw [HR.out,HV.out];rfl,b0⟩
        ·have h8:(s.k == (8:Int))=false:=by simpa using s8
         by_cases s9:s.k=9
         ·have h9:(s.k == (9:Int))=true:=by simpa using s9
          have hv:(objP o.k && zbc s.k && zbd q.k)=(q.k == (8:Int)):=by rw [ho,Bool.true_and];unfold zbc zbd;rw [h8,h9];simp
          have HV:=Lib.hid hv
          clear hv ho s8 s9
          go_wp2_with fail
          go_ret
          exact ⟨by rw [HR.out,HV.out];rfl,b0⟩
         ·have h9:(s.k == (9:Int))=false:=by simpa using s9
          have hv:(objP o.k && zbc s.k && zbd q.k)=false:=by rw [ho,Bool.true_and];unfold zbc zbd;rw [h8,h9];simp
          have HV:=Lib.hid hv
          clear hv ho s8 s9
          go_wp2_with fail
          go_ret
          exact ⟨by rw [HR.out,HV.out];rfl,b0⟩
       have g1:(o.k == (1:Int))=false:=by simpa using e1
       by_cases e2:o.k=2
       ·have g2:(o.k == (2:Int))=true:=by simpa using e2
        have ho:objP o.k=true:=by rw [e2];rfl
        clear e2
        by_cases s8:s.k=8
        ·have h8:(s.k == (8:Int))=true:=by simpa using s8
         have hv:(objP o.k && zbc s.k && zbd q.k)=(q.k == (8:Int)):=by rw [ho,Bool.true_and];unfold zbc zbd;rw [h8];simp
         have HV:=Lib.hid hv
         clear hv ho s8
         go_wp2_with fail
         go_ret
         exact ⟨by rw [HR.out,HV.out];rfl,b0⟩
        ·have h8:(s.k == (8:Int))=false:=by simpa using s8
         by_cases s9:s.k=9
         ·have h9:(s.k == (9:Int))=true:=by simpa using s9
          have hv:(objP o.k && zbc s.k && zbd q.k)=(q.k == (8:Int)):=by rw [ho,Bool.true_and];unfold zbc zbd;rw [h8,h9];simp
          have HV:=Lib.hid hv
          clear hv ho s8 s9
          go_wp2_with fail
          go_ret
          exact ⟨by rw [HR.out,HV.out];rfl,b0⟩
         ·have h9:(s.k == (9:Int))=false:=by simpa using s9
          have hv:(objP o.k && zbc s.k && zbd q.k)=false:=by rw [ho,Bool.true_and];unfold zbc zbd;rw [h8,h9];simp
          have HV:=Lib.hid hv
          clear hv ho s8 s9
          go_wp2_with fail
          go_ret
          exact ⟨by rw [HR.out,HV.out];rfl,b0⟩
       have g2:(o.k == (2:Int))=false:=by simpa using e2
       by_cases e3:o.k=3
       ·have g3:(o.k == (3:Int))=true:=by simpa using e3
        have ho:objP o.k=true:=by rw [e3];rfl
        clear e3
        by_cases s8:s.k=8
        ·have h8:(s.k == (8:Int))=true:=by simpa using s8
         have hv:(objP o.k && zbc s.k && zbd q.k)=(q.k == (8:Int)):=by rw [ho,Bool.true_and];unfold zbc zbd;rw [h8];simp
         have HV:=Lib.hid hv
         clear hv ho s8
         go_wp2_with fail
         go_ret
         exact ⟨by rw [HR.out,HV.out];rfl,b0⟩
        ·have h8:(s.k == (8:Int))=false:=by simpa using s8
         by_cases s9:s.k=9
         ·have h9:(s.k == (9:Int))=true:=by simpa using s9
          have hv:(objP o.k && zbc s.k && zbd q.k)=(q.k == (8:Int)):=by rw [ho,Bool.true_and];unfold zbc zbd;rw [h8,h9];simp
          have HV:=Lib.hid hv
          clear hv ho s8 s9
          go_wp2_with fail
          go_ret
          exact ⟨by rw [HR.out,HV.out];rfl,b0⟩
         ·have h9:(s.k == (9:Int))=false:=by simpa using s9
          have hv:(objP o.k && zbc s.k && zbd q.k)=false:=by rw [ho,Bool.true_and];unfold zbc zbd;rw [h8,h9];simp
          have HV:=Lib.hid hv
          clear hv ho s8 s9
          go_wp2_with fail
          go_ret
          exact ⟨by rw [HR.out,HV.out];rfl,b0⟩
       have g3:(o.k == (3:Int))=false:=by simpa using e3
       have ho:objP o.k=false:=by unfold objP;rw [g8,g9,g10,g4,g1,g2,g3];rfl
       have hv:(objP o.k && zbc s.k && zbd q.k)=false:=by rw [ho,Bool.false_and,Bool.false_and]
       have HV:=Lib.hid hv
       clear hv ho e8 e9 e10 e4 e1 e2 e3
       go_wp2_with fail
       go_ret
       exact ⟨by rw [HR.out,HV.out];rfl,b0⟩
def zug (v:Val):Prop:=∀ (W:World) (k:Int) (b:Bool) (n:Int) (t x:ByteArray) (q:List Val) (p:Option Addr) (cap:Nat) (v2:Val) (k2:Int) (b2:Bool) (n2:Int) (t2 x2:ByteArray) (q2:List Val) (p2:Option Addr) (cap2:Nat),
 v=.mk k b n t x q→v2=.mk k2 b2 n2 t2 x2 q2→q.length≤2097152→Held W (.slice p q.length cap) q→Held W (.slice p2 q2.length cap2) q2→
 Calls Tryz.prog 32 #[.agg #[.int .i64 k,.bool b,.int .i64 n,.string t,.string x,.slice p q.length cap],.agg #[.int .i64 k2,.bool b2,.int .i64 n2,.string t2,.string x2,.slice p2 q2.length cap2]] W
  fun e w'=>e=.returned (.bool (za7 v v2))∧Below W.heap.size W w'
theorem zy5 (p p2:Option Addr) (n n2 cap cap2:Nat) (w:World) (h:¬ n=n2):
 Calls Tryz.prog 66 #[.slice p n cap,.slice p2 n2 cap2] w fun e w'=>e=.returned (.bool false)∧Below w.heap.size w w':=by
 have h1:((n:Int) != n2)=true:=by simp;omega
 clear h
 go_enter Tryz.func66,Tryz.ntmps66
 go_wp2_with fail
 go_ret
 exact ⟨rfl,Below.refl _ _⟩
theorem zwn (p p2:Option Addr) (cap cap2:Nat) (w:World):
 Calls Tryz.prog 66 #[.slice p 0 cap,.slice p2 0 cap2] w fun e w'=>e=.returned (.bool true)∧Below w.heap.size w w':=by
 go_enter Tryz.func66,Tryz.ntmps66
 go_wp2_with fail
 go_loopw [5] (fun i wr=>i=.int .i64 0∧wr=w) (fun _ _=>0)
 case atStart=>exact ⟨rfl,rfl⟩
 case round=>
  obtain ⟨rfl,rfl⟩:=hrel
  go_wp2_with fail
  go_ret
  exact ⟨rfl,Below.refl _ _⟩
theorem zwo (l l2:List Val) (g off cap g2 off2 cap2:Nat) (w:World) (hl:zaq w g off l) (hl2:zaq w g2 off2 l2) (hlen:l2.length=l.length) (hn:l.length≤2097152) (each:∀ v∈l,zug v):
 Calls Tryz.prog 66 #[.slice (some ⟨g,off,none⟩) l.length cap,.slice (some ⟨g2,off2,none⟩) l.length cap2] w fun e w'=>e=.returned (.bool (za3 l l2))∧Below w.heap.size w w':=by
 have HH:=Lib.hid hl
 have HH2:=Lib.hid hl2
 have HE:=Lib.hid each
 have HL:=Lib.hid hlen
 clear hl hl2 each hlen
 go_enter Tryz.func66,Tryz.ntmps66
 go_wp2_with fail
 go_loopw [5] (fun i wr=>∃ j:Nat,j≤l.length∧i=.int .i64 j∧Below w.heap.size w wr∧∀ (i:Nat) (h:i < l.length) (h2:i < l2.length),i < j→za7 l[i] l2[i]=true) (fun i _=>l.length - (intOf i).toNat)
 case atStart=>exact ⟨0,Nat.zero_le _,rfl,Below.refl _ _,fun _ _ _ h=>absurd h (by omega)⟩
 case round=>
  obtain ⟨j,hj,rfl,hb,hall⟩:=hrel
  have HA:=Lib.hid hall
  clear hall
  by_cases hlt:j < l.length
  ·have hlt2:j < l2.length:=by have:=HL.out;omega
   obtain ⟨k,b,n,t,x,q,p,cp,o1⟩:=(zaq.at_ l off HH.out j hlt).opens
   obtain ⟨k2,b2,n2,t2,x2,q2,p2,cp2,o2⟩:=(zaq.at_ l2 off2 HH2.out j hlt2).opens
   have hc:=fun W (hb:Below w.heap.size w W)=>HE.out l[j] (List.getElem_mem hlt) W k b n t x q p cp l2[j] k2 b2 n2 t2 x2 q2 p2 cp2 o1.e o2.e o1.hf.hn (Held.below q o1.hl hb) (Held.below q2 o2.hl hb)
   obtain ⟨r,hr⟩:∃ r,r=za7 l[j] l2[j]:=⟨_,rfl⟩
   rw [← hr] at hc
   have R1:∀ w',Below w.heap.size w w'→w'.rangeAt g (off+j*6) [.int .i64 k,.bool b,.int .i64 n,.string t,.string x,.slice p q.length cp]:=fun w' h=>(o1.below h).range
   have R2:∀ w',Below w.heap.size w w'→w'.rangeAt g2 (off2+j*6) [.int .i64 k2,.bool b2,.int .i64 n2,.string t2,.string x2,.slice p2 q2.length cp2]:=fun w' h=>(o2.below h).range
   have HC:=Lib.hid hc
   have HR:=Lib.hid hr
   have HR1:=Lib.hid R1
   have HR2:=Lib.hid R2
   clear o1 o2 hr hc R1 R2
   have hlti:(j:Int) < l.length:=by omega
   go_wp2_with fail
   refine wp_region_held_drew (S:=fun w'=>Below w.heap.size w w') (by kernel_rfl) hb.drew (fun hHeld=>?_)
   refine tg (i:=0) (.slice (some ⟨g,off,none⟩) l.length cap) rfl hHeld ?_
   refine tg (i:=1) (.int .i64 j) rfl hHeld ?_
   refine tg (i:=2) (.pointer (some ⟨g,off+j*6,none⟩)) rfl hHeld ?_
   refine tk (i:=3) rfl (yieldsIf_load_mid (by rfl) 39 (.tmp 19) rfl g (off+j*6) rfl _ _ (fun w h=>HR1.out w h) Tryz.underlying39 rfl zav) hHeld ?_
   refine tg (i:=4) (.slice (some ⟨g2,off2,none⟩) l.length cap2) rfl hHeld ?_
   refine tg (i:=5) (.int .i64 j) rfl hHeld ?_
   refine tg (i:=6) (.pointer (some ⟨g2,off2+j*6,none⟩)) rfl hHeld ?_
   refine tk (i:=7) rfl (yieldsIf_load_mid (by rfl) 39 (.tmp 23) rfl g2 (off2+j*6) rfl _ _ (fun w h=>HR2.out w h) Tryz.underlying39 rfl zav) hHeld ?_
   refine tr 8 rfl (fun K hK=>?_)
   rw [if_pos (by rfl)]
   go_simp
   refine (HC.out _ hHeld).mono ?_
   rintro e w3 ⟨rfl,hb3⟩
   refine hK.out _ _ (zak hHeld hb3 hHeld.size) (fun hHeld2=>?_)
   clear hK K hb3 hHeld
   try simp only [putS]
   refine tg (i:=9) (.bool (!r)) rfl hHeld2 ?_
   refine wpAnyH_done (by kernel_rfl) ?_ _
   cases r with
   | true=>
     go_wp2_with fail
     go_roundw
     case rel=>
      refine ⟨j+1,by omega,by go_num,hHeld2,fun i hi hi2 hlt'=>?_⟩
      by_cases e:i=j
      ·subst e;exact HR.out.symm
      ·exact HA.out i hi hi2 (by omega)
     case measure=>simp [intOf];omega
   | false=>
     go_wp2_with fail
     go_ret
     exact ⟨by rw [zfx l l2 j hlt hlt2 HR.out.symm];rfl,hHeld2⟩
  ·go_wp2_with fail
   go_ret
   exact ⟨by rw [ze0 l l2 fun i h h2=>HA.out i h h2 (by omega)];rfl,hb⟩
theorem eqRowAt (l l2:List Val) (p p2:Option Addr) (cap cap2:Nat) (w:World) (hl:Held w (.slice p l.length cap) l) (hl2:Held w (.slice p2 l2.length cap2) l2) (hn:l.length≤2097152) (each:∀ v∈l,zug v):
 Calls Tryz.prog 66 #[.slice p l.length cap,.slice p2 l2.length cap2] w fun e w'=>e=.returned (.bool ((l.length == l2.length) && za3 l l2))∧Below w.heap.size w w':=by
 by_cases h:l.length=l2.length
 ·rw [show (l.length == l2.length)=true by simpa using h,Bool.true_and,← h]
  cases l with
  | nil=>
    unfold za3
    exact zwn _ _ _ _ _
  | cons v r=>
    cases l2 with
    | nil=>simp at h
    | cons v2 r2=>
      obtain ⟨g,off,rfl,hh⟩:=hl.form
      obtain ⟨g2,off2,rfl,hh2⟩:=hl2.form
      exact zwo (v::r) (v2::r2) g off cap g2 off2 cap2 w hh hh2 h.symm hn each
 ·rw [show (l.length == l2.length)=false by simpa using h,Bool.false_and]
  exact zy5 p p2 _ _ cap cap2 w h
theorem zuh (v:Val) (k:Int) (b:Bool) (n:Int) (t x:ByteArray) (q:List Val) (ev:v=.mk k b n t x q) (each:∀ u∈q,zug u):zug v:=by
 subst ev
 intro W k1 b1 n1 t1 x1 q1 p cap v2 k2 b2 n2 t2 x2 q2 p2 cap2 e1 e2 hn hl hl2
 cases e1
 subst e2
 unfold za7
 obtain ⟨c1,hc1⟩:∃ c1,c1=Obj.cells #[.int .i64 k,.bool b,.int .i64 n,.string t,.string x,.slice p q.length cap] 39:=⟨_,rfl⟩
 obtain ⟨c2,hc2⟩:∃ c2,c2=Obj.cells #[.int .i64 k2,.bool b2,.int .i64 n2,.string t2,.string x2,.slice p2 q2.length cap2] 39:=⟨_,rfl⟩
 have b0:=zdx W c1 c2
 have hc:=eqRowAt q q2 p p2 cap cap2 ((W.alloc c1).alloc c2) (Held.below q hl b0) (Held.below q2 hl2 b0) hn each
 have l0:Six ((W.alloc c1).alloc c2) W.heap.size k b n t x p q.length cap:=by rw [hc1];exact (zah _ rfl).alloc _
 have l1:Six ((W.alloc c1).alloc c2) (W.heap.size+1) k2 b2 n2 t2 x2 p2 q2.length cap2:=by rw [hc2];exact zah _ (by simp)
 have z0:=b0.size
 have f0:=l0.c0
 have f1:=l0.c1
 have f2:=l0.c2
 have f3:=l0.c3
 have f4:=l0.c4
 have f5:=l0.c5
 have g0:=l1.c0
 have g1:=l1.c1
 have g2:=l1.c2
 have g3:=l1.c3
 have g4:=l1.c4
 have g5:=l1.c5
 clear l0 l1 hl hl2 each hn
 subst hc1 hc2
 cases a0:(k == k2) with
 | false=>
   rw [Bool.false_and]
   go_enter Tryz.func32,Tryz.ntmps32
   go_wp2_with fail
   go_ret
   exact ⟨rfl,b0⟩
 | true=>
   rw [Bool.true_and]
   cases a1:(b == b2) with
   | false=>
     rw [Bool.false_and]
     go_enter Tryz.func32,Tryz.ntmps32
     go_wp2_with fail
     go_ret
     exact ⟨rfl,b0⟩
   | true=>
     rw [Bool.true_and]
     cases a2:(n == n2) with
     | false=>
       rw [Bool.false_and]
       go_enter Tryz.func32,Tryz.ntmps32
       go_wp2_with fail
       go_ret
       exact ⟨rfl,b0⟩
     | true=>
       rw [Bool.true_and]
       cases a3:(t.toList == t2.toList) with
       | false=>
         rw [Bool.false_and]
         go_enter Tryz.func32,Tryz.ntmps32
         go_wp2_with fail
         go_ret
         exact ⟨rfl,b0⟩
       | true=>
         rw [Bool.true_and]
         cases a4:(x.toList == x2.toList) with
         | false=>
           rw [Bool.false_and]
           go_enter Tryz.func32,Tryz.ntmps32
           go_wp2_with fail
           go_ret
           exact ⟨rfl,b0⟩
         | true=>
           rw [Bool.true_and]
           generalize (q.length == q2.length && za3 q q2)=r at hc ⊢
           go_enter Tryz.func32,Tryz.ntmps32
           go_wp2_with (go_at_call 66;(with_reducible refine hc.mono ?_);rintro e w3 ⟨rfl,hb3⟩;replace b0:=zak b0 hb3 z0)
           go_ret
           exact ⟨rfl,b0⟩
mutual
theorem zsv:(v:Val)→zug v
 | .mk k b n t x q=>zuh _ k b n t x q rfl (zpu q)
theorem zpu:(q:List Val)→∀ u∈q,zug u
 | [],_,h=>absurd h (by simp)
 | v::r,u,h=>by
   rcases List.mem_cons.1 h with h | h
   ·rw [h];exact zsv v
   ·exact zpu r u h
end
def znv (a b c a2 b2 c2:Val):Bool:=za7 a a2 && za7 b b2 && za7 c c2
theorem zpv (v v2:V6) (u u2:Val) (q q2:List Val) (W:World) (h:Is W v u q) (h2:Is W v2 u2 q2):
 Calls Tryz.prog 32 #[.agg #[.int .i64 v.k,.bool v.b,.int .i64 v.n,.string v.t,.string v.x,.slice v.p v.len v.cap],.agg #[.int .i64 v2.k,.bool v2.b,.int .i64 v2.n,.string v2.t,.string v2.x,.slice v2.p v2.len v2.cap]] W fun e w'=>e=.returned (.bool (za7 u u2))∧Below W.heap.size W w':=by
 obtain ⟨k,b,n,t,x,p,len,cap⟩:=v
 obtain ⟨k2,b2,n2,t2,x2,p2,len2,cap2⟩:=v2
 obtain ⟨e,hq,hf,hl⟩:=h
 obtain ⟨e2,hq2,hf2,hl2⟩:=h2
 simp only at e hq hf hl e2 hq2 hf2 hl2
 subst hq hq2
 exact zsv u W k b n t x q p cap u2 k2 b2 n2 t2 x2 q2 p2 cap2 e e2 hf.hn hl hl2
theorem eqTri (s q o s2 q2 o2:V6) (us uq uo us2 uq2 uo2:Val) (ls lq lo ls2 lq2 lo2:List Val) (W:World) (hs:Is W s us ls) (hq:Is W q uq lq) (ho:Is W o uo lo) (hs2:Is W s2 us2 ls2) (hq2:Is W q2 uq2 lq2) (ho2:Is W o2 uo2 lo2):
 Calls Tryz.prog 37 #[.agg #[.int .i64 s.k,.bool s.b,.int .i64 s.n,.string s.t,.string s.x,.slice s.p s.len s.cap,.int .i64 q.k,.bool q.b,.int .i64 q.n,.string q.t,.string q.x,.slice q.p q.len q.cap,.int .i64 o.k,.bool o.b,.int .i64 o.n,.string o.t,.string o.x,.slice o.p o.len o.cap],.agg #[.int .i64 s2.k,.bool s2.b,.int .i64 s2.n,.string s2.t,.string s2.x,.slice s2.p s2.len s2.cap,.int .i64 q2.k,.bool q2.b,.int .i64 q2.n,.string q2.t,.string q2.x,.slice q2.p q2.len q2.cap,.int .i64 o2.k,.bool o2.b,.int .i64 o2.n,.string o2.t,.string o2.x,.slice o2.p o2.len o2.cap]] W fun e w'=>e=.returned (.bool (znv us uq uo us2 uq2 uo2))∧Below W.heap.size W w':=by
 obtain ⟨W0,hW0⟩:∃ W0,W0=(W.alloc (.cells #[.int .i64 s.k,.bool s.b,.int .i64 s.n,.string s.t,.string s.x,.slice s.p s.len s.cap,.int .i64 q.k,.bool q.b,.int .i64 q.n,.string q.t,.string q.x,.slice q.p q.len q.cap,.int .i64 o.k,.bool o.b,.int .i64 o.n,.string o.t,.string o.x,.slice o.p o.len o.cap] 41)).alloc (.cells #[.int .i64 s2.k,.bool s2.b,.int .i64 s2.n,.string s2.t,.string s2.x,.slice s2.p s2.len s2.cap,.int .i64 q2.k,.bool q2.b,.int .i64 q2.n,.string q2.t,.string q2.x,.slice q2.p q2.len q2.cap,.int .i64 o2.k,.bool o2.b,.int .i64 o2.n,.string o2.t,.string o2.x,.slice o2.p o2.len o2.cap] 41):=⟨_,rfl⟩
 have B:za6 W0 W.heap.size s q o:=by rw [hW0];exact (zd5 _ rfl).alloc _
 have C:za6 W0 (W.heap.size+1) s2 q2 o2:=by rw [hW0];exact zd5 _ (by simp)
 have b0:Below W.heap.size W W0:=by rw [hW0];exact zdx _ _ _
 have hc1:=fun w (h:Below W.heap.size W w)=>zpv s s2 us us2 ls ls2 w (hs.below h) (hs2.below h)
 have hc2:=fun w (h:Below W.heap.size W w)=>zpv q q2 uq uq2 lq lq2 w (hq.below h) (hq2.below h)
 have hc3:=fun w (h:Below W.heap.size W w)=>zpv o o2 uo uo2 lo lo2 w (ho.below h) (ho2.below h)
 have HW:=Lib.hid hW0
 clear hW0 hs hq ho hs2 hq2 ho2
 unfold znv
 generalize za7 us us2=r1 at hc1 ⊢
 generalize za7 uq uq2=r2 at hc2 ⊢
 generalize za7 uo uo2=r3 at hc3 ⊢
 cases r1 with
 | false=>
   clear hc2
   clear hc3
   rw [show (false && r2 && r3)=false by simp]
   go_enter Tryz.func37,Tryz.ntmps37
   go_wp2_with (first
    |(rw [← HW.out];(with_reducible refine zam (.tmp 5) W.heap.size 0 s B.r0 ?_ ?_ ?_ ?_);rfl;rfl;rfl)
    |((with_reducible refine zam (.tmp 7) (W.heap.size+1) 0 s2 C.r0 ?_ ?_ ?_ ?_);rfl;rfl;rfl)
    |(go_at_call 32;(with_reducible refine (hc1 _ b0).mono ?_);rintro e w3 ⟨rfl,hb3⟩;replace b0:=zak b0 hb3 b0.size;replace B:=B.below hb3;replace C:=C.below hb3;clear hb3))
   go_ret
   exact ⟨rfl,b0⟩
 | true=>
   cases r2 with
   | false=>
     clear hc3
     rw [show (true && false && r3)=false by simp]
     go_enter Tryz.func37,Tryz.ntmps37
     go_wp2_with (first
      |(rw [← HW.out];(with_reducible refine zam (.tmp 5) W.heap.size 0 s B.r0 ?_ ?_ ?_ ?_);rfl;rfl;rfl)
      |((with_reducible refine zam (.tmp 7) (W.heap.size+1) 0 s2 C.r0 ?_ ?_ ?_ ?_);rfl;rfl;rfl)
      |((with_reducible refine zan (.tmp 11) W.heap.size 6 q B.r1 ?_ ?_ ?_ ?_);rfl;rfl;rfl)
      |((with_reducible refine zan (.tmp 13) (W.heap.size+1) 6 q2 C.r1 ?_ ?_ ?_ ?_);rfl;rfl;rfl)
      |(go_at_call 32;(with_reducible refine (hc1 _ b0).mono ?_);rintro e w3 ⟨rfl,hb3⟩;replace b0:=zak b0 hb3 b0.size;replace B:=B.below hb3;replace C:=C.below hb3;clear hb3)
      |(go_at_call 32;(with_reducible refine (hc2 _ b0).mono ?_);rintro e w3 ⟨rfl,hb3⟩;replace b0:=zak b0 hb3 b0.size;replace B:=B.below hb3;replace C:=C.below hb3;clear hb3))
     go_ret
     exact ⟨rfl,b0⟩
   | true=>
     cases r3 with
     | false=>
       rw [show (true && true && false)=false by simp]
       go_enter Tryz.func37,Tryz.ntmps37
       go_wp2_with (first
        |(rw [← HW.out];(with_reducible refine zam (.tmp 5) W.heap.size 0 s B.r0 ?_ ?_ ?_ ?_);rfl;rfl;rfl)
        |((with_reducible refine zam (.tmp 7) (W.heap.size+1) 0 s2 C.r0 ?_ ?_ ?_ ?_);rfl;rfl;rfl)
        |((with_reducible refine zan (.tmp 11) W.heap.size 6 q B.r1 ?_ ?_ ?_ ?_);rfl;rfl;rfl)
        |((with_reducible refine zan (.tmp 13) (W.heap.size+1) 6 q2 C.r1 ?_ ?_ ?_ ?_);rfl;rfl;rfl)
        |((with_reducible refine zan (.tmp 18) W.heap.size 12 o B.r2 ?_ ?_ ?_ ?_);rfl;rfl;rfl)
        |((with_reducible refine zan (.tmp 20) (W.heap.size+1) 12 o2 C.r2 ?_ ?_ ?_ ?_);rfl;rfl;rfl)
        |(go_at_call 32;(with_reducible refine (hc1 _ b0).mono ?_);rintro e w3 ⟨rfl,hb3⟩;replace b0:=zak b0 hb3 b0.size;replace B:=B.below hb3;replace C:=C.below hb3;clear hb3)
        |(go_at_call 32;(with_reducible refine (hc2 _ b0).mono ?_);rintro e w3 ⟨rfl,hb3⟩;replace b0:=zak b0 hb3 b0.size;replace B:=B.below hb3;replace C:=C.below hb3;clear hb3)
        |(go_at_call 32;(with_reducible refine (hc3 _ b0).mono ?_);rintro e w3 ⟨rfl,hb3⟩;replace b0:=zak b0 hb3 b0.size;replace B:=B.below hb3;replace C:=C.below hb3;clear hb3))
       go_ret
       exact ⟨rfl,b0⟩
     | true=>
       go_enter Tryz.func37,Tryz.ntmps37
       go_wp2_with (first
        |(rw [← HW.out];(with_reducible refine zam (.tmp 5) W.heap.size 0 s B.r0 ?_ ?_ ?_ ?_);rfl;rfl;rfl)
        |((with_reducible refine zam (.tmp 7) (W.heap.size+1) 0 s2 C.r0 ?_ ?_ ?_ ?_);rfl;rfl;rfl)
        |((with_reducible refine zan (.tmp 11) W.heap.size 6 q B.r1 ?_ ?_ ?_ ?_);rfl;rfl;rfl)
        |((with_reducible refine zan (.tmp 13) (W.heap.size+1) 6 q2 C.r1 ?_ ?_ ?_ ?_);rfl;rfl;rfl)
        |((with_reducible refine zan (.tmp 18) W.heap.size 12 o B.r2 ?_ ?_ ?_ ?_);rfl;rfl;rfl)
        |((with_reducible refine zan (.tmp 20) (W.heap.size+1) 12 o2 C.r2 ?_ ?_ ?_ ?_);rfl;rfl;rfl)
        |(go_at_call 32;(with_reducible refine (hc1 _ b0).mono ?_);rintro e w3 ⟨rfl,hb3⟩;replace b0:=zak b0 hb3 b0.size;replace B:=B.below hb3;replace C:=C.below hb3;clear hb3)
        |(go_at_call 32;(with_reducible refine (hc2 _ b0).mono ?_);rintro e w3 ⟨rfl,hb3⟩;replace b0:=zak b0 hb3 b0.size;replace B:=B.below hb3;replace C:=C.below hb3;clear hb3)
        |(go_at_call 32;(with_reducible refine (hc3 _ b0).mono ?_);rintro e w3 ⟨rfl,hb3⟩;replace b0:=zak b0 hb3 b0.size;replace B:=B.below hb3;replace C:=C.below hb3;clear hb3))
       go_ret
       exact ⟨rfl,b0⟩
structure Tri3 where
 s:Val
 p:Val
 o:Val
def Tri3.l (t:Tri3):List Val:=[t.s,t.p,t.o]
def flat (l:List Tri3):List Val:=l.flatMap Tri3.l
theorem zdp:flat []=[]:=rfl
theorem zbv (t:Tri3) (l:List Tri3):flat (t::l)=t.s::t.p::t.o::flat l:=rfl
theorem ziy:(l:List Tri3)→(flat l).length=3*l.length
 | []=>rfl
 | t::l=>by rw [zbv];simp only [List.length_cons];rw [ziy l];omega
theorem zld:(l:List Tri3)→(j:Nat)→(h:j < l.length)→(flat l)[3*j]?=some l[j].s∧(flat l)[3*j+1]?=some l[j].p∧(flat l)[3*j+2]?=some l[j].o
 | [],_,h=>absurd h (by simp)
 | t::l,0,_=>⟨rfl,rfl,rfl⟩
 | t::l,j+1,h=>by
   have r:=zld l j (by simpa using h)
   rw [zbv,show 3*(j+1)=3*j+3 by omega]
   simp only [List.getElem_cons_succ]
   exact r
def Tris (W:World) (L:Value) (l:List Tri3):Prop:=
 ∃ p cap,L=.slice p l.length cap∧(l≠[]→∃ g off,p=some ⟨g,off,none⟩∧zaq W g off (flat l))
theorem Tris.below {W W':World} {L:Value} {l:List Tri3} (h:Tris W L l) (b:Below W.heap.size W W'):Tris W' L l:=by
 obtain ⟨p,cap,e,k⟩:=h
 refine ⟨p,cap,e,fun hn=>?_⟩
 obtain ⟨g,off,e2,k2⟩:=k hn
 exact ⟨g,off,e2,zaq.below _ k2 b⟩
theorem isOf {W:World} {g off:Nat} {u:Val} (h:zax W g off u):∃ v:V6,∃ q,Is W v u q∧W.rangeAt g off [.int .i64 v.k,.bool v.b,.int .i64 v.n,.string v.t,.string v.x,.slice v.p v.len v.cap]:=by
 obtain ⟨k,b,n,t,x,q,p,cp,o1⟩:=h.opens
 exact ⟨⟨k,b,n,t,x,p,q.length,cp⟩,q,⟨o1.e,rfl,o1.hf,o1.hl⟩,zb3 o1.c0 o1.c1 o1.c2 o1.c3 o1.c4 o1.c5⟩
theorem zdk {W:World} {g off:Nat} {l:List Tri3} (h:zaq W g off (flat l)) (j:Nat) (hj:j < l.length):
 ∃ s p o:V6,∃ ls lp lo,Is W s l[j].s ls∧Is W p l[j].p lp∧Is W o l[j].o lo∧
  W.rangeAt g (off+j*18) [.int .i64 s.k,.bool s.b,.int .i64 s.n,.string s.t,.string s.x,.slice s.p s.len s.cap,.int .i64 p.k,.bool p.b,.int .i64 p.n,.string p.t,.string p.x,.slice p.p p.len p.cap,.int .i64 o.k,.bool o.b,.int .i64 o.n,.string o.t,.string o.x,.slice o.p o.len o.cap]:=by
 have hl:=ziy l
 obtain ⟨e0,e1,e2⟩:=zld l j hj
 have h0:=zaq.at_ (flat l) off h (3*j) (by omega)
 have h1:=zaq.at_ (flat l) off h (3*j+1) (by omega)
 have h2:=zaq.at_ (flat l) off h (3*j+2) (by omega)
 rw [List.getElem?_eq_getElem (by omega)] at e0 e1 e2
 rw [Option.some.inj e0,show off+3*j*6=off+j*18 by omega] at h0
 rw [Option.some.inj e1,show off+(3*j+1)*6=off+j*18+6 by omega] at h1
 rw [Option.some.inj e2,show off+(3*j+2)*6=off+j*18+12 by omega] at h2
 obtain ⟨s,ls,hs,rs⟩:=isOf h0
 obtain ⟨p,lp,hp,rp⟩:=isOf h1
 obtain ⟨o,lo,ho,ro⟩:=isOf h2
 refine ⟨s,p,o,ls,lp,lo,hs,hp,ho,?_⟩
 intro i v hv
 match i,hv with
 | 0,e=>exact rs 0 v e
 | 1,e=>exact rs 1 v e
 | 2,e=>exact rs 2 v e
 | 3,e=>exact rs 3 v e
 | 4,e=>exact rs 4 v e
 | 5,e=>exact rs 5 v e
 | 6,e=>have:=rp 0 v e;simpa [Nat.add_assoc] using this
 | 7,e=>have:=rp 1 v e;simpa [Nat.add_assoc] using this
 | 8,e=>have:=rp 2 v e;simpa [Nat.add_assoc] using this
 | 9,e=>have:=rp 3 v e;simpa [Nat.add_assoc] using this
 | 10,e=>have:=rp 4 v e;simpa [Nat.add_assoc] using this
 | 11,e=>have:=rp 5 v e;simpa [Nat.add_assoc] using this
 | 12,e=>have:=ro 0 v e;simpa [Nat.add_assoc] using this
 | 13,e=>have:=ro 1 v e;simpa [Nat.add_assoc] using this
 | 14,e=>have:=ro 2 v e;simpa [Nat.add_assoc] using this
 | 15,e=>have:=ro 3 v e;simpa [Nat.add_assoc] using this
 | 16,e=>have:=ro 4 v e;simpa [Nat.add_assoc] using this
 | 17,e=>have:=ro 5 v e;simpa [Nat.add_assoc] using this
 | i+18,e=>simp at e
theorem zaf {W W':World} {g off:Nat} {cs:List Value} (h:W.rangeAt g off cs) (b:Below W.heap.size W W'):W'.rangeAt g off cs:=
 fun i v hv=>(b.cell (p:=⟨g,off+i,none⟩) (World.block_lt_of_cell? W _ (h i v hv))).trans (h i v hv)
def zik (a b:Tri3):Bool:=znv a.s a.p a.o b.s b.p b.o
def zdv:List Tri3→List Tri3→Bool
 | a::l,b::m=>zik a b && zdv l m
 | _,_=>true
theorem zm4:(l m:List Tri3)→(j:Nat)→(h:j < l.length)→(h2:j < m.length)→zik l[j] m[j]=false→zdv l m=false
 | [],_,_,h,_,_=>absurd h (by simp)
 | _::_,[],_,_,h,_=>absurd h (by simp)
 | a::l,b::m,0,_,_,e=>by
   simp only [List.getElem_cons_zero] at e
   rw [zdv,e,Bool.false_and]
 | a::l,b::m,j+1,h,h2,e=>by
   rw [zdv,zm4 l m j (by simpa using h) (by simpa using h2) (by simpa using e),Bool.and_false]
theorem zf1:(l m:List Tri3)→(∀ (i:Nat) (h:i < l.length) (h2:i < m.length),zik l[i] m[i]=true)→zdv l m=true
 | [],m,_=>by cases m <;> rfl
 | _::_,[],_=>rfl
 | a::l,b::m,e=>by
   have h0:=e 0 (by simp) (by simp)
   simp only [List.getElem_cons_zero] at h0
   rw [zdv,h0,Bool.true_and]
   exact zf1 l m fun i h h2=>e (i+1) (by simpa using h) (by simpa using h2)
theorem zwp (p p2:Option Addr) (n n2 cap cap2:Nat) (w:World) (h:¬ n=n2):
 Calls Tryz.prog 12 #[.slice p n cap,.slice p2 n2 cap2] w fun e w'=>e=.returned (.bool false)∧Below w.heap.size w w':=by
 have h1:((n:Int) != n2)=true:=by simp;omega
 clear h
 go_enter Tryz.func12,Tryz.ntmps12
 go_wp2_with fail
 go_ret
 exact ⟨rfl,Below.refl _ _⟩
theorem zui (p p2:Option Addr) (cap cap2:Nat) (w:World):
 Calls Tryz.prog 12 #[.slice p 0 cap,.slice p2 0 cap2] w fun e w'=>e=.returned (.bool true)∧Below w.heap.size w w':=by
 go_enter Tryz.func12,Tryz.ntmps12
 go_wp2_with fail
 go_loopw [5] (fun i wr=>i=.int .i64 0∧wr=w) (fun _ _=>0)
 case atStart=>exact ⟨rfl,rfl⟩
 case round=>
  obtain ⟨rfl,rfl⟩:=hrel
  go_wp2_with fail
  go_ret
  exact ⟨rfl,Below.refl _ _⟩
theorem zuj (l l2:List Tri3) (g off cap g2 off2 cap2:Nat) (w:World) (hl:zaq w g off (flat l)) (hl2:zaq w g2 off2 (flat l2)) (hlen:l2.length=l.length) (hn:l.length≤2097152):
 Calls Tryz.prog 12 #[.slice (some ⟨g,off,none⟩) l.length cap,.slice (some ⟨g2,off2,none⟩) l.length cap2] w fun e w'=>e=.returned (.bool (zdv l l2))∧Below w.heap.size w w':=by
 have HH:=Lib.hid hl
 have HH2:=Lib.hid hl2
 have HL:=Lib.hid hlen
 clear hl hl2 hlen
 go_enter Tryz.func12,Tryz.ntmps12
 go_wp2_with fail
 go_loopw [5] (fun i wr=>∃ j:Nat,j≤l.length∧i=.int .i64 j∧Below w.heap.size w wr∧∀ (i:Nat) (h:i < l.length) (h2:i < l2.length),i < j→zik l[i] l2[i]=true) (fun i _=>l.length - (intOf i).toNat)
 case atStart=>exact ⟨0,Nat.zero_le _,rfl,Below.refl _ _,fun _ _ _ h=>absurd h (by omega)⟩
 case round=>
  obtain ⟨j,hj,rfl,hb,hall⟩:=hrel
  have HA:=Lib.hid hall
  clear hall
  by_cases hlt:j < l.length
  ·have hlt2:j < l2.length:=by have:=HL.out;omega
   obtain ⟨a1,a2,a3,q1,q2,q3,i1,i2,i3,ra⟩:=zdk HH.out j hlt
   obtain ⟨b1,b2,b3,p1,p2,p3,k1,k2,k3,rb⟩:=zdk HH2.out j hlt2
   have hc:∀ W,Below w.heap.size w W→Calls Tryz.prog 37 #[.agg #[.int .i64 a1.k,.bool a1.b,.int .i64 a1.n,.string a1.t,.string a1.x,.slice a1.p a1.len a1.cap,.int .i64 a2.k,.bool a2.b,.int .i64 a2.n,.string a2.t,.string a2.x,.slice a2.p a2.len a2.cap,.int .i64 a3.k,.bool a3.b,.int .i64 a3.n,.string a3.t,.string a3.x,.slice a3.p a3.len a3.cap],.agg #[.int .i64 b1.k,.bool b1.b,.int .i64 b1.n,.string b1.t,.string b1.x,.slice b1.p b1.len b1.cap,.int .i64 b2.k,.bool b2.b,.int .i64 b2.n,.string b2.t,.string b2.x,.slice b2.p b2.len b2.cap,.int .i64 b3.k,.bool b3.b,.int .i64 b3.n,.string b3.t,.string b3.x,.slice b3.p b3.len b3.cap]] W fun e w'=>e=.returned (.bool (zik l[j] l2[j]))∧Below W.heap.size W w':=fun W hb=>eqTri a1 a2 a3 b1 b2 b3 _ _ _ _ _ _ q1 q2 q3 p1 p2 p3 W (i1.below hb) (i2.below hb) (i3.below hb) (k1.below hb) (k2.below hb) (k3.below hb)
   obtain ⟨r,hr⟩:∃ r,r=zik l[j] l2[j]:=⟨_,rfl⟩
   rw [← hr] at hc
   have R1:∀ w',Below w.heap.size w w'→w'.rangeAt g (off+j*18) [.int .i64 a1.k,.bool a1.b,.int .i64 a1.n,.string a1.t,.string a1.x,.slice a1.p a1.len a1.cap,.int .i64 a2.k,.bool a2.b,.int .i64 a2.n,.string a2.t,.string a2.x,.slice a2.p a2.len a2.cap,.int .i64 a3.k,.bool a3.b,.int .i64 a3.n,.string a3.t,.string a3.x,.slice a3.p a3.len a3.cap]:=fun w' h=>zaf ra h
   have R2:∀ w',Below w.heap.size w w'→w'.rangeAt g2 (off2+j*18) [.int .i64 b1.k,.bool b1.b,.int .i64 b1.n,.string b1.t,.string b1.x,.slice b1.p b1.len b1.cap,.int .i64 b2.k,.bool b2.b,.int .i64 b2.n,.string b2.t,.string b2.x,.slice b2.p b2.len b2.cap,.int .i64 b3.k,.bool b3.b,.int .i64 b3.n,.string b3.t,.string b3.x,.slice b3.p b3.len b3.cap]:=fun w' h=>zaf rb h
   have HC:=Lib.hid hc
   have HR:=Lib.hid hr
   have HR1:=Lib.hid R1
   have HR2:=Lib.hid R2
   clear i1 i2 i3 k1 k2 k3 ra rb hr hc R1 R2
   have hlti:(j:Int) < l.length:=by omega
   go_wp2_with fail
   refine wp_region_held_drew (S:=fun w'=>Below w.heap.size w w') (by kernel_rfl) hb.drew (fun hHeld=>?_)
   refine tg (i:=0) (.slice (some ⟨g,off,none⟩) l.length cap) rfl hHeld ?_
   refine tg (i:=1) (.int .i64 j) rfl hHeld ?_
   refine tg (i:=2) (.pointer (some ⟨g,off+j*18,none⟩)) rfl hHeld ?_
   refine tk (i:=3) rfl (yieldsIf_load_mid (by rfl) 41 (.tmp 19) rfl g (off+j*18) rfl _ _ (fun w h=>HR1.out w h) Tryz.underlying41 rfl zb7) hHeld ?_
   refine tg (i:=4) (.slice (some ⟨g2,off2,none⟩) l.length cap2) rfl hHeld ?_
   refine tg (i:=5) (.int .i64 j) rfl hHeld ?_
   refine tg (i:=6) (.pointer (some ⟨g2,off2+j*18,none⟩)) rfl hHeld ?_
   refine tk (i:=7) rfl (yieldsIf_load_mid (by rfl) 41 (.tmp 23) rfl g2 (off2+j*18) rfl _ _ (fun w h=>HR2.out w h) Tryz.underlying41 rfl zb7) hHeld ?_
   refine tr 8 rfl (fun K hK=>?_)
   rw [if_pos (by rfl)]
   go_simp
   refine (HC.out _ hHeld).mono ?_
   rintro e w3 ⟨rfl,hb3⟩
   refine hK.out _ _ (zak hHeld hb3 hHeld.size) (fun hHeld2=>?_)
   clear hK K hb3 hHeld
   try simp only [putS]
   refine tg (i:=9) (.bool (!r)) rfl hHeld2 ?_
   refine wpAnyH_done (by kernel_rfl) ?_ _
   cases r with
   | true=>
     go_wp2_with fail
     go_roundw
     case rel=>
      refine ⟨j+1,by omega,by go_num,hHeld2,fun i hi hi2 hlt'=>?_⟩
      by_cases e:i=j
      ·subst e;exact HR.out.symm
      ·exact HA.out i hi hi2 (by omega)
     case measure=>simp [intOf];omega
   | false=>
     go_wp2_with fail
     go_ret
     exact ⟨by rw [zm4 l l2 j hlt hlt2 HR.out.symm];rfl,hHeld2⟩
  ·go_wp2_with fail
   go_ret
   exact ⟨by rw [zf1 l l2 fun i h h2=>HA.out i h h2 (by omega)];rfl,hb⟩
theorem zeg (l l2:List Tri3) (L L2:Value) (w:World) (hl:Tris w L l) (hl2:Tris w L2 l2) (hn:l.length≤2097152):
 Calls Tryz.prog 12 #[L,L2] w fun e w'=>e=.returned (.bool ((l.length == l2.length) && zdv l l2))∧Below w.heap.size w w':=by
 obtain ⟨p,cap,rfl,h1⟩:=hl
 obtain ⟨p2,cap2,rfl,h2⟩:=hl2
 by_cases h:l.length=l2.length
 ·rw [show (l.length == l2.length)=true by simpa using h,Bool.true_and,← h]
  cases l with
  | nil=>
    unfold zdv
    exact zui _ _ _ _ _
  | cons v r=>
    cases l2 with
    | nil=>simp at h
    | cons v2 r2=>
      obtain ⟨g,off,rfl,hh⟩:=h1 (by simp)
      obtain ⟨g2,off2,rfl,hh2⟩:=h2 (by simp)
      exact zuj (v::r) (v2::r2) g off cap g2 off2 cap2 w hh hh2 h.symm hn
 ·rw [show (l.length == l2.length)=false by simpa using h,Bool.false_and]
  exact zwp p p2 _ _ cap cap2 w h
end Go.Proofs.YtanbgdhmfjgihaaGreatDoor
