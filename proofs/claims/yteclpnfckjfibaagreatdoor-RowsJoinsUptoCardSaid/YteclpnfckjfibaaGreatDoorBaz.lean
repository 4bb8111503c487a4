/- Texts of one kind, one behind the other: each says ahead of itself what it shows. -/
import Derived.Test.YteclpnfckjfibaaGreatDoorBay
import Derived.Test.YteclpnfckjfibaaGreatDoorBae
import Derived.Test.YteclpnfckjfibaaGreatDoorRows
import Derived.ProofKit
import Derived.OpenShut
import Derived.Carry
import Derived.Test.YteclpnfckjfibaaGreatDoorBam
/- LQ -/
namespace Go.Proofs.YteclpnfckjfibaaGreatDoor
open Go.RowKit
theorem zbs {w:World} {g:Nat} {c:Array Value} {t:TypeId} (h:w.heap[g]?=some (.cells c t)) (pre post:List Value) {xs:List Value} (e:c=(pre++xs++post).toArray):w.rangeAt g pre.length xs:=
 zb5 h _ _ fun j u hu=>by
  subst e
  rw [List.getElem?_toArray,List.append_assoc,List.getElem?_append_right (by omega),show pre.length+j - pre.length=j by omega,List.getElem?_append_left (List.getElem?_eq_some_iff.1 hu).1]
  exact hu
structure zq9 (W:World) (a b:TabL) (VA RA VB RB:Value):Prop where
 ha:tabE.rel W (Old W) [VA,RA] a
 hb:tabE.rel W (Old W) [VB,RB] b
 wa:∀ r∈a.rows,wAll r≤2097152
 wb:∀ r∈b.rows,wAll r≤2097152
theorem zq9.below {W W':World} {a b:TabL} {VA RA VB RB:Value} (h:zq9 W a b VA RA VB RB) (k:Below W.heap.size W W'):zq9 W' a b VA RA VB RB:=⟨tabE.stays (zad k) h.ha,tabE.stays (zad k) h.hb,h.wa,h.wb⟩
set_option maxHeartbeats 6400000 in
set_option maxRecDepth 20000 in
theorem lightAt (a b:TabL) (VA RA VB RB VV NN:Value) (lang:Int) (W:World) (h:zq9 W a b VA RA VB RB):Calls Tryz.prog 10 #[.agg #[VA,RA,VB,RB,VV,.int .i64 lang,NN]] W fun e w'=>e=.returned (.bool (zhc a b))∧Below W.heap.size W w':=by
 obtain ⟨V',R',e,hva,hra,hcva,hcra,hlva,hlra⟩:=h.ha
 cases e
 obtain ⟨V',R',e,hvb,hrb,hcvb,hcrb,hlvb,hlrb⟩:=h.hb
 cases e
 obtain ⟨pA,kA,rfl⟩:=hva.slice
 obtain ⟨qA,lA,rfl⟩:=hra.slice
 obtain ⟨pB,kB,rfl⟩:=hvb.slice
 obtain ⟨qB,lB,rfl⟩:=hrb.slice
 obtain ⟨W1,hW1⟩:∃ W1,W1=W.alloc (.cells #[.slice pA a.vars.length kA,.slice qA a.rows.length lA,.slice pB b.vars.length kB,.slice qB b.rows.length lB,VV,.int .i64 lang,NN] 28):=⟨_,rfl⟩
 have b1:Below W.heap.size W W1:=by rw [hW1];exact zaz _ _
 obtain ⟨g0,hg0⟩:∃ g0,g0=W.heap.size:=⟨_,rfl⟩
 have u1:W1.heap[g0]?=some (.cells #[.slice pA a.vars.length kA,.slice qA a.rows.length lA,.slice pB b.vars.length kB,.slice qB b.rows.length lB,VV,.int .i64 lang,NN] 28):=by rw [hW1,hg0];exact zah _ _ rfl
 have HA:=Lib.hid (zmr _ a.rows W1 (hra.stays (zad b1)) hlra)
 have HB:Hid (∀ w',Below W1.heap.size W1 w'→Calls Tryz.prog 48 #[.slice qB b.rows.length lB] w' fun e w2=>e=.returned (.int .i64 (zbx b.rows 0))∧Below w'.heap.size w' w2):=Lib.hid fun w' k=>zmr _ b.rows w' (hrb.stays (zad (zab b1 k b1.size))) hlrb
 have HW:=Lib.hid hW1
 have HG0:=Lib.hid hg0
 have HB1:=Lib.hid b1
 obtain ⟨r,hr⟩:∃ r,r=zhc a b:=⟨_,rfl⟩
 have hr2:=hr
 unfold zhc at hr2
 rw [← hr]
 have HR:=Lib.hid hr2
 have a1:=zac u1 1 rfl
 clear hva hra hvb hrb hcva hcra hcvb hcrb hW1 b1 hr hr2 h hg0
 generalize zbx a.rows 0=z1 at*
 generalize zbx b.rows 0=z2 at*
 generalize a.rows.length=n1 at*
 generalize b.rows.length=n2 at*
 generalize a.vars.length=m1 at*
 generalize b.vars.length=m2 at*
 by_cases h0:z1≤3000
 ·by_cases h1:z2≤3000
  ·by_cases h2:n1≤60
   ·by_cases h3:n2≤60
    ·by_cases h4:m1≤100
     ·by_cases h5:m2≤100
      ·obtain rfl:r=true:=by rw [HR.out,decide_eq_true (h0:(z1≤3000)),decide_eq_true (h1:(z2≤3000)),decide_eq_true (h2:(n1≤60)),decide_eq_true (h3:(n2≤60)),decide_eq_true (h4:(m1≤100)),decide_eq_true (h5:(m2≤100))];rfl
       clear HR
       have x0:decide (z1≤3000)=true:=decide_eq_true (by omega)
       have x1:decide (z2≤3000)=true:=decide_eq_true (by omega)
       have x2:decide ((n1:Int)≤60)=true:=decide_eq_true (by omega)
       have x3:decide ((n2:Int)≤60)=true:=decide_eq_true (by omega)
       have x4:decide ((m1:Int)≤100)=true:=decide_eq_true (by omega)
       have x5:decide ((m2:Int)≤100)=true:=decide_eq_true (by omega)
       go_enter Tryz.func10,Tryz.ntmps10
       go_upto_region 1 with fail
       rw [← HW.out,← HG0.out]
       go_wp2_with (first
        |(go_at_call 48;(with_reducible refine HA.out.mono ?_);rintro e w1 ⟨rfl,hb1⟩;have v1:=(hb1.block _ (zaa u1)).trans u1;have a3:=zac v1 3 rfl)
        |(go_at_call 48;(with_reducible refine (HB.out _ hb1).mono ?_);rintro e w2 ⟨rfl,hb2⟩;have v2:=(hb2.block _ (zaa v1)).trans v1;have d1:=zac v2 1 rfl;have d3:=zac v2 3 rfl;have d0:=zac v2 0 rfl;have d2:=zac v2 2 rfl))
       go_ret
       exact ⟨rfl,HB1.out.trans ((hb1.trans (hb2.mono hb1.size)).mono HB1.out.size)⟩
      ·obtain rfl:r=false:=by rw [HR.out,decide_eq_true (h0:(z1≤3000)),decide_eq_true (h1:(z2≤3000)),decide_eq_true (h2:(n1≤60)),decide_eq_true (h3:(n2≤60)),decide_eq_true (h4:(m1≤100)),decide_eq_false (h5:¬ (m2≤100))];rfl
       clear HR
       have x0:decide (z1≤3000)=true:=decide_eq_true (by omega)
       have x1:decide (z2≤3000)=true:=decide_eq_true (by omega)
       have x2:decide ((n1:Int)≤60)=true:=decide_eq_true (by omega)
       have x3:decide ((n2:Int)≤60)=true:=decide_eq_true (by omega)
       have x4:decide ((m1:Int)≤100)=true:=decide_eq_true (by omega)
       have x5:decide ((m2:Int)≤100)=false:=decide_eq_false (by omega)
       go_enter Tryz.func10,Tryz.ntmps10
       go_upto_region 1 with fail
       rw [← HW.out,← HG0.out]
       go_wp2_with (first
        |(go_at_call 48;(with_reducible refine HA.out.mono ?_);rintro e w1 ⟨rfl,hb1⟩;have v1:=(hb1.block _ (zaa u1)).trans u1;have a3:=zac v1 3 rfl)
        |(go_at_call 48;(with_reducible refine (HB.out _ hb1).mono ?_);rintro e w2 ⟨rfl,hb2⟩;have v2:=(hb2.block _ (zaa v1)).trans v1;have d1:=zac v2 1 rfl;have d3:=zac v2 3 rfl;have d0:=zac v2 0 rfl;have d2:=zac v2 2 rfl))
       go_ret
       exact ⟨rfl,HB1.out.trans ((hb1.trans (hb2.mono hb1.size)).mono HB1.out.size)⟩
     ·obtain rfl:r=false:=by rw [HR.out,decide_eq_true (h0:(z1≤3000)),decide_eq_true (h1:(z2≤3000)),decide_eq_true (h2:(n1≤60)),decide_eq_true (h3:(n2≤60)),decide_eq_false (h4:¬ (m1≤100))];rfl
      clear HR
      have x0:decide (z1≤3000)=true:=decide_eq_true (by omega)
      have x1:decide (z2≤3000)=true:=decide_eq_true (by omega)
      have x2:decide ((n1:Int)≤60)=true:=decide_eq_true (by omega)
      have x3:decide ((n2:Int)≤60)=true:=decide_eq_true (by omega)
      have x4:decide ((m1:Int)≤100)=false:=decide_eq_false (by omega)
      go_enter Tryz.func10,Tryz.ntmps10
      go_upto_region 1 with fail
      rw [← HW.out,← HG0.out]
      go_wp2_with (first
       |(go_at_call 48;(with_reducible refine HA.out.mono ?_);rintro e w1 ⟨rfl,hb1⟩;have v1:=(hb1.block _ (zaa u1)).trans u1;have a3:=zac v1 3 rfl)
       |(go_at_call 48;(with_reducible refine (HB.out _ hb1).mono ?_);rintro e w2 ⟨rfl,hb2⟩;have v2:=(hb2.block _ (zaa v1)).trans v1;have d1:=zac v2 1 rfl;have d3:=zac v2 3 rfl;have d0:=zac v2 0 rfl;have d2:=zac v2 2 rfl))
      go_ret
      exact ⟨rfl,HB1.out.trans ((hb1.trans (hb2.mono hb1.size)).mono HB1.out.size)⟩
    ·obtain rfl:r=false:=by rw [HR.out,decide_eq_true (h0:(z1≤3000)),decide_eq_true (h1:(z2≤3000)),decide_eq_true (h2:(n1≤60)),decide_eq_false (h3:¬ (n2≤60))];rfl
     clear HR
     have x0:decide (z1≤3000)=true:=decide_eq_true (by omega)
     have x1:decide (z2≤3000)=true:=decide_eq_true (by omega)
     have x2:decide ((n1:Int)≤60)=true:=decide_eq_true (by omega)
     have x3:decide ((n2:Int)≤60)=false:=decide_eq_false (by omega)
     go_enter Tryz.func10,Tryz.ntmps10
     go_upto_region 1 with fail
     rw [← HW.out,← HG0.out]
     go_wp2_with (first
      |(go_at_call 48;(with_reducible refine HA.out.mono ?_);rintro e w1 ⟨rfl,hb1⟩;have v1:=(hb1.block _ (zaa u1)).trans u1;have a3:=zac v1 3 rfl)
      |(go_at_call 48;(with_reducible refine (HB.out _ hb1).mono ?_);rintro e w2 ⟨rfl,hb2⟩;have v2:=(hb2.block _ (zaa v1)).trans v1;have d1:=zac v2 1 rfl;have d3:=zac v2 3 rfl;have d0:=zac v2 0 rfl;have d2:=zac v2 2 rfl))
     go_ret
     exact ⟨rfl,HB1.out.trans ((hb1.trans (hb2.mono hb1.size)).mono HB1.out.size)⟩
   ·obtain rfl:r=false:=by rw [HR.out,decide_eq_true (h0:(z1≤3000)),decide_eq_true (h1:(z2≤3000)),decide_eq_false (h2:¬ (n1≤60))];rfl
    clear HR
    have x0:decide (z1≤3000)=true:=decide_eq_true (by omega)
    have x1:decide (z2≤3000)=true:=decide_eq_true (by omega)
    have x2:decide ((n1:Int)≤60)=false:=decide_eq_false (by omega)
    go_enter Tryz.func10,Tryz.ntmps10
    go_upto_region 1 with fail
    rw [← HW.out,← HG0.out]
    go_wp2_with (first
     |(go_at_call 48;(with_reducible refine HA.out.mono ?_);rintro e w1 ⟨rfl,hb1⟩;have v1:=(hb1.block _ (zaa u1)).trans u1;have a3:=zac v1 3 rfl)
     |(go_at_call 48;(with_reducible refine (HB.out _ hb1).mono ?_);rintro e w2 ⟨rfl,hb2⟩;have v2:=(hb2.block _ (zaa v1)).trans v1;have d1:=zac v2 1 rfl;have d3:=zac v2 3 rfl;have d0:=zac v2 0 rfl;have d2:=zac v2 2 rfl))
    go_ret
    exact ⟨rfl,HB1.out.trans ((hb1.trans (hb2.mono hb1.size)).mono HB1.out.size)⟩
  ·obtain rfl:r=false:=by rw [HR.out,decide_eq_true (h0:(z1≤3000)),decide_eq_false (h1:¬ (z2≤3000))];rfl
   clear HR
   have x0:decide (z1≤3000)=true:=decide_eq_true (by omega)
   have x1:decide (z2≤3000)=false:=decide_eq_false (by omega)
   go_enter Tryz.func10,Tryz.ntmps10
   go_upto_region 1 with fail
   rw [← HW.out,← HG0.out]
   go_wp2_with (first
    |(go_at_call 48;(with_reducible refine HA.out.mono ?_);rintro e w1 ⟨rfl,hb1⟩;have v1:=(hb1.block _ (zaa u1)).trans u1;have a3:=zac v1 3 rfl)
    |(go_at_call 48;(with_reducible refine (HB.out _ hb1).mono ?_);rintro e w2 ⟨rfl,hb2⟩;have v2:=(hb2.block _ (zaa v1)).trans v1;have d1:=zac v2 1 rfl;have d3:=zac v2 3 rfl;have d0:=zac v2 0 rfl;have d2:=zac v2 2 rfl))
   go_ret
   exact ⟨rfl,HB1.out.trans ((hb1.trans (hb2.mono hb1.size)).mono HB1.out.size)⟩
 ·obtain rfl:r=false:=by rw [HR.out,decide_eq_false (h0:¬ (z1≤3000))];rfl
  clear HR
  have x0:decide (z1≤3000)=false:=decide_eq_false (by omega)
  go_enter Tryz.func10,Tryz.ntmps10
  go_upto_region 1 with fail
  rw [← HW.out,← HG0.out]
  go_wp2_with (first
   |(go_at_call 48;(with_reducible refine HA.out.mono ?_);rintro e w1 ⟨rfl,hb1⟩;have v1:=(hb1.block _ (zaa u1)).trans u1;have a3:=zac v1 3 rfl)
   |(go_at_call 48;(with_reducible refine (HB.out _ hb1).mono ?_);rintro e w2 ⟨rfl,hb2⟩;have v2:=(hb2.block _ (zaa v1)).trans v1;have d1:=zac v2 1 rfl;have d3:=zac v2 3 rfl;have d0:=zac v2 0 rfl;have d2:=zac v2 2 rfl))
  go_ret
  exact ⟨rfl,HB1.out.trans (hb1.mono HB1.out.size)⟩
def mayB (a b:TabL):Bool:=zhc a b && tabP a && tabP b && decide (a.vars.length+b.vars.length≤64) && decide (a.rows.length*b.rows.length≤900)
theorem zwo {a b:TabL} (h:mayB a b=true) (ha:∀ r∈a.rows,wAll r≤2097152) (hb:∀ r∈b.rows,wAll r≤2097152):
 tabP a=true∧tabP b=true∧a.vars.length+b.vars.length≤64∧a.rows.length*b.rows.length≤900∧zcq a.rows∧zcq b.rows∧a.rows.length≤60∧b.rows.length≤60:=by
 unfold mayB at h
 simp only [Bool.and_eq_true,decide_eq_true_eq] at h
 obtain ⟨⟨⟨⟨h1,h2⟩,h3⟩,h4⟩,h5⟩:=h
 have h6:=zf5 h1 ha hb
 exact ⟨h2,h3,h4,h5,h6.1,h6.2.1,h6.2.2.1,h6.2.2.2⟩
theorem zee:(Tryz.prog.info? 28).map (·.size)=some 7:=by kernel_rfl
set_option maxHeartbeats 6400000 in
set_option maxRecDepth 20000 in
theorem mayAt (a b:TabL) (VA RA VB RB VV NN:Value) (lang:Int) (W:World) (h:zq9 W a b VA RA VB RB) (hV:VV.oneCell'=true) (hN:NN.oneCell'=true):Calls Tryz.prog 37 #[.agg #[VA,RA,VB,RB,VV,.int .i64 lang,NN]] W fun e w'=>e=.returned (.bool (mayB a b))∧Below W.heap.size W w':=by
 have HL:Hid (∀ w',Below W.heap.size W w'→Calls Tryz.prog 10 #[.agg #[VA,RA,VB,RB,VV,.int .i64 lang,NN]] w' fun e w2=>e=.returned (.bool (zhc a b))∧Below w'.heap.size w' w2):=Lib.hid fun w' k=>lightAt a b _ _ _ _ _ _ lang w' (h.below k)
 have HMA:Hid (∀ w',Below W.heap.size W w'→Calls Tryz.prog 13 #[.agg #[VA,RA]] w' fun e w2=>e=.returned (.bool (tabP a))∧Below w'.heap.size w' w2):=Lib.hid fun w' k=>zpv a _ _ w' (h.below k).ha
 have HMB:Hid (∀ w',Below W.heap.size W w'→Calls Tryz.prog 13 #[.agg #[VB,RB]] w' fun e w2=>e=.returned (.bool (tabP b))∧Below w'.heap.size w' w2):=Lib.hid fun w' k=>zpv b _ _ w' (h.below k).hb
 have HS:Hid (zhc a b=true→a.rows.length≤60∧b.rows.length≤60):=Lib.hid fun q=>⟨(zf5 q h.wa h.wb).2.2.1,(zf5 q h.wa h.wb).2.2.2⟩
 obtain ⟨V',R',e,hva,hra,hcva,hcra,hlva,hlra⟩:=h.ha
 cases e
 obtain ⟨V',R',e,hvb,hrb,hcvb,hcrb,hlvb,hlrb⟩:=h.hb
 cases e
 obtain ⟨pA,kA,rfl⟩:=hva.slice
 obtain ⟨qA,lA,rfl⟩:=hra.slice
 obtain ⟨pB,kB,rfl⟩:=hvb.slice
 obtain ⟨qB,lB,rfl⟩:=hrb.slice
 obtain ⟨W1,hW1⟩:∃ W1,W1=W.alloc (.cells #[.slice pA a.vars.length kA,.slice qA a.rows.length lA,.slice pB b.vars.length kB,.slice qB b.rows.length lB,VV,.int .i64 lang,NN] 28):=⟨_,rfl⟩
 have b1:Below W.heap.size W W1:=by rw [hW1];exact zaz _ _
 obtain ⟨g0,hg0⟩:∃ g0,g0=W.heap.size:=⟨_,rfl⟩
 have u1:W1.heap[g0]?=some (.cells #[.slice pA a.vars.length kA,.slice qA a.rows.length lA,.slice pB b.vars.length kB,.slice qB b.rows.length lB,VV,.int .i64 lang,NN] 28):=by rw [hW1,hg0];exact zah _ _ rfl
 have HW:=Lib.hid hW1
 have HG0:=Lib.hid hg0
 have hbw:=b1
 obtain ⟨r,hr⟩:∃ r,r=mayB a b:=⟨_,rfl⟩
 have hr2:=hr
 unfold mayB at hr2
 rw [← hr]
 have HR:=Lib.hid hr2
 clear hva hra hvb hrb hcva hcra hcvb hcrb hW1 b1 hr hr2 h hg0
 generalize zhc a b=c0 at*
 generalize tabP a=c1 at*
 generalize tabP b=c2 at*
 generalize a.rows.length=n1 at*
 generalize b.rows.length=n2 at*
 generalize a.vars.length=m1 at*
 generalize b.vars.length=m2 at*
 cases c0 with
 | false=>
   obtain rfl:r=false:=by rw [HR.out];rfl
   clear HR HS
   go_enter Tryz.func37,Tryz.ntmps37
   go_upto_region 1 with fail
   rw [← HW.out,← HG0.out]
   go_wp2_with (first
    |((with_reducible refine zag (.tmp 1) g0 28 28 [.slice pA m1 kA,.slice qA n1 lA,.slice pB m2 kB,.slice qB n2 lB,VV,.int .i64 lang,NN] 7 _ u1 rfl Tryz.underlying28 rfl zee ?_ ?_ ?_ ?_);rfl;rfl;rfl)
    |(go_at_call 10;(with_reducible refine (HL.out _ hbw).mono ?_);rintro e w1 ⟨rfl,hb1⟩;replace u1:=(hb1.block _ (zaa u1)).trans u1;replace hbw:=zab hbw hb1 hbw.size;clear hb1;have r1:w1.rangeAt g0 0 [.slice pA m1 kA,.slice qA n1 lA]:=zbs u1 [] [.slice pB m2 kB,.slice qB n2 lB,VV,.int .i64 lang,NN] rfl)
    |((with_reducible refine zbg ?_ (.tmp 6) g0 0 25 [.slice pA m1 kA,.slice qA n1 lA] 2 _ r1 rfl Tryz.underlying25 rfl zae ?_ ?_ ?_);rfl;rfl;rfl)
    |(go_at_call 13;(with_reducible refine (HMA.out _ hbw).mono ?_);rintro e w2 ⟨rfl,hb2⟩;replace u1:=(hb2.block _ (zaa u1)).trans u1;replace hbw:=zab hbw hb2 hbw.size;clear hb2 r1;have r2:w2.rangeAt g0 2 [.slice pB m2 kB,.slice qB n2 lB]:=zbs u1 [.slice pA m1 kA,.slice qA n1 lA] [VV,.int .i64 lang,NN] rfl)
    |((with_reducible refine zbg ?_ (.tmp 11) g0 2 25 [.slice pB m2 kB,.slice qB n2 lB] 2 _ r2 rfl Tryz.underlying25 rfl zae ?_ ?_ ?_);rfl;rfl;rfl)
    |(go_at_call 13;(with_reducible refine (HMB.out _ hbw).mono ?_);rintro e w3 ⟨rfl,hb3⟩;replace u1:=(hb3.block _ (zaa u1)).trans u1;replace hbw:=zab hbw hb3 hbw.size;clear hb3 r2;have d0:=zac u1 0 rfl;have d1:=zac u1 1 rfl;have d2:=zac u1 2 rfl;have d3:=zac u1 3 rfl))
   go_ret
   exact ⟨rfl,hbw⟩
 | true=>
   cases c1 with
   | false=>
     obtain rfl:r=false:=by rw [HR.out];rfl
     clear HR HS
     go_enter Tryz.func37,Tryz.ntmps37
     go_upto_region 1 with fail
     rw [← HW.out,← HG0.out]
     go_wp2_with (first
      |((with_reducible refine zag (.tmp 1) g0 28 28 [.slice pA m1 kA,.slice qA n1 lA,.slice pB m2 kB,.slice qB n2 lB,VV,.int .i64 lang,NN] 7 _ u1 rfl Tryz.underlying28 rfl zee ?_ ?_ ?_ ?_);rfl;rfl;rfl)
      |(go_at_call 10;(with_reducible refine (HL.out _ hbw).mono ?_);rintro e w1 ⟨rfl,hb1⟩;replace u1:=(hb1.block _ (zaa u1)).trans u1;replace hbw:=zab hbw hb1 hbw.size;clear hb1;have r1:w1.rangeAt g0 0 [.slice pA m1 kA,.slice qA n1 lA]:=zbs u1 [] [.slice pB m2 kB,.slice qB n2 lB,VV,.int .i64 lang,NN] rfl)
      |((with_reducible refine zbg ?_ (.tmp 6) g0 0 25 [.slice pA m1 kA,.slice qA n1 lA] 2 _ r1 rfl Tryz.underlying25 rfl zae ?_ ?_ ?_);rfl;rfl;rfl)
      |(go_at_call 13;(with_reducible refine (HMA.out _ hbw).mono ?_);rintro e w2 ⟨rfl,hb2⟩;replace u1:=(hb2.block _ (zaa u1)).trans u1;replace hbw:=zab hbw hb2 hbw.size;clear hb2 r1;have r2:w2.rangeAt g0 2 [.slice pB m2 kB,.slice qB n2 lB]:=zbs u1 [.slice pA m1 kA,.slice qA n1 lA] [VV,.int .i64 lang,NN] rfl)
      |((with_reducible refine zbg ?_ (.tmp 11) g0 2 25 [.slice pB m2 kB,.slice qB n2 lB] 2 _ r2 rfl Tryz.underlying25 rfl zae ?_ ?_ ?_);rfl;rfl;rfl)
      |(go_at_call 13;(with_reducible refine (HMB.out _ hbw).mono ?_);rintro e w3 ⟨rfl,hb3⟩;replace u1:=(hb3.block _ (zaa u1)).trans u1;replace hbw:=zab hbw hb3 hbw.size;clear hb3 r2;have d0:=zac u1 0 rfl;have d1:=zac u1 1 rfl;have d2:=zac u1 2 rfl;have d3:=zac u1 3 rfl))
     go_ret
     exact ⟨rfl,hbw⟩
   | true=>
     cases c2 with
     | false=>
       obtain rfl:r=false:=by rw [HR.out];rfl
       clear HR HS
       go_enter Tryz.func37,Tryz.ntmps37
       go_upto_region 1 with fail
       rw [← HW.out,← HG0.out]
       go_wp2_with (first
        |((with_reducible refine zag (.tmp 1) g0 28 28 [.slice pA m1 kA,.slice qA n1 lA,.slice pB m2 kB,.slice qB n2 lB,VV,.int .i64 lang,NN] 7 _ u1 rfl Tryz.underlying28 rfl zee ?_ ?_ ?_ ?_);rfl;rfl;rfl)
        |(go_at_call 10;(with_reducible refine (HL.out _ hbw).mono ?_);rintro e w1 ⟨rfl,hb1⟩;replace u1:=(hb1.block _ (zaa u1)).trans u1;replace hbw:=zab hbw hb1 hbw.size;clear hb1;have r1:w1.rangeAt g0 0 [.slice pA m1 kA,.slice qA n1 lA]:=zbs u1 [] [.slice pB m2 kB,.slice qB n2 lB,VV,.int .i64 lang,NN] rfl)
        |((with_reducible refine zbg ?_ (.tmp 6) g0 0 25 [.slice pA m1 kA,.slice qA n1 lA] 2 _ r1 rfl Tryz.underlying25 rfl zae ?_ ?_ ?_);rfl;rfl;rfl)
        |(go_at_call 13;(with_reducible refine (HMA.out _ hbw).mono ?_);rintro e w2 ⟨rfl,hb2⟩;replace u1:=(hb2.block _ (zaa u1)).trans u1;replace hbw:=zab hbw hb2 hbw.size;clear hb2 r1;have r2:w2.rangeAt g0 2 [.slice pB m2 kB,.slice qB n2 lB]:=zbs u1 [.slice pA m1 kA,.slice qA n1 lA] [VV,.int .i64 lang,NN] rfl)
        |((with_reducible refine zbg ?_ (.tmp 11) g0 2 25 [.slice pB m2 kB,.slice qB n2 lB] 2 _ r2 rfl Tryz.underlying25 rfl zae ?_ ?_ ?_);rfl;rfl;rfl)
        |(go_at_call 13;(with_reducible refine (HMB.out _ hbw).mono ?_);rintro e w3 ⟨rfl,hb3⟩;replace u1:=(hb3.block _ (zaa u1)).trans u1;replace hbw:=zab hbw hb3 hbw.size;clear hb3 r2;have d0:=zac u1 0 rfl;have d1:=zac u1 1 rfl;have d2:=zac u1 2 rfl;have d3:=zac u1 3 rfl))
       go_ret
       exact ⟨rfl,hbw⟩
     | true=>
       obtain ⟨s1,s2⟩:=HS.out rfl
       by_cases h3:m1+m2≤64
       ·by_cases h4:n1*n2≤900
        ·obtain rfl:r=true:=by rw [HR.out,decide_eq_true h3,decide_eq_true h4];rfl
         clear HR HS
         have x3:decide ((m1:Int)+m2≤64)=true:=decide_eq_true (by omega)
         obtain ⟨q,hq⟩:∃ q,(n1:Int)*n2=q:=⟨_,rfl⟩
         have q1:q≤3600:=by
          rw [← hq]
          have:=Nat.mul_le_mul s1 s2
          have e:((n1*n2:Nat):Int)=(n1:Int)*n2:=Int.natCast_mul _ _
          omega
         have q0:0≤q:=by rw [← hq];exact Int.mul_nonneg (by omega) (by omega)
         have x4:decide (q≤900)=true:=decide_eq_true (by
          have e:((n1*n2:Nat):Int)=(n1:Int)*n2:=Int.natCast_mul _ _
          omega)
         go_enter Tryz.func37,Tryz.ntmps37
         go_upto_region 1 with fail
         rw [← HW.out,← HG0.out]
         go_wp2_with (first
          |((with_reducible refine zag (.tmp 1) g0 28 28 [.slice pA m1 kA,.slice qA n1 lA,.slice pB m2 kB,.slice qB n2 lB,VV,.int .i64 lang,NN] 7 _ u1 rfl Tryz.underlying28 rfl zee ?_ ?_ ?_ ?_);rfl;rfl;rfl)
          |(go_at_call 10;(with_reducible refine (HL.out _ hbw).mono ?_);rintro e w1 ⟨rfl,hb1⟩;replace u1:=(hb1.block _ (zaa u1)).trans u1;replace hbw:=zab hbw hb1 hbw.size;clear hb1;have r1:w1.rangeAt g0 0 [.slice pA m1 kA,.slice qA n1 lA]:=zbs u1 [] [.slice pB m2 kB,.slice qB n2 lB,VV,.int .i64 lang,NN] rfl)
          |((with_reducible refine zbg ?_ (.tmp 6) g0 0 25 [.slice pA m1 kA,.slice qA n1 lA] 2 _ r1 rfl Tryz.underlying25 rfl zae ?_ ?_ ?_);rfl;rfl;rfl)
          |(go_at_call 13;(with_reducible refine (HMA.out _ hbw).mono ?_);rintro e w2 ⟨rfl,hb2⟩;replace u1:=(hb2.block _ (zaa u1)).trans u1;replace hbw:=zab hbw hb2 hbw.size;clear hb2 r1;have r2:w2.rangeAt g0 2 [.slice pB m2 kB,.slice qB n2 lB]:=zbs u1 [.slice pA m1 kA,.slice qA n1 lA] [VV,.int .i64 lang,NN] rfl)
          |((with_reducible refine zbg ?_ (.tmp 11) g0 2 25 [.slice pB m2 kB,.slice qB n2 lB] 2 _ r2 rfl Tryz.underlying25 rfl zae ?_ ?_ ?_);rfl;rfl;rfl)
          |(go_at_call 13;(with_reducible refine (HMB.out _ hbw).mono ?_);rintro e w3 ⟨rfl,hb3⟩;replace u1:=(hb3.block _ (zaa u1)).trans u1;replace hbw:=zab hbw hb3 hbw.size;clear hb3 r2;have d0:=zac u1 0 rfl;have d1:=zac u1 1 rfl;have d2:=zac u1 2 rfl;have d3:=zac u1 3 rfl))
         go_ret
         exact ⟨rfl,hbw⟩
        ·obtain rfl:r=false:=by rw [HR.out,decide_eq_true h3,decide_eq_false h4];rfl
         clear HR HS
         have x3:decide ((m1:Int)+m2≤64)=true:=decide_eq_true (by omega)
         obtain ⟨q,hq⟩:∃ q,(n1:Int)*n2=q:=⟨_,rfl⟩
         have q1:q≤3600:=by
          rw [← hq]
          have:=Nat.mul_le_mul s1 s2
          have e:((n1*n2:Nat):Int)=(n1:Int)*n2:=Int.natCast_mul _ _
          omega
         have q0:0≤q:=by rw [← hq];exact Int.mul_nonneg (by omega) (by omega)
         have x4:decide (q≤900)=false:=decide_eq_false (by
          have e:((n1*n2:Nat):Int)=(n1:Int)*n2:=Int.natCast_mul _ _
          omega)
         go_enter Tryz.func37,Tryz.ntmps37
         go_upto_region 1 with fail
         rw [← HW.out,← HG0.out]
         go_wp2_with (first
          |((with_reducible refine zag (.tmp 1) g0 28 28 [.slice pA m1 kA,.slice qA n1 lA,.slice pB m2 kB,.slice qB n2 lB,VV,.int .i64 lang,NN] 7 _ u1 rfl Tryz.underlying28 rfl zee ?_ ?_ ?_ ?_);rfl;rfl;rfl)
          |(go_at_call 10;(with_reducible refine (HL.out _ hbw).mono ?_);rintro e w1 ⟨rfl,hb1⟩;replace u1:=(hb1.block _ (zaa u1)).trans u1;replace hbw:=zab hbw hb1 hbw.size;clear hb1;have r1:w1.rangeAt g0 0 [.slice pA m1 kA,.slice qA n1 lA]:=zbs u1 [] [.slice pB m2 kB,.slice qB n2 lB,VV,.int .i64 lang,NN] rfl)
          |((with_reducible refine zbg ?_ (.tmp 6) g0 0 25 [.slice pA m1 kA,.slice qA n1 lA] 2 _ r1 rfl Tryz.underlying25 rfl zae ?_ ?_ ?_);rfl;rfl;rfl)
          |(go_at_call 13;(with_reducible refine (HMA.out _ hbw).mono ?_);rintro e w2 ⟨rfl,hb2⟩;replace u1:=(hb2.block _ (zaa u1)).trans u1;replace hbw:=zab hbw hb2 hbw.size;clear hb2 r1;have r2:w2.rangeAt g0 2 [.slice pB m2 kB,.slice qB n2 lB]:=zbs u1 [.slice pA m1 kA,.slice qA n1 lA] [VV,.int .i64 lang,NN] rfl)
          |((with_reducible refine zbg ?_ (.tmp 11) g0 2 25 [.slice pB m2 kB,.slice qB n2 lB] 2 _ r2 rfl Tryz.underlying25 rfl zae ?_ ?_ ?_);rfl;rfl;rfl)
          |(go_at_call 13;(with_reducible refine (HMB.out _ hbw).mono ?_);rintro e w3 ⟨rfl,hb3⟩;replace u1:=(hb3.block _ (zaa u1)).trans u1;replace hbw:=zab hbw hb3 hbw.size;clear hb3 r2;have d0:=zac u1 0 rfl;have d1:=zac u1 1 rfl;have d2:=zac u1 2 rfl;have d3:=zac u1 3 rfl))
         go_ret
         exact ⟨rfl,hbw⟩
       ·obtain rfl:r=false:=by rw [HR.out,decide_eq_false h3];rfl
        clear HR HS
        have x3:decide ((m1:Int)+m2≤64)=false:=decide_eq_false (by omega)
        go_enter Tryz.func37,Tryz.ntmps37
        go_upto_region 1 with fail
        rw [← HW.out,← HG0.out]
        go_wp2_with (first
         |((with_reducible refine zag (.tmp 1) g0 28 28 [.slice pA m1 kA,.slice qA n1 lA,.slice pB m2 kB,.slice qB n2 lB,VV,.int .i64 lang,NN] 7 _ u1 rfl Tryz.underlying28 rfl zee ?_ ?_ ?_ ?_);rfl;rfl;rfl)
         |(go_at_call 10;(with_reducible refine (HL.out _ hbw).mono ?_);rintro e w1 ⟨rfl,hb1⟩;replace u1:=(hb1.block _ (zaa u1)).trans u1;replace hbw:=zab hbw hb1 hbw.size;clear hb1;have r1:w1.rangeAt g0 0 [.slice pA m1 kA,.slice qA n1 lA]:=zbs u1 [] [.slice pB m2 kB,.slice qB n2 lB,VV,.int .i64 lang,NN] rfl)
         |((with_reducible refine zbg ?_ (.tmp 6) g0 0 25 [.slice pA m1 kA,.slice qA n1 lA] 2 _ r1 rfl Tryz.underlying25 rfl zae ?_ ?_ ?_);rfl;rfl;rfl)
         |(go_at_call 13;(with_reducible refine (HMA.out _ hbw).mono ?_);rintro e w2 ⟨rfl,hb2⟩;replace u1:=(hb2.block _ (zaa u1)).trans u1;replace hbw:=zab hbw hb2 hbw.size;clear hb2 r1;have r2:w2.rangeAt g0 2 [.slice pB m2 kB,.slice qB n2 lB]:=zbs u1 [.slice pA m1 kA,.slice qA n1 lA] [VV,.int .i64 lang,NN] rfl)
         |((with_reducible refine zbg ?_ (.tmp 11) g0 2 25 [.slice pB m2 kB,.slice qB n2 lB] 2 _ r2 rfl Tryz.underlying25 rfl zae ?_ ?_ ?_);rfl;rfl;rfl)
         |(go_at_call 13;(with_reducible refine (HMB.out _ hbw).mono ?_);rintro e w3 ⟨rfl,hb3⟩;replace u1:=(hb3.block _ (zaa u1)).trans u1;replace hbw:=zab hbw hb3 hbw.size;clear hb3 r2;have d0:=zac u1 0 rfl;have d1:=zac u1 1 rfl;have d2:=zac u1 2 rfl;have d3:=zac u1 3 rfl))
        go_ret
        exact ⟨rfl,hbw⟩
end Go.Proofs.YteclpnfckjfibaaGreatDoor

/- R1 -/
namespace Go.Proofs.YteclpnfckjfibaaGreatDoor
open Go.RowKit Go.ChangeShapes
variable {H:Type} {enc:TypeId × Value→H}
theorem zms {w:World} {a:Addr} {m:Nat} {cs:List Value} (h:w.cells? 0 a m=some cs):cs.length=m∧∀ j,j < m→w.cell? (a.add j)=cs[j]?:=by
 unfold World.cells? at h
 rw [if_pos (Nat.zero_le _)] at h
 have hl:=mapM_some_length h
 rw [List.length_range] at hl
 refine ⟨hl,fun j hj=>?_⟩
 exact mapM_some_get h j j (by rw [List.getElem?_range hj])
theorem zil (g off i:Nat):(Addr.mk g off none).add i=⟨g,off+i,none⟩:=by unfold Addr.add;split <;> simp_all
theorem list6 {α:Type} {l:List α} (h:l.length=6):∃ a b c d e f,l=[a,b,c,d,e,f]:=by
 match l,h with
 | [a,b,c,d,e,f],_=>exact ⟨a,b,c,d,e,f,rfl⟩
theorem znp {d:DataW H}:{l:List (DataW H)}→d∈l→Rows.uptoBulk d≤Rows.uptoBulkAll l
 | [],h=>absurd h (by simp)
 | e::r,h=>by
   unfold Rows.uptoBulkAll
   rcases List.mem_cons.1 h with h | h
   ·rw [h];omega
   ·have:=znp h;omega
theorem zyp (d:DataW H):1≤Rows.uptoBulk d:=by
 cases d with
 | lit l=>cases l <;> simp [Rows.uptoBulk]
 | _=>simp [Rows.uptoBulk]
theorem znq:(l:List (DataW H))→l.length≤Rows.uptoBulkAll l
 | []=>by simp
 | e::r=>by
   unfold Rows.uptoBulkAll
   have:=znq r
   have:=zyp e
   simp only [List.length_cons]
   omega
theorem i64_wf {m:Int} (h:(Lit.int .i64 m).wf=true):-9223372036854775808≤m∧m≤9223372036854775807:=by
 have:=bounds_i64 h
 omega
end Go.Proofs.YteclpnfckjfibaaGreatDoor

/- R2 -/
namespace Go.Proofs.YteclpnfckjfibaaGreatDoor
open Go.RowKit Go.ChangeShapes
variable {H:Type} {enc:TypeId × Value→H}
theorem zl0 {W:World} {n:Nat} {cs:List Value} {y:DataW H × List MemPlace} (h:DataW.trod enc Tryz.prog W 0 (fun _=>true) true n 48 cs=some y):
 ∃ n' k b m t x L yl,n=n'+1∧cs=[.int .i64 k,.bool b,.int .i64 m,.string t,.string x,L]∧DataW.trod enc Tryz.prog W 0 (fun _=>true) true n' 43 [L]=some yl∧
  1+t.size+x.size+Rows.uptoBulk yl.1≤Rows.uptoBulk y.1∧(Lit.int .i64 m).wf=true:=by
 obtain ⟨xs,n',rfl,rfl,hl,hlen,hf⟩:=DataW.trod_struct Tryz.underlying48 h
 obtain ⟨c0,c1,c2,c3,c4,c5,rfl⟩:=list6 (hl.trans (by kernel_rfl:Tryz.prog.cellsOf 48=6))
 obtain ⟨y0,y1,y2,y3,y4,y5,rfl⟩:=list6 (hlen.trans rfl)
 have e1:Tryz.prog.cellsOf 3=1:=by kernel_rfl
 have e2:Tryz.prog.cellsOf 4=1:=by kernel_rfl
 have e3:Tryz.prog.cellsOf 2=1:=by kernel_rfl
 have e4:Tryz.prog.cellsOf 9=1:=by kernel_rfl
 have e5:Tryz.prog.cellsOf 43=1:=by kernel_rfl
 have h0:DataW.trod enc Tryz.prog W 0 (fun _=>true) true n' 3 (([c0,c1,c2,c3,c4,c5].drop 0).take (Tryz.prog.cellsOf 3))=[y0,y1,y2,y3,y4,y5][0]?:=hf 0 _ rfl
 have h1:DataW.trod enc Tryz.prog W 0 (fun _=>true) true n' 4 (([c0,c1,c2,c3,c4,c5].drop 1).take (Tryz.prog.cellsOf 4))=[y0,y1,y2,y3,y4,y5][1]?:=hf 1 _ rfl
 have h2:DataW.trod enc Tryz.prog W 0 (fun _=>true) true n' 2 (([c0,c1,c2,c3,c4,c5].drop 2).take (Tryz.prog.cellsOf 2))=[y0,y1,y2,y3,y4,y5][2]?:=hf 2 _ rfl
 have h3:DataW.trod enc Tryz.prog W 0 (fun _=>true) true n' 9 (([c0,c1,c2,c3,c4,c5].drop 3).take (Tryz.prog.cellsOf 9))=[y0,y1,y2,y3,y4,y5][3]?:=hf 3 _ rfl
 have h4:DataW.trod enc Tryz.prog W 0 (fun _=>true) true n' 9 (([c0,c1,c2,c3,c4,c5].drop 4).take (Tryz.prog.cellsOf 9))=[y0,y1,y2,y3,y4,y5][4]?:=hf 4 _ rfl
 have h5:DataW.trod enc Tryz.prog W 0 (fun _=>true) true n' 43 (([c0,c1,c2,c3,c4,c5].drop 5).take (Tryz.prog.cellsOf 43))=[y0,y1,y2,y3,y4,y5][5]?:=hf 5 _ rfl
 rw [e1] at h0
 rw [e2] at h1
 rw [e3] at h2
 rw [e4] at h3 h4
 rw [e5] at h5
 replace h0:DataW.trod enc Tryz.prog W 0 (fun _=>true) true n' 3 [c0]=some y0:=h0
 replace h1:DataW.trod enc Tryz.prog W 0 (fun _=>true) true n' 4 [c1]=some y1:=h1
 replace h2:DataW.trod enc Tryz.prog W 0 (fun _=>true) true n' 2 [c2]=some y2:=h2
 replace h3:DataW.trod enc Tryz.prog W 0 (fun _=>true) true n' 9 [c3]=some y3:=h3
 replace h4:DataW.trod enc Tryz.prog W 0 (fun _=>true) true n' 9 [c4]=some y4:=h4
 replace h5:DataW.trod enc Tryz.prog W 0 (fun _=>true) true n' 43 [c5]=some y5:=h5
 obtain ⟨k,a0,_,_⟩:=DataW.trod_int Tryz.underlying3 h0
 obtain ⟨b,a1,_⟩:=DataW.trod_bool Tryz.underlying4 h1
 obtain ⟨m,a2,_,wm⟩:=DataW.trod_int Tryz.underlying2 h2
 obtain ⟨t,a3,z3,_⟩:=DataW.trod_string Tryz.underlying9 h3
 obtain ⟨x,a4,z4,_⟩:=DataW.trod_string Tryz.underlying9 h4
 simp only [List.cons.injEq,and_true] at a0 a1 a2 a3 a4
 subst a0 a1 a2 a3 a4
 refine ⟨n',k,b,m,t,x,c5,y5,rfl,rfl,h5,?_,wm⟩
 have a3:Rows.uptoBulk y3.1=t.size+1:=by
  rw [z3]
  have e':t.data.toList.length=t.size:=Array.length_toList
  show t.data.toList.length+1=_
  rw [e']
 have a4:Rows.uptoBulk y4.1=x.size+1:=by
  rw [z4]
  have e':x.data.toList.length=x.size:=Array.length_toList
  show x.data.toList.length+1=_
  rw [e']
 have a:Rows.uptoBulkAll ([y0,y1,y2,y3,y4,y5].map (·.1))=Rows.uptoBulk y0.1+(Rows.uptoBulk y1.1+(Rows.uptoBulk y2.1+(Rows.uptoBulk y3.1+(Rows.uptoBulk y4.1+(Rows.uptoBulk y5.1+0))))):=rfl
 show _≤Rows.uptoBulkAll _+1
 rw [a,a3,a4]
 omega
set_option maxRecDepth 20000 in
theorem znr {W:World} (B:Nat) (hBB:B≤2097152):∀ (N n:Nat),n≤N→∀ (L:Value) (y:DataW H × List MemPlace),DataW.trod enc Tryz.prog W 0 (fun _=>true) true n 43 [L]=some y→Rows.uptoBulk y.1≤B→∃ l,Held W L l∧wAll l≤Rows.uptoBulk y.1:=by
 intro N
 induction N with
 | zero=>
   intro n hn L y h _
   obtain rfl:n=0:=by omega
   simp [DataW.trod] at h
 | succ N IH=>
   intro n0 hn0 L y h hB
   rcases DataW.trod_slice Tryz.underlying43 h with ⟨e,_⟩ | ⟨a,len,cap,elems,rest,n1,hn,e,rfl,hb,hl,hm,hlen,hel,_,_⟩
   ·obtain rfl:L=.slice none 0 0:=by simpa using e
    exact ⟨[],by unfold Held;exact ⟨none,0,rfl⟩,by simp [wAll]⟩
   ·obtain rfl:L=.slice (some a) len cap:=by simpa using e
    rw [show Tryz.prog.cellsOf 48=6 by kernel_rfl] at hel
    have hE1:Rows.uptoBulkAll (elems.map (·.1))+Rows.uptoBulkAll (rest.map (·.1))+1≤B:=hB
    have hE:Rows.uptoBulkAll (elems.map (·.1))≤B:=by omega
    have hln:len≤B:=by
     have:=znq (elems.map (·.1))
     simp only [List.length_map] at this
     omega
    have each:∀ i,i < len→∃ k b m t x l p,(∀ j v,[Value.int .i64 k,.bool b,.int .i64 m,.string t,.string x,p][j]?=some v→W.cell? ((a.add (i*6)).add j)=some v)∧Fine m t x (List.length (α:=Val) l)∧Held W p l∧∀ h:i < elems.length,1+t.size+x.size+wAll l≤Rows.uptoBulk elems[i].1:=by
     intro i hi
     have h1:=hel i hi
     have hi':i < elems.length:=by omega
     rw [List.getElem?_eq_getElem hi',Option.bind_eq_some_iff] at h1
     obtain ⟨cs,hcs,hy⟩:=h1
     obtain ⟨c1,c2⟩:=zms hcs
     obtain ⟨n',k,b,m,t,x,p,yl,hn',rfl,hp,hpl,wm⟩:=zl0 hy
     have hbe:Rows.uptoBulk elems[i].1≤B:=Nat.le_trans (znp (List.mem_map_of_mem (List.getElem_mem hi'))) hE
     obtain ⟨l,hheld,hll⟩:=IH n' (by omega) p yl hp (by omega)
     obtain ⟨w1,w2⟩:=i64_wf wm
     have hll2:=zm9 l
     refine ⟨k,b,m,t,x,l,p,fun j v hv=>?_,⟨by omega,by omega,by omega,w1,w2⟩,hheld,fun _=>by omega⟩
     have hj:j < 6:=by
      have:=(List.getElem?_eq_some_iff.1 hv).1
      simpa using this
     rw [c2 j hj,hv]
    by_cases h0:len=0
    ·subst h0
     exact ⟨[],by unfold Held;exact ⟨some a,cap,rfl⟩,by simp [wAll]⟩
    ·have hsp:a.spot=none:=by
      obtain ⟨k,b,m,t,x,l,p,hc,_,_,_⟩:=each 0 (by omega)
      have h0:=hc 0 _ rfl
      cases kk:a.spot with
      | none=>rfl
      | some mm=>
        rw [show (a.add (0*6)).add 0=a by simp [Addr.add]] at h0
        unfold World.cell? at h0
        rw [kk] at h0
        split at h0 <;> simp at h0
     obtain ⟨g,off,spot⟩:=a
     simp only at hsp
     subst hsp
     have build:∀ m,m≤len→∃ l:List Val,l.length=m∧zb2 W g (off+(len - m)*6) l∧wAll l≤Rows.uptoBulkAll ((elems.map (·.1)).drop (len - m)):=by
      intro m
      induction m with
      | zero=>exact fun _=>⟨[],rfl,by unfold zb2;trivial,by simp [wAll]⟩
      | succ m ih=>
        intro hm1
        obtain ⟨l,hll,hh,hwl⟩:=ih (by omega)
        obtain ⟨k,b,mm,t,x,q,p,hc,hf,hp,hwe⟩:=each (len - (m+1)) (by omega)
        have ea:∀ j,((⟨g,off,none⟩:Addr).add ((len - (m+1))*6)).add j=⟨g,off+(len - (m+1))*6+j,none⟩:=fun j=>by rw [zil,zil]
        refine ⟨.mk k b mm t x q::l,by simp [hll],?_⟩
        have hi2:len - (m+1) < elems.length:=by omega
        have hd:(elems.map (·.1)).drop (len - (m+1))=elems[len - (m+1)].1::(elems.map (·.1)).drop (len - m):=by
         rw [List.drop_eq_getElem_cons (by simpa using hi2),List.getElem_map,show len - (m+1)+1=len - m by omega]
        refine ⟨?_,?_⟩
        rotate_left
        ·rw [hd]
         have:=hwe hi2
         unfold wAll wOne Rows.uptoBulkAll
         omega
        unfold zb2
        refine ⟨?_,?_⟩
        ·unfold zba
         have hcj:=fun j v hv=>(congrArg W.cell? (ea j)).symm.trans (hc j v hv)
         exact ⟨hcj 0 _ rfl,hcj 1 _ rfl,hcj 2 _ rfl,hcj 3 _ rfl,hcj 4 _ rfl,hf,p,hcj 5 _ rfl,hp⟩
        ·rw [show off+(len - (m+1))*6+6=off+(len - m)*6 by omega]
         exact hh
     obtain ⟨l,hll,hh,hwl⟩:=build len (Nat.le_refl _)
     rw [Nat.sub_self,Nat.zero_mul,Nat.add_zero] at hh
     rw [Nat.sub_self,List.drop_zero] at hwl
     refine ⟨l,?_,by show wAll l≤Rows.uptoBulkAll (elems.map (·.1))+Rows.uptoBulkAll (rest.map (·.1))+1;omega⟩
     cases l with
     | nil=>simp at hll;omega
     | cons v r=>
       unfold zb2 at hh
       unfold Held
       exact ⟨g,off,cap,by rw [← hll];rfl,hh.1,hh.2⟩
end Go.Proofs.YteclpnfckjfibaaGreatDoor
