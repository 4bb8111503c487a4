/- Texts of one kind, one behind the other: each says ahead of itself what it shows. -/
import Derived.Test.YteclpnfckjfibaaGreatDoorCaf
import Derived.Test.YteclpnfckjfibaaGreatDoorCao
import Derived.Test.YteclpnfckjfibaaGreatDoorCan
import Derived.Test.YteclpnfckjfibaaGreatDoorCad
import Derived.Test.YteclpnfckjfibaaGreatDoorCag
import Derived.Test.YteclpnfckjfibaaGreatDoorCai
import Derived.Test.YteclpnfckjfibaaGreatDoorCak
import Derived.Test.YteclpnfckjfibaaGreatDoorRows
import Derived.ProofKit
import Derived.OpenShut
import Derived.Carry
import Derived.Test.YteclpnfckjfibaaGreatDoorCah
namespace Go.Proofs.YteclpnfckjfibaaGreatDoor
open Go.RowKit
set_option maxHeartbeats 12800000
set_option maxRecDepth 20000
theorem equal87 (l1 l2:List ByteArray) (V1 V2:Value) (w:World) (h1:zag za1 w (Old w) V1 l1) (h2:zag za1 w (Old w) V2 l2) (hn1:l1.length≤2097152) (hn2:l2.length≤2097152):Calls Tryz.prog 87 #[V1,V2] w fun e w'=>e=.returned (.bool (decide (l1=l2)))∧Below w.heap.size w w':=by
 obtain ⟨p1,k1,rfl⟩:=h1.slice
 obtain ⟨p2,k2,rfl⟩:=h2.slice
 obtain ⟨n,hn⟩:∃ n,n=l1.length:=⟨_,rfl⟩
 obtain ⟨m,hm⟩:∃ m,m=l2.length:=⟨_,rfl⟩
 obtain ⟨ans,hans⟩:∃ ans,ans=decide (l1=l2):=⟨_,rfl⟩
 rw [← hans,← hn,← hm]
 rw [← hn] at hn1
 rw [← hm] at hn2
 have HN:=Lib.hid hn
 have HM:=Lib.hid hm
 have HA:=Lib.hid hans
 have H1:=Lib.hid h1
 have H2:=Lib.hid h2
 clear h1 h2 hn hm hans
 by_cases hnm:n=m
 ·subst hnm
  go_enter Tryz.func87,Tryz.ntmps87
  go_wp2_with fail
  go_loopg [13] n (fun gg s13 wr=>∃ j:Nat,j+gg=n∧s13=.int .i64 j∧Hid (Below w.heap.size w wr)∧Hid (∀ i (a:i < l1.length) (b:i < l2.length),i < j→l1[i]=l2[i]))
  case atStart=>exact ⟨0,by omega,rfl,Lib.hid (Below.refl _ _),Lib.hid (fun i _ _ h=>absurd h (by omega))⟩
  case round=>
   obtain ⟨j,hjg,rfl,HB,HE⟩:=hrel
   by_cases hlt:(j:Int) < n
   ·have hj1:j < l1.length:=by have:=HN.out;omega
    have hj2:j < l2.length:=by have:=HM.out;omega
    obtain ⟨g1,o1,c1,d1,e1,_,hr1,ha1⟩:=(H1.out.stays (zae HB.out)).at_ j hj1
    obtain ⟨g2,o2,c2,d2,e2,_,hr2,ha2⟩:=(H2.out.stays (zae HB.out)).at_ j hj2
    injection e1 with e11 e12 e13
    injection e2 with e21 e22 e23
    subst e11
    subst e21
    obtain ⟨x,hx⟩:∃ x,x=l1[j]'hj1:=⟨_,rfl⟩
    obtain ⟨y,hy⟩:∃ y,y=l2[j]'hj2:=⟨_,rfl⟩
    have cx:wr.cell? ⟨g1,o1+j,none⟩=some (.string x):=by
     obtain ⟨rfl,_⟩:=hr1
     have:=ha1 0 _ rfl
     rw [hx]
     simpa [za1] using this
    have cy:wr.cell? ⟨g2,o2+j,none⟩=some (.string y):=by
     obtain ⟨rfl,_⟩:=hr2
     have:=ha2 0 _ rfl
     rw [hy]
     simpa [za1] using this
    have HXY:=Lib.hid (And.intro hx hy)
    clear hr1 hr2 ha1 ha2 hx hy e12 e13 e22 e23
    go_upto_region 6 with fail
    by_cases q:x=y
    ·subst q
     refine wp_region_held_drew (S:=fun W'=>W'.cell? ⟨g1,o1+j,none⟩=some (.string x)∧W'.cell? ⟨g2,o2+j,none⟩=some (.string x)) (by kernel_rfl) ⟨cx,cy⟩ (fun hh=>?_)
     have bq:Below w.heap.size w wr.drew:=HB.out.drew
     have HB2:=Lib.hid bq
     clear cx cy bq
     generalize wr.drew=wD at*
     refine tg (i:=0) (.slice (some ⟨g1,o1,none⟩) n k1) rfl (hh) ?_
     refine tg (i:=1) (.int .i64 (j:Int)) rfl (hh) ?_
     refine tg (i:=4) (.slice (some ⟨g2,o2,none⟩) n k2) rfl (hh) ?_
     refine tg (i:=5) (.int .i64 (j:Int)) rfl (hh) ?_
     refine tg (i:=2) (.pointer (some ⟨g1,o1+j,none⟩)) rfl (hh) ?_
     refine tg (i:=6) (.pointer (some ⟨g2,o2+j,none⟩)) rfl (hh) ?_
     refine tk (i:=3) (v:=.string x) rfl (Or.inl ⟨by rfl,fun W' h=>by have c0:=h.1;go_simp⟩) (hh) ?_
     refine tk (i:=7) (v:=.string x) rfl (Or.inl ⟨by rfl,fun W' h=>by have c0:=h.2;go_simp⟩) (hh) ?_
     refine tg (i:=8) (.bool false) rfl (hh) ?_
     refine wpAnyH_done (by kernel_rfl) ?_ _
     have HE2:Hid (∀ i (a:i < l1.length) (b:i < l2.length),i < j+1→l1[i]=l2[i]):=Lib.hid fun i a b h=>by
      by_cases e:i=j
      ·subst e;exact HXY.out.1.symm.trans HXY.out.2
      ·exact HE.out i a b (by omega)
     clear hh
     go_wp2_with fail
     go_roundg (gk - 1)
     case measure=>omega
     case rel=>exact ⟨j+1,by omega,by go_num,HB2,HE2⟩
    ·have q2:(x.toList == y.toList)=false:=zp9 q
     refine wp_region_held_drew (S:=fun W'=>W'.cell? ⟨g1,o1+j,none⟩=some (.string x)∧W'.cell? ⟨g2,o2+j,none⟩=some (.string y)) (by kernel_rfl) ⟨cx,cy⟩ (fun hh=>?_)
     have bq:Below w.heap.size w wr.drew:=HB.out.drew
     have HB2:=Lib.hid bq
     have HQ:=Lib.hid q
     clear cx cy bq q
     generalize wr.drew=wD at*
     refine tg (i:=0) (.slice (some ⟨g1,o1,none⟩) n k1) rfl (hh) ?_
     refine tg (i:=1) (.int .i64 (j:Int)) rfl (hh) ?_
     refine tg (i:=4) (.slice (some ⟨g2,o2,none⟩) n k2) rfl (hh) ?_
     refine tg (i:=5) (.int .i64 (j:Int)) rfl (hh) ?_
     refine tg (i:=2) (.pointer (some ⟨g1,o1+j,none⟩)) rfl (hh) ?_
     refine tg (i:=6) (.pointer (some ⟨g2,o2+j,none⟩)) rfl (hh) ?_
     refine tk (i:=3) (v:=.string x) rfl (Or.inl ⟨by rfl,fun W' h=>by have c0:=h.1;go_simp⟩) (hh) ?_
     refine tk (i:=7) (v:=.string y) rfl (Or.inl ⟨by rfl,fun W' h=>by have c0:=h.2;go_simp⟩) (hh) ?_
     refine tg (i:=8) (.bool true) rfl (hh) ?_
     refine wpAnyH_done (by kernel_rfl) ?_ _
     have hne:ans=false:=by
      rw [HA.out,decide_eq_false_iff_not]
      intro e
      refine HQ.out ?_
      rw [HXY.out.1,HXY.out.2]
      subst e
      rfl
     have HAN:=Lib.hid hne
     clear hne hh
     go_wp2_with fail
     go_ret
     exact ⟨by rw [HAN.out];rfl,HB2.out⟩
   ·have hall:ans=true:=by
     rw [HA.out,decide_eq_true_iff]
     refine List.ext_getElem (by rw [← HN.out,← HM.out]) fun i a b=>HE.out i a b (by have:=HN.out;omega)
    have HAN:=Lib.hid hall
    clear hall
    go_wp2_with fail
    go_ret
    exact ⟨by rw [HAN.out];rfl,HB.out⟩
 ·have hne:ans=false:=by
   rw [HA.out,decide_eq_false_iff_not]
   intro e
   exact hnm (by rw [HN.out,HM.out,e])
  have HAN:=Lib.hid hne
  have q:((n:Int) == m)=false:=by rw [beq_eq_false_iff_ne];omega
  clear hne
  go_enter Tryz.func87,Tryz.ntmps87
  go_wp2_with fail
  go_ret
  exact ⟨by rw [HAN.out];rfl,Below.refl _ _⟩
def zd9 (a b:TabL):Bool:=((tabP a && tabP b) && decide (a.vars=b.vars)) && decide ((a.rows.map zar).Perm (b.rows.map zar))
theorem zr4 (a b:TabL) (VA RA VB RB:Value) (W:World) (hG:Gd W) (ha:tabE.rel W (Old W) [VA,RA] a) (hb:tabE.rel W (Old W) [VB,RB] b) (hwa:∀ r∈a.rows,13*wAll r≤700000000) (hwb:∀ r∈b.rows,13*wAll r≤700000000):Calls Tryz.prog 35 #[.agg #[VA,RA],.agg #[VB,RB]] W fun e w'=>e=.returned (.bool (zd9 a b))∧Below W.heap.size W w':=by
 have ha0:=ha
 have hb0:=hb
 obtain ⟨V',R',e,hva,hra,hcva,hcra,hlva,hlra⟩:=ha
 cases e
 obtain ⟨V',R',e,hvb,hrb,hcvb,hcrb,hlvb,hlrb⟩:=hb
 cases e
 obtain ⟨pA,kA,rfl⟩:=hva.slice
 obtain ⟨qA,lA,rfl⟩:=hra.slice
 obtain ⟨pB,kB,rfl⟩:=hvb.slice
 obtain ⟨qB,lB,rfl⟩:=hrb.slice
 obtain ⟨W1,hW1⟩:∃ W1,W1=(W.alloc (.cells #[.slice pA a.vars.length kA,.slice qA a.rows.length lA] 25)).alloc (.cells #[.slice pB b.vars.length kB,.slice qB b.rows.length lB] 25):=⟨_,rfl⟩
 have b1:Below W.heap.size W W1:=by rw [hW1];exact zdb _ _ _
 have u2:W1.heap[W.heap.size]?=some (.cells #[.slice pA a.vars.length kA,.slice qA a.rows.length lA] 25):=by rw [hW1];exact zap _ (zaf _ _ rfl)
 have u3:W1.heap[W.heap.size+1]?=some (.cells #[.slice pB b.vars.length kB,.slice qB b.rows.length lB] 25):=by rw [hW1];exact zaf _ _ (by simp)
 have H1:Hid (Calls Tryz.prog 14 #[.agg #[.slice pA a.vars.length kA,.slice qA a.rows.length lA]] W1 fun e w'=>e=.returned (.bool (tabP a))∧Below W1.heap.size W1 w'):=Lib.hid (zc0 a _ _ W1 (hG.below b1) (tabE.stays (zae b1) ha0))
 have H2:Hid (∀ W',Below W1.heap.size W1 W'→Calls Tryz.prog 14 #[.agg #[.slice pB b.vars.length kB,.slice qB b.rows.length lB]] W' fun e w'=>e=.returned (.bool (tabP b))∧Below W'.heap.size W' w'):=Lib.hid fun W' h=>zc0 b _ _ W' (hG.below (zab b1 h b1.size)) (tabE.stays (zae (zab b1 h b1.size)) hb0)
 have H3:Hid (∀ W',Below W1.heap.size W1 W'→Calls Tryz.prog 87 #[.slice pA a.vars.length kA,.slice pB b.vars.length kB] W' fun e w'=>e=.returned (.bool (decide (a.vars=b.vars)))∧Below W'.heap.size W' w'):=Lib.hid fun W' h=>by
  have h':=zab b1 h b1.size
  exact equal87 a.vars b.vars _ _ W' (hva.stays (zae h')) (hvb.stays (zae h')) hlva hlvb
 have H4:Hid (tabP a=true→tabP b=true→∀ W',Below W1.heap.size W1 W'→Calls Tryz.prog 88 #[.slice qA a.rows.length lA,.slice qB b.rows.length lB] W' fun e w'=>e=.returned (.bool (decide ((a.rows.map zar).Perm (b.rows.map zar))))∧Below W'.heap.size W' w'):=Lib.hid fun h1 h2 W' h=>by
  have h':=zab b1 h b1.size
  exact zzr a.rows b.rows _ _ W' (hG.below h') (hra.stays (zae h')) (hrb.stays (zae h')) (zb5 h1).2 (zb5 h2).2 hwa hwb hlra hlrb
 have HW:=Lib.hid hW1
 have HB1:=Lib.hid b1
 have HU:=Lib.hid (And.intro u2 u3)
 unfold zd9
 generalize hpa:tabP a=pa at*
 generalize hpb:tabP b=pb at*
 generalize hdv:decide (a.vars=b.vars)=dv at*
 generalize hdp:decide ((a.rows.map zar).Perm (b.rows.map zar))=dp at*
 clear ha0 hb0 hva hra hcva hcra hvb hrb hcvb hcrb hG hW1 b1 u3 hpa hpb hdv hdp hwa hwb
 cases pa with
 | false=>
   try simp only [Bool.false_and]
   go_enter Tryz.func35,Tryz.ntmps35
   go_upto_region 1 with fail
   rw [← HW.out]
   go_wp2_with (first
    |((with_reducible refine zai (.tmp 2) W.heap.size 25 25 [.slice pA a.vars.length kA,.slice qA a.rows.length lA] 2 _ u2 rfl Tryz.underlying25 rfl zah ?_ ?_ ?_ ?_);rfl;rfl;rfl)
    |((with_reducible refine zan ?_ (.tmp 3) (W.heap.size+1) 25 25 [.slice pB b.vars.length kB,.slice qB b.rows.length lB] 2 _ u3b rfl Tryz.underlying25 rfl zah ?_ ?_ ?_);rfl;rfl;rfl)
    |(go_at_call 14;(with_reducible refine H1.out.mono ?_);rintro e w2 ⟨rfl,hb2⟩;have u3b:=(hb2.block _ (zaa HU.out.2)).trans HU.out.2)
    |(go_at_call 14;(with_reducible refine (H2.out _ hb2).mono ?_);rintro e w3 ⟨rfl,hb3⟩;have b3:=zab hb2 hb3 hb2.size;have c2:=zad ((b3.block _ (zaa HU.out.1)).trans HU.out.1) 0 rfl;have c3:=zad ((b3.block _ (zaa HU.out.2)).trans HU.out.2) 0 rfl)
    |(go_at_call 87;(with_reducible refine (H3.out _ b3).mono ?_);rintro e w4 ⟨rfl,hb4⟩;have b4:=zab b3 hb4 b3.size;have d2:=zad ((b4.block _ (zaa HU.out.1)).trans HU.out.1) 1 rfl;have d3:=zad ((b4.block _ (zaa HU.out.2)).trans HU.out.2) 1 rfl)
    |(go_at_call 88;(with_reducible refine (H4.out (by simp) (by simp) _ b4).mono ?_);rintro e w5 ⟨rfl,hb5⟩))
   go_ret
   exact ⟨by first | rfl | simp,HB1.out.trans ((hb2).mono HB1.out.size)⟩
 | true=>
   cases pb with
   | false=>
     try simp only [Bool.false_and,Bool.and_false]
     go_enter Tryz.func35,Tryz.ntmps35
     go_upto_region 1 with fail
     rw [← HW.out]
     go_wp2_with (first
      |((with_reducible refine zai (.tmp 2) W.heap.size 25 25 [.slice pA a.vars.length kA,.slice qA a.rows.length lA] 2 _ u2 rfl Tryz.underlying25 rfl zah ?_ ?_ ?_ ?_);rfl;rfl;rfl)
      |((with_reducible refine zan ?_ (.tmp 3) (W.heap.size+1) 25 25 [.slice pB b.vars.length kB,.slice qB b.rows.length lB] 2 _ u3b rfl Tryz.underlying25 rfl zah ?_ ?_ ?_);rfl;rfl;rfl)
      |(go_at_call 14;(with_reducible refine H1.out.mono ?_);rintro e w2 ⟨rfl,hb2⟩;have u3b:=(hb2.block _ (zaa HU.out.2)).trans HU.out.2)
      |(go_at_call 14;(with_reducible refine (H2.out _ hb2).mono ?_);rintro e w3 ⟨rfl,hb3⟩;have b3:=zab hb2 hb3 hb2.size;have c2:=zad ((b3.block _ (zaa HU.out.1)).trans HU.out.1) 0 rfl;have c3:=zad ((b3.block _ (zaa HU.out.2)).trans HU.out.2) 0 rfl)
      |(go_at_call 87;(with_reducible refine (H3.out _ b3).mono ?_);rintro e w4 ⟨rfl,hb4⟩;have b4:=zab b3 hb4 b3.size;have d2:=zad ((b4.block _ (zaa HU.out.1)).trans HU.out.1) 1 rfl;have d3:=zad ((b4.block _ (zaa HU.out.2)).trans HU.out.2) 1 rfl)
      |(go_at_call 88;(with_reducible refine (H4.out (by simp) (by simp) _ b4).mono ?_);rintro e w5 ⟨rfl,hb5⟩))
     go_ret
     exact ⟨by first | rfl | simp,HB1.out.trans ((zab hb2 hb3 hb2.size).mono HB1.out.size)⟩
   | true=>
     cases dv with
     | false=>
       try simp only [Bool.false_and,Bool.and_false,Bool.and_true]
       go_enter Tryz.func35,Tryz.ntmps35
       go_upto_region 1 with fail
       rw [← HW.out]
       go_wp2_with (first
        |((with_reducible refine zai (.tmp 2) W.heap.size 25 25 [.slice pA a.vars.length kA,.slice qA a.rows.length lA] 2 _ u2 rfl Tryz.underlying25 rfl zah ?_ ?_ ?_ ?_);rfl;rfl;rfl)
        |((with_reducible refine zan ?_ (.tmp 3) (W.heap.size+1) 25 25 [.slice pB b.vars.length kB,.slice qB b.rows.length lB] 2 _ u3b rfl Tryz.underlying25 rfl zah ?_ ?_ ?_);rfl;rfl;rfl)
        |(go_at_call 14;(with_reducible refine H1.out.mono ?_);rintro e w2 ⟨rfl,hb2⟩;have u3b:=(hb2.block _ (zaa HU.out.2)).trans HU.out.2)
        |(go_at_call 14;(with_reducible refine (H2.out _ hb2).mono ?_);rintro e w3 ⟨rfl,hb3⟩;have b3:=zab hb2 hb3 hb2.size;have c2:=zad ((b3.block _ (zaa HU.out.1)).trans HU.out.1) 0 rfl;have c3:=zad ((b3.block _ (zaa HU.out.2)).trans HU.out.2) 0 rfl)
        |(go_at_call 87;(with_reducible refine (H3.out _ b3).mono ?_);rintro e w4 ⟨rfl,hb4⟩;have b4:=zab b3 hb4 b3.size;have d2:=zad ((b4.block _ (zaa HU.out.1)).trans HU.out.1) 1 rfl;have d3:=zad ((b4.block _ (zaa HU.out.2)).trans HU.out.2) 1 rfl)
        |(go_at_call 88;(with_reducible refine (H4.out (by simp) (by simp) _ b4).mono ?_);rintro e w5 ⟨rfl,hb5⟩))
       go_ret
       exact ⟨by first | rfl | simp,HB1.out.trans ((zab b3 hb4 b3.size).mono HB1.out.size)⟩
     | true=>
       cases dp with
       | false=>
         try simp only [Bool.and_false,Bool.and_true]
         go_enter Tryz.func35,Tryz.ntmps35
         go_upto_region 1 with fail
         rw [← HW.out]
         go_wp2_with (first
          |((with_reducible refine zai (.tmp 2) W.heap.size 25 25 [.slice pA a.vars.length kA,.slice qA a.rows.length lA] 2 _ u2 rfl Tryz.underlying25 rfl zah ?_ ?_ ?_ ?_);rfl;rfl;rfl)
          |((with_reducible refine zan ?_ (.tmp 3) (W.heap.size+1) 25 25 [.slice pB b.vars.length kB,.slice qB b.rows.length lB] 2 _ u3b rfl Tryz.underlying25 rfl zah ?_ ?_ ?_);rfl;rfl;rfl)
          |(go_at_call 14;(with_reducible refine H1.out.mono ?_);rintro e w2 ⟨rfl,hb2⟩;have u3b:=(hb2.block _ (zaa HU.out.2)).trans HU.out.2)
          |(go_at_call 14;(with_reducible refine (H2.out _ hb2).mono ?_);rintro e w3 ⟨rfl,hb3⟩;have b3:=zab hb2 hb3 hb2.size;have c2:=zad ((b3.block _ (zaa HU.out.1)).trans HU.out.1) 0 rfl;have c3:=zad ((b3.block _ (zaa HU.out.2)).trans HU.out.2) 0 rfl)
          |(go_at_call 87;(with_reducible refine (H3.out _ b3).mono ?_);rintro e w4 ⟨rfl,hb4⟩;have b4:=zab b3 hb4 b3.size;have d2:=zad ((b4.block _ (zaa HU.out.1)).trans HU.out.1) 1 rfl;have d3:=zad ((b4.block _ (zaa HU.out.2)).trans HU.out.2) 1 rfl)
          |(go_at_call 88;(with_reducible refine (H4.out (by simp) (by simp) _ b4).mono ?_);rintro e w5 ⟨rfl,hb5⟩))
         go_ret
         exact ⟨by first | rfl | simp,HB1.out.trans ((zab b4 hb5 b4.size).mono HB1.out.size)⟩
       | true=>
         try simp only [Bool.and_true]
         go_enter Tryz.func35,Tryz.ntmps35
         go_upto_region 1 with fail
         rw [← HW.out]
         go_wp2_with (first
          |((with_reducible refine zai (.tmp 2) W.heap.size 25 25 [.slice pA a.vars.length kA,.slice qA a.rows.length lA] 2 _ u2 rfl Tryz.underlying25 rfl zah ?_ ?_ ?_ ?_);rfl;rfl;rfl)
          |((with_reducible refine zan ?_ (.tmp 3) (W.heap.size+1) 25 25 [.slice pB b.vars.length kB,.slice qB b.rows.length lB] 2 _ u3b rfl Tryz.underlying25 rfl zah ?_ ?_ ?_);rfl;rfl;rfl)
          |(go_at_call 14;(with_reducible refine H1.out.mono ?_);rintro e w2 ⟨rfl,hb2⟩;have u3b:=(hb2.block _ (zaa HU.out.2)).trans HU.out.2)
          |(go_at_call 14;(with_reducible refine (H2.out _ hb2).mono ?_);rintro e w3 ⟨rfl,hb3⟩;have b3:=zab hb2 hb3 hb2.size;have c2:=zad ((b3.block _ (zaa HU.out.1)).trans HU.out.1) 0 rfl;have c3:=zad ((b3.block _ (zaa HU.out.2)).trans HU.out.2) 0 rfl)
          |(go_at_call 87;(with_reducible refine (H3.out _ b3).mono ?_);rintro e w4 ⟨rfl,hb4⟩;have b4:=zab b3 hb4 b3.size;have d2:=zad ((b4.block _ (zaa HU.out.1)).trans HU.out.1) 1 rfl;have d3:=zad ((b4.block _ (zaa HU.out.2)).trans HU.out.2) 1 rfl)
          |(go_at_call 88;(with_reducible refine (H4.out (by simp) (by simp) _ b4).mono ?_);rintro e w5 ⟨rfl,hb5⟩))
         go_ret
         exact ⟨by first | rfl | simp,HB1.out.trans ((zab b4 hb5 b4.size).mono HB1.out.size)⟩
theorem z2f:mayP ziq 0=true:=by decide
theorem zr5 {vs:List ByteArray} (h:vs.Nodup):zci vs=true:=by
 unfold zci
 rw [decide_eq_true_eq]
 unfold List.Nodup
 rw [List.pairwise_map]
 exact h.imp fun q e=>q (zui e)
theorem zzs {vs:List ByteArray} (h1:vs.length≤64) (h2:∀ x∈vs,zcc x=true) (h3:vs.Nodup):zi4 vs=true:=by
 unfold zi4
 simp only [Bool.and_eq_true,decide_eq_true_eq,List.all_eq_true]
 exact ⟨⟨h1,h2⟩,zr5 h3⟩
theorem z34 {t:TabL} (hv:zi4 t.vars=true) (hr:∀ r∈t.rows,r.length=t.vars.length) (hm:∀ r∈t.rows,∀ v∈r,mayP v 0=true):tabP t=true:=by
 unfold tabP
 simp only [Bool.and_eq_true,List.all_eq_true]
 refine ⟨hv,fun r h=>?_⟩
 unfold rowP
 simp only [Bool.and_eq_true,decide_eq_true_eq,List.all_eq_true]
 exact ⟨hr r h,hm r h⟩
theorem zzt (r:List Val) (k:Nat):zfx r (k:Int)=atV r k:=by
 unfold zfx
 rw [if_neg (by omega)]
 simp
theorem z2g {a b:TabL} (ha:tabP a=true) (hb:tabP b=true):zr0 a b=⟨a.vars,a.rows.filter fun r=>!zfq (zay a.vars b.vars) r b.rows⟩:=by
 unfold zr0
 rw [if_pos (by rw [ha,hb];rfl)]
theorem zzu {α β:Type} (f:α→Bool) (g:α→β) (d:α) (all:List α):(l:List α)→(k:Nat)→(∀ j,j < l.length→all.getD (k+j) d=l.getD j d)→((l.zipIdx k).filter fun p=>f p.1).map (fun p=>g (all.getD p.2 d))=(l.filter f).map g
 | [],_,_=>rfl
 | x::r,k,h=>by
   have h0:all.getD k d=x:=by simpa using h 0 (by simp)
   have ih:=zzu f g d all r (k+1) (fun j hj=>by
    have:=h (j+1) (by simpa using hj)
    rw [show k+1+j=k+(j+1) by omega,this]
    simp)
   rw [List.zipIdx_cons,List.filter_cons,List.filter_cons]
   by_cases q:f x=true
   ·rw [if_pos q,if_pos q,List.map_cons,List.map_cons,ih,h0]
   ·rw [if_neg q,if_neg q,ih]
theorem zpn (sh:List (Nat × Nat)) (src:List (Int × Int)) (rows:List (List Val)) (x:List Val):zlz sh src rows x=(rows.filter (fitB sh x)).map (zh7 src x):=by
 unfold zlz fitN
 rw [List.map_map]
 exact zzu (fitB sh x) (zh7 src x) [] rows rows 0 (fun j _=>by rw [Nat.zero_add])
theorem join_eq {a b:TabL} (ha:tabP a=true) (hb:tabP b=true) (hl:a.vars.length+b.vars.length≤64):
 zoq a b=⟨zb4 a.vars b.vars,zbl (zay a.vars b.vars) (srcP (zb4 a.vars b.vars) a.vars b.vars) a.rows b.rows⟩:=by
 unfold zoq
 rw [if_pos ⟨by rw [ha,hb];rfl,Nat.le_trans (zrz _ _) hl⟩]
mutual
def ztk:Val→Nat
 | .mk _ _ _ t x l=>1+t.size / 64+x.size / 64+zk7 l
def zk7:List Val→Nat
 | []=>0
 | v::r=>ztk v+zk7 r
end
mutual
theorem sz_le:(v:Val)→ztk v≤wOne v
 | .mk k b n t x l=>by
   have h:=zuz l
   unfold ztk wOne
   omega
theorem zuz:(l:List Val)→zk7 l≤wAll l
 | []=>by unfold zk7;omega
 | v::r=>by
   have h1:=sz_le v
   have h2:=zuz r
   unfold zk7 wAll
   omega
end
mutual
theorem w_le:(v:Val)→wOne v≤127*ztk v
 | .mk k b n t x l=>by
   have h:=ws_le l
   unfold ztk wOne
   omega
theorem ws_le:(l:List Val)→wAll l≤127*zk7 l
 | []=>by unfold wAll;omega
 | v::r=>by
   have h1:=w_le v
   have h2:=ws_le r
   unfold zk7 wAll
   omega
end
mutual
theorem zwo:(v:Val)→(n:Int)→0≤n→n+wOne v≤1152921504606846976→zi2 v n=n+ztk v
 | .mk k b m t x l,n,h0,h=>by
   unfold wOne at h
   have hs:=zuz l
   have e:=zl1 l 0 (by omega) (by omega)
   unfold zi2 ztk
   rw [e]
   unfold addW wrap64
   omega
theorem zl1:(l:List Val)→(n:Int)→0≤n→n+wAll l≤1152921504606846976→zbq l n=n+zk7 l
 | [],n,_,_=>by unfold zbq zk7;omega
 | v::r,n,h0,h=>by
   unfold wAll at h
   have h1:=sz_le v
   unfold zbq zk7
   rw [zwo v n h0 (by omega),zl1 r _ (by omega) (by omega)]
   omega
end
def zby:List (List Val)→Int→Int
 | [],n=>n
 | r::l,n=>zby l (addW (addW n 1) (zbq r 0))
theorem zk8:(l:List (List Val))→(n:Int)→(j:Nat)→(h:j < l.length)→zby (l.take (j+1)) n=addW (addW (zby (l.take j) n) 1) (zbq (l[j]'h) 0)
 | [],_,j,h=>absurd h (by simp)
 | v::r,n,0,_=>by
   show zby (v::r.take 0) n=addW (addW (zby [] n) 1) (zbq v 0)
   simp [zby]
 | v::r,n,j+1,h=>by
   show zby (v::r.take (j+1)) n=addW (addW (zby (v::r.take j) n) 1) (zbq (r[j]'(by simpa using h)) 0)
   unfold zby
   exact zk8 r _ j (by simpa using h)
def zoa:List (List Val)→Nat
 | []=>0
 | r::l=>1+zk7 r+zoa l
theorem zi9:(l:List (List Val))→(n:Int)→0≤n→(∀ r∈l,wAll r≤2097152)→n+4194304*l.length≤1152921504606846976→zby l n=n+zoa l
 | [],n,_,_,_=>by unfold zby zoa;omega
 | r::l,n,h0,hw,h=>by
   have h1:=hw r (by simp)
   have hs:=zuz r
   rw [List.length_cons] at h
   unfold zby zoa
   have e1:zbq r 0=zk7 r:=by rw [zl1 r 0 (by omega) (by omega)];omega
   have e2:addW (addW n 1) (zbq r 0)=n+(1+zk7 r:Nat):=by
    rw [e1]
    unfold addW wrap64
    omega
   rw [e2,zi9 l _ (by omega) (fun q hq=>hw q (by simp [hq])) (by omega)]
   omega
theorem zpo:{l:List (List Val)}→{r:List Val}→r∈l→zk7 r≤zoa l
 | q::l,r,h=>by
   unfold zoa
   rcases List.mem_cons.1 h with e | h
   ·subst e;omega
   ·have:=zpo h;omega
theorem zu0 (m:Nat):(l:List Val)→(∀ v∈l,wOne v≤m)→wAll l≤l.length*m
 | [],_=>by unfold wAll;omega
 | v::r,h=>by
   have h1:=h v (by simp)
   have h2:=zu0 m r (fun u hu=>h u (by simp [hu]))
   unfold wAll
   rw [List.length_cons,Nat.add_mul,Nat.one_mul]
   omega
def zu1 (l:List (List Val)):Prop:=∀ r∈l,∀ v∈r,wOne v≤381000
theorem zr6 {r:List Val} (hn:r.length≤64) (h:∀ v∈r,wOne v≤381000):13*wAll r≤700000000:=by
 have h1:=zu0 381000 r h
 have h2:r.length*381000≤64*381000:=Nat.mul_le_mul_right _ hn
 omega
theorem zl2:wOne ziq≤381000:=by
 show 1+0+0+0≤381000
 omega
theorem zwp {r:List Val} (h:∀ v∈r,wOne v≤381000) (c:Int):wOne (zfx r c)≤381000:=by
 unfold zfx
 split
 ·exact zl2
 ·by_cases q:c.toNat < r.length
  ·rw [zhz q]
   exact h _ (List.getElem_mem q)
  ·unfold atV
   rw [List.getD_eq_getElem?_getD,List.getElem?_eq_none (by omega)]
   exact zl2
theorem zu2 {r:List Val} (h:∀ v∈r,wOne v≤381000) (i:Nat):wOne (atV r i)≤381000:=by
 have:=zwp h (i:Int)
 rwa [zzt] at this
theorem wt_ok {a b:TabL} (ha:tabP a=true) (_hb:tabP b=true) (h1:zu1 a.rows) (h2:zu1 b.rows):WtOk a b:=by
 have hs:(zay a.vars b.vars).length≤64:=Nat.le_trans (ze8 _ _) (zn7 (zh6 ha))
 constructor
 ·intro r hr
  refine zr6 (by simpa [zbw] using hs) fun v hv=>?_
  obtain ⟨i,_,rfl⟩:=List.mem_map.1 hv
  exact zu2 (h1 r hr) i
 ·intro r hr
  refine zr6 (by simpa [zbi] using hs) fun v hv=>?_
  obtain ⟨i,_,rfl⟩:=List.mem_map.1 hv
  exact zu2 (h2 r hr) i
theorem zpp (V:Value) (l:List (List Val)) (W:World) (h:zag rowE W (Old W) V l) (hn:l.length≤2097152):Calls Tryz.prog 48 #[V] W fun e w'=>e=.returned (.int .i64 (zby l 0))∧Below W.heap.size W w':=by
 obtain ⟨p,cap,rfl⟩:=h.slice
 obtain ⟨n,hl⟩:∃ n,n=l.length:=⟨_,rfl⟩
 rw [← hl]
 rw [← hl] at hn
 have HC:=Lib.hid h
 have HL:=Lib.hid hl
 clear h hl
 go_enter Tryz.func48,Tryz.ntmps48
 go_wp2_with fail
 go_loopg [3,4] n (fun gg s3 s4 wr=>∃ (j:Nat) (z:Int),j+gg=n∧s4=.int .i64 j∧s3=.int .i64 z∧Hid (z=zby (l.take j) 0)∧Hid (Below W.heap.size W wr))
 case atStart=>exact ⟨0,0,by omega,rfl,rfl,Lib.hid (by simp [zby]),Lib.hid (Below.refl _ _)⟩
 case round=>
  obtain ⟨j,z,hjg,rfl,rfl,HZ,HB⟩:=hrel
  by_cases hj:(j:Int) < n
  ·have hj1:j < l.length:=by have:=HL.out;omega
   obtain ⟨g,off,cap',c,e0,hg,hrl,hra⟩:=(HC.out.stays (zae HB.out)).at_ j hj1
   injection e0 with e1 e2 e3
   subst e1 e3
   obtain ⟨row,hrow⟩:∃ row,row=l[j]:=⟨_,rfl⟩
   rw [← hrow] at hrl
   obtain ⟨u,rfl,hu,hcu,hlu⟩:=hrl
   have hh:=zbb.held row (zbs row hu)
   obtain ⟨pu,ku,rfl⟩:=hu.slice
   have cj:wr.cell? ⟨g,off+j,none⟩=some (.slice pu row.length ku):=by
    have:=hra 0 _ rfl
    simpa [rowE] using this
   have HS:=Lib.hid (zrc row pu ku wr hh hlu (zp8 row))
   have HZ2:Hid (zby (l.take (j+1)) 0=wrap64 (wrap64 (z+1)+zbq row 0)):=Lib.hid (by
    rw [zk8 l 0 j hj1,← HZ.out,← hrow]
    rfl)
   clear hra hg hu hcu hrow e2 hh HZ
   generalize zbq row 0=zr at*
   generalize row.length=lr at*
   go_wp2_with (first |(go_at_call 96;(with_reducible refine HS.out.mono ?_);rintro e w1 ⟨rfl,mm,rfl⟩))
   go_roundg (gk - 1)
   case measure=>omega
   case rel=>exact ⟨j+1,_,by omega,by go_num,rfl,Lib.hid HZ2.out.symm,Lib.hid (HB.out.trans ((zcu (Below.refl _ wr) mm).mono HB.out.size))⟩
  ·have HE:Hid (zby l 0=z):=Lib.hid (by
    have h:=HZ.out
    rw [List.take_of_length_le (by have:=HL.out;omega)] at h
    exact h.symm)
   go_wp2_with fail
   go_ret
   exact ⟨by rw [HE.out];rfl,HB.out⟩
def zmm (a b:TabL):Bool:=decide (zby a.rows 0≤3000) && decide (zby b.rows 0≤3000) && decide (a.rows.length≤60) && decide (b.rows.length≤60) && decide (a.vars.length≤100) && decide (b.vars.length≤100)
theorem zpq (V:Value) (ts:List ByteArray) (t:ByteArray) (P:Nat→Prop) (W:World) (h:zag za1 W P V ts) (hn:ts.length≤2097152):Calls Tryz.prog 38 #[V,.string t] W fun e w'=>e=.returned (.int .i64 (zcm (zbn t ts)))∧W=w':=by
 obtain ⟨p,cap,rfl⟩:=h.slice
 obtain ⟨n,hl⟩:∃ n,n=ts.length:=⟨_,rfl⟩
 obtain ⟨r,hr⟩:∃ r,r=zcm (zbn t ts):=⟨_,rfl⟩
 rw [← hr,← hl]
 rw [← hl] at hn
 have HC:=Lib.hid h
 have HL:=Lib.hid hl
 have HR:=Lib.hid hr
 clear h hl hr
 go_enter Tryz.func38,Tryz.ntmps38
 go_wp2_with fail
 go_loopg [5] n (fun gg s5 wr=>∃ j:Nat,j+gg=n∧s5=.int .i64 j∧Hid (∀ i (h:i < ts.length),i < j→ts[i]≠t)∧wr=W)
 case atStart=>exact ⟨0,by omega,rfl,Lib.hid (fun i _ h=>absurd h (by omega)),rfl⟩
 case round=>
  obtain ⟨j,hjg,rfl,HA,rfl⟩:=hrel
  by_cases hj:(j:Int) < n
  ·have hj1:j < ts.length:=by have:=HL.out;omega
   obtain ⟨g,off,cap',c,e0,hg,hrl,hra⟩:=HC.out.at_ j hj1
   injection e0 with e1 e2 e3
   subst e1
   obtain ⟨y,hy⟩:∃ y,y=ts[j]:=⟨_,rfl⟩
   obtain ⟨rfl,hwf⟩:=hrl
   have cj:wr.cell? ⟨g,off+j,none⟩=some (.string y):=by
    have:=hra 0 _ rfl
    rw [hy]
    simpa [za1] using this
   have HY:=Lib.hid hy
   clear hra hy hg hwf e2 e3
   by_cases q:t=y
   ·subst q
    have HR2:Hid (r=j):=Lib.hid (by rw [HR.out,zmb hj1 HY.out.symm HA.out];rfl)
    go_wp2_with fail
    go_ret
    exact ⟨by rw [HR2.out];rfl,rfl⟩
   ·have q2:(y.toList == t.toList)=false:=zp9 fun e=>q e.symm
    have HA2:Hid (∀ i (h:i < ts.length),i < j+1→ts[i]≠t):=Lib.hid fun i h1 h2=>by
     by_cases e:i=j
     ·subst e
      rw [← HY.out]
      exact fun z=>q z.symm
     ·exact HA.out i h1 (by omega)
    clear q
    go_wp2_with fail
    go_roundg (gk - 1)
    case measure=>omega
    case rel=>exact ⟨j+1,by omega,by go_num,HA2,rfl⟩
  ·have HR2:Hid (r=-1):=Lib.hid (by
    rw [HR.out,zi3.2 fun x hx=>?_]
    ·rfl
    ·obtain ⟨i,hi,rfl⟩:=List.getElem_of_mem hx
     exact HA.out i hi (by have:=HL.out;omega))
   go_wp2_with fail
   go_ret
   exact ⟨by rw [HR2.out];rfl,rfl⟩
def zfb (ls:List ByteArray):Bool:=ls.all zcc && zci ls
theorem zwq (ls:List ByteArray) (i:Nat) (hi:i < ls.length):zfb (ls.take (i+1))=(zfb (ls.take i) && (zcc ls[i] && !memB ls[i] (ls.take i))):=by
 unfold zfb
 rw [zi5 ls i hi,List.take_succ_eq_append_getElem hi,List.all_append]
 simp only [List.all_cons,List.all_nil,Bool.and_true]
 generalize (ls.take i).all zcc=a
 generalize zcc ls[i]=b
 generalize zci (ls.take i)=c
 generalize memB ls[i] (ls.take i)=d
 revert a b c d
 decide
theorem ztl {ls:List ByteArray} {i:Nat} (hi:i < ls.length) (h:(zcc ls[i] && !memB ls[i] (ls.take i))=false):zfb ls=false:=by
 rw [Bool.and_eq_false_iff] at h
 unfold zfb
 rw [Bool.and_eq_false_iff]
 rcases h with h | h
 ·left
  rw [List.all_eq_false]
  exact ⟨_,List.getElem_mem hi,by rw [h];simp⟩
 ·right
  exact zmc hi (by simpa using h)
theorem zzv {t:ByteArray} {ts:List ByteArray} (h:memB t ts=true):0≤zcm (zbn t ts):=by
 unfold memB at h
 obtain ⟨k,hk⟩:=Option.isSome_iff_exists.1 h
 rw [hk]
 exact Int.natCast_nonneg k
theorem zzw {t:ByteArray} {ts:List ByteArray} (h:memB t ts=false):zcm (zbn t ts) < 0:=by
 unfold memB at h
 rw [Option.isSome_eq_false_iff,Option.isNone_iff_eq_none] at h
 rw [h]
 decide
theorem ztm (V:Value) (ts:List ByteArray) (W:World) (h:zag za1 W (Old W) V ts) (hcap:capK V) (hn:ts.length≤2097152):Calls Tryz.prog 17 #[V] W fun e w'=>e=.returned (.bool (zfb ts))∧Below W.heap.size W w':=by
 obtain ⟨p,cap,rfl⟩:=h.slice
 have hcp:=hcap.1 p _ cap rfl
 obtain ⟨n,hl⟩:∃ n,n=ts.length:=⟨_,rfl⟩
 obtain ⟨r,hr⟩:∃ r,r=zfb ts:=⟨_,rfl⟩
 rw [← hr,← hl]
 rw [← hl] at hn hcp
 have HC:=Lib.hid h
 have HL:=Lib.hid hl
 have HR:=Lib.hid hr
 clear h hl hr hcap
 go_enter Tryz.func17,Tryz.ntmps17
 go_wp2_with fail
 go_loopg [3] n (fun gg s3 wr=>∃ j:Nat,j+gg=n∧s3=.int .i64 j∧Hid (zfb (ts.take j)=true)∧Hid (Below W.heap.size W wr))
 case atStart=>exact ⟨0,by omega,rfl,Lib.hid (by simp [zfb,zci]),Lib.hid (Below.refl _ _)⟩
 case round=>
  obtain ⟨j,hjg,rfl,HA,HB⟩:=hrel
  by_cases hj:(j:Int) < n
  ·have hj1:j < ts.length:=by have:=HL.out;omega
   have HCr:=HC.out.stays (zae HB.out)
   obtain ⟨g,off,cap',c,e0,hg,hrl,hra⟩:=HCr.at_ j hj1
   injection e0 with e1 e2 e3
   subst e1
   obtain ⟨t,hte⟩:∃ t,t=ts[j]:=⟨_,rfl⟩
   obtain ⟨rfl,hwf⟩:=hrl
   have cj:wr.cell? ⟨g,off+j,none⟩=some (.string t):=by
    have:=hra 0 _ rfl
    rw [hte]
    simpa [za1] using this
   have hts:t.size≤2097152:=by rw [hte];exact hwf
   have hpre:zag za1 wr (Old wr) (.slice (some ⟨g,off,none⟩) j cap) (ts.take j):=HCr.take j (by omega)
   have hjc:j≤cap:=by omega
   have hjc2:(j:Int)≤cap:=by omega
   have HW:=Lib.hid (fun W'=>zyn t W' (Nat.le_trans hts (by decide)))
   have HI:=Lib.hid (fun W' (b:Below wr.heap.size wr W')=>zpq _ (ts.take j) t _ W' (hpre.stays (zae b)) (by rw [List.length_take];omega))
   obtain ⟨r1,hr1⟩:∃ r1,r1=zcc t:=⟨_,rfl⟩
   obtain ⟨z2,hz2⟩:∃ z2,z2=zcm (zbn t (ts.take j)):=⟨_,rfl⟩
   have hp1:=@zzv t (ts.take j)
   have hp2:=@zzw t (ts.take j)
   obtain ⟨r2,hr2⟩:∃ r2,r2=memB t (ts.take j):=⟨_,rfl⟩
   rw [← hr1] at HW
   rw [← hz2] at HI hp1 hp2
   rw [← hr2] at hp1 hp2
   have HZ:Hid ((r1 && !r2)=false→r=false):=Lib.hid fun h=>by
    rw [HR.out]
    refine ztl hj1 ?_
    rw [← hte,← hr1,← hr2]
    exact h
   have HY:Hid ((r1 && !r2)=true→zfb (ts.take (j+1))=true):=Lib.hid fun h=>by
    rw [zwq ts j hj1,HA.out,← hte,← hr1,← hr2,h]
    rfl
   clear hra e2 e3 hte hr1 hr2 hz2 hpre HA hg hwf HCr
   have hB:=HB.out
   have ck:=Below.refl wr.heap.size wr
   clear HB
   cases r1 with
   | false=>
     obtain rfl:r=false:=HZ.out rfl
     clear hp1 hp2
     go_upto_region 4 with fail
     refine wp_region_held_drew (S:=fun W'=>W'.cell? ⟨g,off+j,none⟩=some (.string t)) (by kernel_rfl) cj (fun _=>?_)
     replace cj:wr.drew.cell? ⟨g,off+j,none⟩=_:=cj
     replace hB:=hB.drew
     replace ck:=ck.drew
     generalize wr.drew=wD at*
     refine tg (i:=0) (.slice (some ⟨g,off,none⟩) n cap) rfl (cj) ?_
     refine tg (i:=1) (.int .i64 (j:Int)) rfl (cj) ?_
     refine tg (i:=2) (.pointer (some ⟨g,off+j,none⟩)) rfl (cj) ?_
     refine tk (i:=3) (v:=.string t) rfl (Or.inl ⟨by rfl,fun W' h=>by have c0:=h;go_simp⟩) (cj) ?_
     refine tr 4 rfl (fun K hK=>?_)
     rw [if_pos (by rfl)]
     go_simp
     refine (HW.out _).mono ?_
     rintro e0 w3 ⟨rfl,rfl⟩
     refine hK.out _ _ (cj) (fun _=>?_)
     clear hK K
     try simp only [putS]
     refine tg (i:=5) (.bool true) rfl (cj) ?_
     refine tg (i:=6) (.bool true) rfl (cj) ?_
     refine tn (i:=7) rfl (cj) ?_
     refine tn (i:=8) rfl (cj) ?_
     refine tn (i:=10) rfl (cj) ?_
     refine tn (i:=11) rfl (cj) ?_
     refine tn (i:=9) rfl (cj) ?_
     refine tn (i:=12) rfl (cj) ?_
     refine tn (i:=13) rfl (cj) ?_
     refine tn (i:=14) rfl (cj) ?_
     refine tn (i:=15) rfl (cj) ?_
     refine tg (i:=16) (.bool true) rfl (cj) ?_
     refine wpAnyH_done (by kernel_rfl) ?_ _
     go_wp2_with fail
     go_ret
     exact ⟨rfl,hB⟩
   | true=>
     cases r2 with
     | true=>
       obtain rfl:r=false:=HZ.out rfl
       have hz:0≤z2:=hp1 rfl
       clear hp1 hp2
       go_upto_region 4 with fail
       refine wp_region_held_drew (S:=fun W'=>W'.cell? ⟨g,off+j,none⟩=some (.string t)) (by kernel_rfl) cj (fun _=>?_)
       replace cj:wr.drew.cell? ⟨g,off+j,none⟩=_:=cj
       replace hB:=hB.drew
       replace ck:=ck.drew
       generalize wr.drew=wD at*
       refine tg (i:=0) (.slice (some ⟨g,off,none⟩) n cap) rfl (cj) ?_
       refine tg (i:=1) (.int .i64 (j:Int)) rfl (cj) ?_
       refine tg (i:=2) (.pointer (some ⟨g,off+j,none⟩)) rfl (cj) ?_
       refine tk (i:=3) (v:=.string t) rfl (Or.inl ⟨by rfl,fun W' h=>by have c0:=h;go_simp⟩) (cj) ?_
       refine tr 4 rfl (fun K hK=>?_)
       rw [if_pos (by rfl)]
       go_simp
       refine (HW.out _).mono ?_
       rintro e0 w3 ⟨rfl,rfl⟩
       refine hK.out _ _ (cj) (fun _=>?_)
       clear hK K
       try simp only [putS]
       refine tg (i:=5) (.bool false) rfl (cj) ?_
       refine tg (i:=6) (.bool false) rfl (cj) ?_
       refine tg (i:=7) (.slice (some ⟨g,off,none⟩) n cap) rfl (cj) ?_
       refine tg (i:=8) (.int .i64 (j:Int)) rfl (cj) ?_
       refine tg (i:=10) (.slice (some ⟨g,off,none⟩) n cap) rfl (cj) ?_
       refine tg (i:=11) (.int .i64 (j:Int)) rfl (cj) ?_
       refine tg (i:=9) (.slice (some ⟨g,off,none⟩) j cap) rfl (cj) ?_
       refine tg (i:=12) (.pointer (some ⟨g,off+j,none⟩)) rfl (cj) ?_
       refine tk (i:=13) (v:=.string t) rfl (Or.inl ⟨by rfl,fun W' h=>by have c0:=h;go_simp⟩) (cj) ?_
       refine tr 14 rfl (fun K hK=>?_)
       rw [if_pos (by rfl)]
       go_simp
       refine (HI.out _ ck).mono ?_
       rintro e0 w4 ⟨rfl,rfl⟩
       refine hK.out _ _ (cj) (fun _=>?_)
       clear hK K
       try simp only [putS]
       refine tg (i:=15) (.bool true) rfl (cj) ?_
       refine tg (i:=16) (.bool true) rfl (cj) ?_
       refine wpAnyH_done (by kernel_rfl) ?_ _
       go_wp2_with fail
       go_ret
       exact ⟨rfl,hB⟩
     | false=>
       have hz:¬ 0≤z2:=by have:=hp2 rfl;omega
       clear hp1 hp2
       go_upto_region 4 with fail
       refine wp_region_held_drew (S:=fun W'=>W'.cell? ⟨g,off+j,none⟩=some (.string t)) (by kernel_rfl) cj (fun _=>?_)
       replace cj:wr.drew.cell? ⟨g,off+j,none⟩=_:=cj
       replace hB:=hB.drew
       replace ck:=ck.drew
       generalize wr.drew=wD at*
       refine tg (i:=0) (.slice (some ⟨g,off,none⟩) n cap) rfl (cj) ?_
       refine tg (i:=1) (.int .i64 (j:Int)) rfl (cj) ?_
       refine tg (i:=2) (.pointer (some ⟨g,off+j,none⟩)) rfl (cj) ?_
       refine tk (i:=3) (v:=.string t) rfl (Or.inl ⟨by rfl,fun W' h=>by have c0:=h;go_simp⟩) (cj) ?_
       refine tr 4 rfl (fun K hK=>?_)
       rw [if_pos (by rfl)]
       go_simp
       refine (HW.out _).mono ?_
       rintro e0 w3 ⟨rfl,rfl⟩
       refine hK.out _ _ (cj) (fun _=>?_)
       clear hK K
       try simp only [putS]
       refine tg (i:=5) (.bool false) rfl (cj) ?_
       refine tg (i:=6) (.bool false) rfl (cj) ?_
       refine tg (i:=7) (.slice (some ⟨g,off,none⟩) n cap) rfl (cj) ?_
       refine tg (i:=8) (.int .i64 (j:Int)) rfl (cj) ?_
       refine tg (i:=10) (.slice (some ⟨g,off,none⟩) n cap) rfl (cj) ?_
       refine tg (i:=11) (.int .i64 (j:Int)) rfl (cj) ?_
       refine tg (i:=9) (.slice (some ⟨g,off,none⟩) j cap) rfl (cj) ?_
       refine tg (i:=12) (.pointer (some ⟨g,off+j,none⟩)) rfl (cj) ?_
       refine tk (i:=13) (v:=.string t) rfl (Or.inl ⟨by rfl,fun W' h=>by have c0:=h;go_simp⟩) (cj) ?_
       refine tr 14 rfl (fun K hK=>?_)
       rw [if_pos (by rfl)]
       go_simp
       refine (HI.out _ ck).mono ?_
       rintro e0 w4 ⟨rfl,rfl⟩
       refine hK.out _ _ (cj) (fun _=>?_)
       clear hK K
       try simp only [putS]
       refine tg (i:=15) (.bool false) rfl (cj) ?_
       refine tg (i:=16) (.bool false) rfl (cj) ?_
       refine wpAnyH_done (by kernel_rfl) ?_ _
       have HB3:=Lib.hid hB
       have HA3:=Lib.hid (HY.out rfl)
       clear hB cj ck HW HI HZ HY
       go_wp2_with fail
       go_roundg (gk - 1)
       case measure=>omega
       case rel=>exact ⟨j+1,by omega,by go_num,HA3,HB3⟩
  ·have HZ:Hid (r=true):=Lib.hid (by
    have h:=HA.out
    rw [List.take_of_length_le (by have:=HL.out;omega)] at h
    rw [HR.out,h])
   go_wp2_with fail
   go_ret
   exact ⟨by rw [HZ.out];rfl,HB.out⟩
theorem tabP_is (t:TabL):tabP t=(decide (t.vars.length≤64) && zfb t.vars && t.rows.all (rowP t.vars.length)):=by
 unfold tabP zi4 zfb
 rw [← Bool.and_assoc]
theorem zwr {n:Nat} {l:List (List Val)} {j:Nat} (hj:j < l.length) (h:rowP n l[j]=false):l.all (rowP n)=false:=by
 rw [List.all_eq_false]
 exact ⟨_,List.getElem_mem hj,by rw [h];simp⟩
theorem zzx {n:Nat} {l:List (List Val)} {j:Nat} (hj:j < l.length) (h:(l.take j).all (rowP n)=true) (h2:rowP n l[j]=true):(l.take (j+1)).all (rowP n)=true:=by
 rw [List.take_succ_eq_append_getElem hj,List.all_append,h]
 simp [h2]
theorem zws {r:List Val} {j:Nat} (hj:j < r.length) (h:(r.take j).all (mayP · 0)=true) (h2:mayP r[j] 0=true):(r.take (j+1)).all (mayP · 0)=true:=by
 rw [List.take_succ_eq_append_getElem hj,List.all_append,h]
 simp [h2]
theorem zwt {n:Nat} {r:List Val} (h:¬ r.length=n):rowP n r=false:=by
 unfold rowP
 rw [decide_eq_false h]
 rfl
theorem ztn {n:Nat} {r:List Val} {j:Nat} (hj:j < r.length) (h:mayP r[j] 0=false):rowP n r=false:=by
 unfold rowP
 rw [Bool.and_eq_false_iff]
 right
 rw [List.all_eq_false]
 exact ⟨_,List.getElem_mem hj,by rw [h];simp⟩
theorem row_yes {n:Nat} {r:List Val} (h:r.length=n) (h2:(r.take n).all (mayP · 0)=true):rowP n r=true:=by
 unfold rowP
 rw [decide_eq_true h,← h,List.take_length] at*
 rw [h2]
 rfl
theorem refMayV (v:Val) (c:List Value) (P:Nat→Prop) (w:World) (h:zc3 w P c v):Calls Tryz.prog 53 #[.agg c.toArray] w fun e w'=>e=.returned (.bool (mayP v 0))∧Below w.heap.size w w':=by
 obtain ⟨k,b,n,t,x,q⟩:=v
 obtain ⟨L,rfl,hf,hq⟩:=h
 obtain ⟨p,cap,rfl⟩:=zbu (zbb.held q hq)
 exact refMay k b n t x q p cap w hf (zbb.held q hq)
theorem zk9 (tb:TabL) (V R:Value) (W0:World) (h:tabE.rel W0 (Old W0) [V,R] tb):Calls Tryz.prog 13 #[.agg #[V,R]] W0 fun e w'=>e=.returned (.bool (tabP tb))∧Below W0.heap.size W0 w':=by
 obtain ⟨V',R',e,hv,hr,hcv,hcr,hlv,hlr⟩:=h
 cases e
 obtain ⟨pV,kV,rfl⟩:=hv.slice
 obtain ⟨pR,kR,rfl⟩:=hr.slice
 obtain ⟨W1,hW1⟩:∃ W1,W1=W0.alloc (.cells #[.slice pV tb.vars.length kV,.slice pR tb.rows.length kR] 25):=⟨_,rfl⟩
 have bw:Below W0.heap.size W0 W1:=by rw [hW1];exact za5 _ _
 obtain ⟨g0,hg0⟩:∃ g0,g0=W0.heap.size:=⟨_,rfl⟩
 have u1:W1.heap[g0]?=some (.cells #[.slice pV tb.vars.length kV,.slice pR tb.rows.length kR] 25):=by rw [hW1,hg0];exact zaf _ _ rfl
 have HU:=Lib.hid (ztm _ tb.vars W1 (hv.stays (zae bw)) hcv hlv)
 have HR:=Lib.hid (hr.stays (zae bw))
 obtain ⟨n,hn⟩:∃ n,n=tb.vars.length:=⟨_,rfl⟩
 obtain ⟨m,hm⟩:∃ m,m=tb.rows.length:=⟨_,rfl⟩
 obtain ⟨r,hrr⟩:∃ r,r=tabP tb:=⟨_,rfl⟩
 have hP:=tabP_is tb
 rw [← hrr] at hP ⊢
 rw [← hn] at hlv u1 hW1 HU hP ⊢
 rw [← hm] at hlr u1 hW1 HR ⊢
 have HP:=Lib.hid hP
 have HM:=Lib.hid hm
 have HW:=Lib.hid hW1
 have HG0:=Lib.hid hg0
 have HBW:=Lib.hid bw
 have c0:W1.cell? ⟨g0,0,none⟩=some (.slice pV n kV):=zad u1 0 rfl
 clear hv hr hcv hcr hrr hP hm hW1 bw hn hg0
 obtain ⟨s1,hs1⟩:∃ s1,s1=zfb tb.vars:=⟨_,rfl⟩
 rw [← hs1] at HU HP
 clear hs1
 by_cases hle:n≤64
 ·have h64:decide ((64:Int) < n)=false:=decide_eq_false (by omega)
  have HP2:Hid (r=(s1 && tb.rows.all (rowP n))):=Lib.hid (by rw [HP.out,decide_eq_true hle];rfl)
  clear HP
  cases s1 with
  | false=>
    obtain rfl:r=false:=by rw [HP2.out];rfl
    go_enter Tryz.func13,Tryz.ntmps13
    go_upto_region 1 with fail
    rw [← HW.out]
    rw [← HG0.out]
    go_wp2_with (first |(go_at_call 17;(with_reducible refine HU.out.mono ?_);rintro e w1 ⟨rfl,hb1⟩))
    go_ret
    exact ⟨rfl,zab HBW.out hb1 HBW.out.size⟩
  | true=>
    go_enter Tryz.func13,Tryz.ntmps13
    go_upto_region 1 with fail
    rw [← HW.out]
    rw [← HG0.out]
    go_upto_region 3 with (first |(go_at_call 17;(with_reducible refine HU.out.mono ?_);rintro e w1 ⟨rfl,hb1⟩))
    have HU1:=Lib.hid ((hb1.block _ (zaa u1)).trans u1)
    have HR1:=Lib.hid (HR.out.stays (zae hb1))
    have HB1:=Lib.hid (zab HBW.out hb1 HBW.out.size)
    clear HR HU HW u1 c0 hb1
    go_wp2_with fail
    go_loopg [3] m (fun gg s3 wr=>∃ j:Nat,j+gg=m∧s3=.int .i64 j∧Hid ((tb.rows.take j).all (rowP n)=true)∧Hid (Below w1.heap.size w1 wr))
    case atStart=>exact ⟨0,by omega,rfl,Lib.hid (by simp),Lib.hid (Below.refl _ _)⟩
    case round=>
     obtain ⟨j,hjg,rfl,HA,HB⟩:=hrel
     have HUr:=Lib.hid ((HB.out.block _ (zaa HU1.out)).trans HU1.out)
     have c0:wr.cell? ⟨g0,0,none⟩=some (.slice pV n kV):=zad HUr.out 0 rfl
     have c1:wr.cell? ⟨g0,1,none⟩=some (.slice pR m kR):=zad HUr.out 1 rfl
     by_cases hj:(j:Int) < m
     ·have hj1:j < tb.rows.length:=by have:=HM.out;omega
      obtain ⟨g,off,cap',c,e0,hg,hrl,hra⟩:=(HR1.out.stays (zae HB.out)).at_ j hj1
      injection e0 with e1 e2 e3
      subst e1 e3
      obtain ⟨row,hrow⟩:∃ row,row=tb.rows[j]:=⟨_,rfl⟩
      rw [← hrow] at hrl
      obtain ⟨u,rfl,hu,hcu,hlu⟩:=hrl
      obtain ⟨pu,ku,rfl⟩:=hu.slice
      have cj:wr.cell? ⟨g,off+j,none⟩=some (.slice pu row.length ku):=by
       have:=hra 0 _ rfl
       simpa [rowE] using this
      have HUU:=Lib.hid hu
      have HN:Hid (rowP n row=false→r=false):=Lib.hid fun h=>by
       rw [HP2.out,Bool.true_and]
       exact zwr hj1 (by rw [← hrow];exact h)
      have HY:Hid (rowP n row=true→(tb.rows.take (j+1)).all (rowP n)=true):=Lib.hid fun h=>zzx hj1 HA.out (by rw [← hrow];exact h)
      clear hra hg hu hcu hrow e2 HA
      obtain ⟨lr,hlr2⟩:∃ lr,lr=row.length:=⟨_,rfl⟩
      rw [← hlr2] at cj hlu HUU
      have HLR:=Lib.hid hlr2
      clear hlr2
      have hB:=HB.out
      clear HB
      by_cases heq:lr=n
      ·subst heq
       go_upto_region 6 with fail
       have hUr:=HUr.out
       refine wp_region_held_drew (S:=fun W'=>W'.heap[g0]?=some (.cells #[.slice pV lr kV,.slice (some ⟨g,off,none⟩) m kR] 25)∧W'.cell? ⟨g,off+j,none⟩=some (.slice pu lr ku)) (by kernel_rfl) ⟨hUr,cj⟩ (fun hh=>?_)
       replace cj:wr.drew.cell? ⟨g,off+j,none⟩=_:=cj
       have hUr:wr.drew.heap[g0]?=some (.cells #[.slice pV lr kV,.slice (some ⟨g,off,none⟩) m kR] 25)∧wr.drew.cell? ⟨g,off+j,none⟩=some (.slice pu lr ku):=hh
       clear hh
       replace hB:=hB.drew
       have bq:Below wr.heap.size wr wr.drew:=(Below.refl _ _).drew
       clear c0 c1
       generalize wr.drew=wD at*
       refine tg (i:=0) (.pointer (some ⟨g0,1,none⟩)) rfl (hUr) ?_
       refine tg (i:=2) (.int .i64 (j:Int)) rfl (hUr) ?_
       refine tg (i:=6) (.pointer (some ⟨g0,0,none⟩)) rfl (hUr) ?_
       refine tk (i:=1) (v:=.slice (some ⟨g,off,none⟩) m kR) rfl (Or.inl ⟨by rfl,fun W' h=>by have c1:=zad h.1 1 rfl;go_simp⟩) (hUr) ?_
       refine tk (i:=7) (v:=.slice pV lr kV) rfl (Or.inl ⟨by rfl,fun W' h=>by have c0:=zad h.1 0 rfl;go_simp⟩) (hUr) ?_
       refine tg (i:=3) (.pointer (some ⟨g,off+j,none⟩)) rfl (hUr) ?_
       refine tg (i:=8) (.int .i64 (lr:Int)) rfl (hUr) ?_
       refine tk (i:=4) (v:=.slice pu lr ku) rfl (Or.inl ⟨by rfl,fun W' h=>by have cj:=h.2;go_simp⟩) (hUr) ?_
       refine tg (i:=5) (.int .i64 (lr:Int)) rfl (hUr) ?_
       refine tg (i:=9) (.bool false) rfl (hUr) ?_
       refine wpAnyH_done (by kernel_rfl) ?_ _
       have HUD:=Lib.hid hUr
       have HBD:=Lib.hid hB
       have HUU2:=Lib.hid (HUU.out.stays (zae bq))
       clear cj hB bq hUr HUU HUr
       go_wp2_with fail
       go_loopg [4] lr (fun gg s4 wx=>∃ k:Nat,k+gg=lr∧s4=.int .i64 k∧Hid ((row.take k).all (mayP · 0)=true)∧Hid (Below wD.heap.size wD wx))
       case atStart=>exact ⟨0,by omega,rfl,Lib.hid (by simp),Lib.hid (Below.refl _ _)⟩
       case round=>
        obtain ⟨k,hkg,rfl,HA,HB⟩:=hrel
        have c0:wr.cell? ⟨g0,0,none⟩=some (.slice pV lr kV):=zad ((HB.out.block _ (zaa HUD.out.1)).trans HUD.out.1) 0 rfl
        have c1:wr.cell? ⟨g0,1,none⟩=some (.slice (some ⟨g,off,none⟩) m kR):=zad ((HB.out.block _ (zaa HUD.out.1)).trans HUD.out.1) 1 rfl
        have cj:wr.cell? ⟨g,off+j,none⟩=some (.slice pu lr ku):=zav HUD.out.2 HB.out
        by_cases hk:(k:Int) < lr
        ·have hk1:k < row.length:=by have:=HLR.out;omega
         obtain ⟨g2,off2,cap2,c,e0,hg2,hrl2,hra2⟩:=(HUU2.out.stays (zae HB.out)).at_ k hk1
         injection e0 with e1 e2 e3
         subst e1 e3
         obtain ⟨v,hv⟩:∃ v,v=row[k]:=⟨_,rfl⟩
         rw [← hv] at hrl2
         have HMV:=Lib.hid (refMayV v c _ wr hrl2)
         have hrange:wr.rangeAt g2 (off2+k*6) c:=hra2
         have hc6:c.length=6:=valE.len hrl2
         obtain ⟨s,hs⟩:∃ s,s=mayP v 0:=⟨_,rfl⟩
         rw [← hs] at HMV
         have HN2:Hid (s=false→r=false):=Lib.hid fun h=>HN.out (ztn hk1 (by rw [← hv,← hs];exact h))
         have HY2:Hid (s=true→(row.take (k+1)).all (mayP · 0)=true):=Lib.hid fun h=>zws hk1 HA.out (by rw [← hv,← hs];exact h)
         clear hra2 hg2 hrl2 e2 HA hv hs
         cases s with
         | false=>
           obtain rfl:r=false:=HN2.out rfl
           go_wp2_with (first
            |((with_reducible refine zaw (.tmp 45) g2 (off2+k*6) 48 c 6 _ hrange hc6 Tryz.underlying48 rfl zao ?_ ?_ ?_ ?_);rfl;rfl;rfl)
            |(go_at_call 53;(with_reducible refine HMV.out.mono ?_);rintro e w5 ⟨rfl,hb5⟩))
           go_ret
           have b2:=HBD.out.trans (HB.out.mono HBD.out.size)
           exact ⟨rfl,HB1.out.trans ((b2.trans (hb5.mono b2.size)).mono HB1.out.size)⟩
         | true=>
           have HY3:=Lib.hid (HY2.out rfl)
           go_wp2_with (first
            |((with_reducible refine zaw (.tmp 45) g2 (off2+k*6) 48 c 6 _ hrange hc6 Tryz.underlying48 rfl zao ?_ ?_ ?_ ?_);rfl;rfl;rfl)
            |(go_at_call 53;(with_reducible refine HMV.out.mono ?_);rintro e w5 ⟨rfl,hb5⟩))
           go_roundg (gk - 1)
           case measure=>omega
           case rel=>exact ⟨k+1,by omega,by go_num,HY3,Lib.hid (HB.out.trans (hb5.mono HB.out.size))⟩
        ·have HRY:=Lib.hid (HY.out (row_yes HLR.out.symm (by
          have h:=HA.out
          rw [show k=lr by omega] at h
          exact h)))
         clear HN HY
         go_wp2_with fail
         go_roundg (m - j - 1)
         case measure=>omega
         case rel=>exact ⟨j+1,by omega,by go_num,HRY,Lib.hid (HBD.out.trans (HB.out.mono HBD.out.size))⟩
      ·obtain rfl:r=false:=HN.out (zwt (by rw [← HLR.out];exact heq))
       have hne:((lr:Int) == n)=false:=by rw [beq_eq_false_iff_ne];omega
       have hne2:((lr:Int) != n)=true:=congrArg not hne
       go_upto_region 6 with fail
       have hUr:=HUr.out
       refine wp_region_held_drew (S:=fun W'=>W'.heap[g0]?=some (.cells #[.slice pV n kV,.slice (some ⟨g,off,none⟩) m kR] 25)∧W'.cell? ⟨g,off+j,none⟩=some (.slice pu lr ku)) (by kernel_rfl) ⟨hUr,cj⟩ (fun hh=>?_)
       replace cj:wr.drew.cell? ⟨g,off+j,none⟩=_:=cj
       have hUr:wr.drew.heap[g0]?=some (.cells #[.slice pV n kV,.slice (some ⟨g,off,none⟩) m kR] 25)∧wr.drew.cell? ⟨g,off+j,none⟩=some (.slice pu lr ku):=hh
       clear hh
       replace hB:=hB.drew
       have bq:Below wr.heap.size wr wr.drew:=(Below.refl _ _).drew
       clear c0 c1
       generalize wr.drew=wD at*
       refine tg (i:=0) (.pointer (some ⟨g0,1,none⟩)) rfl (hUr) ?_
       refine tg (i:=2) (.int .i64 (j:Int)) rfl (hUr) ?_
       refine tg (i:=6) (.pointer (some ⟨g0,0,none⟩)) rfl (hUr) ?_
       refine tk (i:=1) (v:=.slice (some ⟨g,off,none⟩) m kR) rfl (Or.inl ⟨by rfl,fun W' h=>by have c1:=zad h.1 1 rfl;go_simp⟩) (hUr) ?_
       refine tk (i:=7) (v:=.slice pV n kV) rfl (Or.inl ⟨by rfl,fun W' h=>by have c0:=zad h.1 0 rfl;go_simp⟩) (hUr) ?_
       refine tg (i:=3) (.pointer (some ⟨g,off+j,none⟩)) rfl (hUr) ?_
       refine tg (i:=8) (.int .i64 (n:Int)) rfl (hUr) ?_
       refine tk (i:=4) (v:=.slice pu lr ku) rfl (Or.inl ⟨by rfl,fun W' h=>by have cj:=h.2;go_simp⟩) (hUr) ?_
       refine tg (i:=5) (.int .i64 (lr:Int)) rfl (hUr) ?_
       refine tg (i:=9) (.bool true) rfl (hUr) ?_
       refine wpAnyH_done (by kernel_rfl) ?_ _
       go_wp2_with fail
       go_ret
       exact ⟨rfl,HB1.out.trans (hB.mono HB1.out.size)⟩
     ·have HZ:Hid (r=true):=Lib.hid (by
       have h:=HA.out
       rw [List.take_of_length_le (by have:=HM.out;omega)] at h
       rw [HP2.out,h]
       rfl)
      go_wp2_with fail
      go_ret
      exact ⟨by rw [HZ.out];rfl,HB1.out.trans (HB.out.mono HB1.out.size)⟩
 ·have h64:decide ((64:Int) < n)=true:=decide_eq_true (by omega)
  obtain rfl:r=false:=by rw [HP.out,decide_eq_false hle];rfl
  go_enter Tryz.func13,Tryz.ntmps13
  go_upto_region 1 with fail
  rw [← HW.out]
  rw [← HG0.out]
  go_wp2_with fail
  go_ret
  exact ⟨rfl,HBW.out⟩
theorem zcl {w:World} {g:Nat} {c:Array Value} {t:TypeId} (h:w.heap[g]?=some (.cells c t)) (pre post:List Value) {xs:List Value} (e:c=(pre++xs++post).toArray):w.rangeAt g pre.length xs:=
 zeb h _ _ fun j u hu=>by
  subst e
  rw [List.getElem?_toArray,List.append_assoc,List.getElem?_append_right (by omega),show pre.length+j - pre.length=j by omega,List.getElem?_append_left (List.getElem?_eq_some_iff.1 hu).1]
  exact hu
structure zwu (W:World) (a b:TabL) (VA RA VB RB:Value):Prop where
 ha:tabE.rel W (Old W) [VA,RA] a
 hb:tabE.rel W (Old W) [VB,RB] b
 wa:∀ r∈a.rows,wAll r≤2097152
 wb:∀ r∈b.rows,wAll r≤2097152
theorem zwu.below {W W':World} {a b:TabL} {VA RA VB RB:Value} (h:zwu W a b VA RA VB RB) (k:Below W.heap.size W W'):zwu W' a b VA RA VB RB:=⟨tabE.stays (zae k) h.ha,tabE.stays (zae k) h.hb,h.wa,h.wb⟩
theorem lightAt (a b:TabL) (VA RA VB RB VV NN:Value) (lang:Int) (W:World) (h:zwu W a b VA RA VB RB):Calls Tryz.prog 10 #[.agg #[VA,RA,VB,RB,VV,.int .i64 lang,NN]] W fun e w'=>e=.returned (.bool (zmm a b))∧Below W.heap.size W w':=by
 obtain ⟨V',R',e,hva,hra,hcva,hcra,hlva,hlra⟩:=h.ha
 cases e
 obtain ⟨V',R',e,hvb,hrb,hcvb,hcrb,hlvb,hlrb⟩:=h.hb
 cases e
 obtain ⟨pA,kA,rfl⟩:=hva.slice
 obtain ⟨qA,lA,rfl⟩:=hra.slice
 obtain ⟨pB,kB,rfl⟩:=hvb.slice
 obtain ⟨qB,lB,rfl⟩:=hrb.slice
 obtain ⟨W1,hW1⟩:∃ W1,W1=W.alloc (.cells #[.slice pA a.vars.length kA,.slice qA a.rows.length lA,.slice pB b.vars.length kB,.slice qB b.rows.length lB,VV,.int .i64 lang,NN] 28):=⟨_,rfl⟩
 have b1:Below W.heap.size W W1:=by rw [hW1];exact za5 _ _
 obtain ⟨g0,hg0⟩:∃ g0,g0=W.heap.size:=⟨_,rfl⟩
 have u1:W1.heap[g0]?=some (.cells #[.slice pA a.vars.length kA,.slice qA a.rows.length lA,.slice pB b.vars.length kB,.slice qB b.rows.length lB,VV,.int .i64 lang,NN] 28):=by rw [hW1,hg0];exact zaf _ _ rfl
 have HA:=Lib.hid (zpp _ a.rows W1 (hra.stays (zae b1)) hlra)
 have HB:Hid (∀ w',Below W1.heap.size W1 w'→Calls Tryz.prog 48 #[.slice qB b.rows.length lB] w' fun e w2=>e=.returned (.int .i64 (zby b.rows 0))∧Below w'.heap.size w' w2):=Lib.hid fun w' k=>zpp _ b.rows w' (hrb.stays (zae (zab b1 k b1.size))) hlrb
 have HW:=Lib.hid hW1
 have HG0:=Lib.hid hg0
 have HB1:=Lib.hid b1
 obtain ⟨r,hr⟩:∃ r,r=zmm a b:=⟨_,rfl⟩
 have hr2:=hr
 unfold zmm at hr2
 rw [← hr]
 have HR:=Lib.hid hr2
 have a1:=zad u1 1 rfl
 clear hva hra hvb hrb hcva hcra hcvb hcrb hW1 b1 hr hr2 h hg0
 generalize zby a.rows 0=z1 at*
 generalize zby b.rows 0=z2 at*
 generalize a.rows.length=n1 at*
 generalize b.rows.length=n2 at*
 generalize a.vars.length=m1 at*
 generalize b.vars.length=m2 at*
 by_cases h0:z1≤3000
 ·by_cases h1:z2≤3000
  ·by_cases h2:n1≤60
   ·by_cases h3:n2≤60
    ·by_cases h4:m1≤100
     ·by_cases h5:m2≤100
      ·obtain rfl:r=true:=by rw [HR.out,decide_eq_true (h0:(z1≤3000)),decide_eq_true (h1:(z2≤3000)),decide_eq_true (h2:(n1≤60)),decide_eq_true (h3:(n2≤60)),decide_eq_true (h4:(m1≤100)),decide_eq_true (h5:(m2≤100))];rfl
       clear HR
       have x0:decide (z1≤3000)=true:=decide_eq_true (by omega)
       have x1:decide (z2≤3000)=true:=decide_eq_true (by omega)
       have x2:decide ((n1:Int)≤60)=true:=decide_eq_true (by omega)
       have x3:decide ((n2:Int)≤60)=true:=decide_eq_true (by omega)
       have x4:decide ((m1:Int)≤100)=true:=decide_eq_true (by omega)
       have x5:decide ((m2:Int)≤100)=true:=decide_eq_true (by omega)
       go_enter Tryz.func10,Tryz.ntmps10
       go_upto_region 1 with fail
       rw [← HW.out,← HG0.out]
       go_wp2_with (first
        |(go_at_call 48;(with_reducible refine HA.out.mono ?_);rintro e w1 ⟨rfl,hb1⟩;have v1:=(hb1.block _ (zaa u1)).trans u1;have a3:=zad v1 3 rfl)
        |(go_at_call 48;(with_reducible refine (HB.out _ hb1).mono ?_);rintro e w2 ⟨rfl,hb2⟩;have v2:=(hb2.block _ (zaa v1)).trans v1;have d1:=zad v2 1 rfl;have d3:=zad v2 3 rfl;have d0:=zad v2 0 rfl;have d2:=zad v2 2 rfl))
       go_ret
       exact ⟨rfl,HB1.out.trans ((hb1.trans (hb2.mono hb1.size)).mono HB1.out.size)⟩
      ·obtain rfl:r=false:=by rw [HR.out,decide_eq_true (h0:(z1≤3000)),decide_eq_true (h1:(z2≤3000)),decide_eq_true (h2:(n1≤60)),decide_eq_true (h3:(n2≤60)),decide_eq_true (h4:(m1≤100)),decide_eq_false (h5:¬ (m2≤100))];rfl
       clear HR
       have x0:decide (z1≤3000)=true:=decide_eq_true (by omega)
       have x1:decide (z2≤3000)=true:=decide_eq_true (by omega)
       have x2:decide ((n1:Int)≤60)=true:=decide_eq_true (by omega)
       have x3:decide ((n2:Int)≤60)=true:=decide_eq_true (by omega)
       have x4:decide ((m1:Int)≤100)=true:=decide_eq_true (by omega)
       have x5:decide ((m2:Int)≤100)=false:=decide_eq_false (by omega)
       go_enter Tryz.func10,Tryz.ntmps10
       go_upto_region 1 with fail
       rw [← HW.out,← HG0.out]
       go_wp2_with (first
        |(go_at_call 48;(with_reducible refine HA.out.mono ?_);rintro e w1 ⟨rfl,hb1⟩;have v1:=(hb1.block _ (zaa u1)).trans u1;have a3:=zad v1 3 rfl)
        |(go_at_call 48;(with_reducible refine (HB.out _ hb1).mono ?_);rintro e w2 ⟨rfl,hb2⟩;have v2:=(hb2.block _ (zaa v1)).trans v1;have d1:=zad v2 1 rfl;have d3:=zad v2 3 rfl;have d0:=zad v2 0 rfl;have d2:=zad v2 2 rfl))
       go_ret
       exact ⟨rfl,HB1.out.trans ((hb1.trans (hb2.mono hb1.size)).mono HB1.out.size)⟩
     ·obtain rfl:r=false:=by rw [HR.out,decide_eq_true (h0:(z1≤3000)),decide_eq_true (h1:(z2≤3000)),decide_eq_true (h2:(n1≤60)),decide_eq_true (h3:(n2≤60)),decide_eq_false (h4:¬ (m1≤100))];rfl
      clear HR
      have x0:decide (z1≤3000)=true:=decide_eq_true (by omega)
      have x1:decide (z2≤3000)=true:=decide_eq_true (by omega)
      have x2:decide ((n1:Int)≤60)=true:=decide_eq_true (by omega)
      have x3:decide ((n2:Int)≤60)=true:=decide_eq_true (by omega)
      have x4:decide ((m1:Int)≤100)=false:=decide_eq_false (by omega)
      go_enter Tryz.func10,Tryz.ntmps10
      go_upto_region 1 with fail
      rw [← HW.out,← HG0.out]
      go_wp2_with (first
       |(go_at_call 48;(with_reducible refine HA.out.mono ?_);rintro e w1 ⟨rfl,hb1⟩;have v1:=(hb1.block _ (zaa u1)).trans u1;have a3:=zad v1 3 rfl)
       |(go_at_call 48;(with_reducible refine (HB.out _ hb1).mono ?_);rintro e w2 ⟨rfl,hb2⟩;have v2:=(hb2.block _ (zaa v1)).trans v1;have d1:=zad v2 1 rfl;have d3:=zad v2 3 rfl;have d0:=zad v2 0 rfl;have d2:=zad v2 2 rfl))
      go_ret
      exact ⟨rfl,HB1.out.trans ((hb1.trans (hb2.mono hb1.size)).mono HB1.out.size)⟩
    ·obtain rfl:r=false:=by rw [HR.out,decide_eq_true (h0:(z1≤3000)),decide_eq_true (h1:(z2≤3000)),decide_eq_true (h2:(n1≤60)),decide_eq_false (h3:¬ (n2≤60))];rfl
     clear HR
     have x0:decide (z1≤3000)=true:=decide_eq_true (by omega)
     have x1:decide (z2≤3000)=true:=decide_eq_true (by omega)
     have x2:decide ((n1:Int)≤60)=true:=decide_eq_true (by omega)
     have x3:decide ((n2:Int)≤60)=false:=decide_eq_false (by omega)
     go_enter Tryz.func10,Tryz.ntmps10
     go_upto_region 1 with fail
     rw [← HW.out,← HG0.out]
     go_wp2_with (first
      |(go_at_call 48;(with_reducible refine HA.out.mono ?_);rintro e w1 ⟨rfl,hb1⟩;have v1:=(hb1.block _ (zaa u1)).trans u1;have a3:=zad v1 3 rfl)
      |(go_at_call 48;(with_reducible refine (HB.out _ hb1).mono ?_);rintro e w2 ⟨rfl,hb2⟩;have v2:=(hb2.block _ (zaa v1)).trans v1;have d1:=zad v2 1 rfl;have d3:=zad v2 3 rfl;have d0:=zad v2 0 rfl;have d2:=zad v2 2 rfl))
     go_ret
     exact ⟨rfl,HB1.out.trans ((hb1.trans (hb2.mono hb1.size)).mono HB1.out.size)⟩
   ·obtain rfl:r=false:=by rw [HR.out,decide_eq_true (h0:(z1≤3000)),decide_eq_true (h1:(z2≤3000)),decide_eq_false (h2:¬ (n1≤60))];rfl
    clear HR
    have x0:decide (z1≤3000)=true:=decide_eq_true (by omega)
    have x1:decide (z2≤3000)=true:=decide_eq_true (by omega)
    have x2:decide ((n1:Int)≤60)=false:=decide_eq_false (by omega)
    go_enter Tryz.func10,Tryz.ntmps10
    go_upto_region 1 with fail
    rw [← HW.out,← HG0.out]
    go_wp2_with (first
     |(go_at_call 48;(with_reducible refine HA.out.mono ?_);rintro e w1 ⟨rfl,hb1⟩;have v1:=(hb1.block _ (zaa u1)).trans u1;have a3:=zad v1 3 rfl)
     |(go_at_call 48;(with_reducible refine (HB.out _ hb1).mono ?_);rintro e w2 ⟨rfl,hb2⟩;have v2:=(hb2.block _ (zaa v1)).trans v1;have d1:=zad v2 1 rfl;have d3:=zad v2 3 rfl;have d0:=zad v2 0 rfl;have d2:=zad v2 2 rfl))
    go_ret
    exact ⟨rfl,HB1.out.trans ((hb1.trans (hb2.mono hb1.size)).mono HB1.out.size)⟩
  ·obtain rfl:r=false:=by rw [HR.out,decide_eq_true (h0:(z1≤3000)),decide_eq_false (h1:¬ (z2≤3000))];rfl
   clear HR
   have x0:decide (z1≤3000)=true:=decide_eq_true (by omega)
   have x1:decide (z2≤3000)=false:=decide_eq_false (by omega)
   go_enter Tryz.func10,Tryz.ntmps10
   go_upto_region 1 with fail
   rw [← HW.out,← HG0.out]
   go_wp2_with (first
    |(go_at_call 48;(with_reducible refine HA.out.mono ?_);rintro e w1 ⟨rfl,hb1⟩;have v1:=(hb1.block _ (zaa u1)).trans u1;have a3:=zad v1 3 rfl)
    |(go_at_call 48;(with_reducible refine (HB.out _ hb1).mono ?_);rintro e w2 ⟨rfl,hb2⟩;have v2:=(hb2.block _ (zaa v1)).trans v1;have d1:=zad v2 1 rfl;have d3:=zad v2 3 rfl;have d0:=zad v2 0 rfl;have d2:=zad v2 2 rfl))
   go_ret
   exact ⟨rfl,HB1.out.trans ((hb1.trans (hb2.mono hb1.size)).mono HB1.out.size)⟩
 ·obtain rfl:r=false:=by rw [HR.out,decide_eq_false (h0:¬ (z1≤3000))];rfl
  clear HR
  have x0:decide (z1≤3000)=false:=decide_eq_false (by omega)
  go_enter Tryz.func10,Tryz.ntmps10
  go_upto_region 1 with fail
  rw [← HW.out,← HG0.out]
  go_wp2_with (first
   |(go_at_call 48;(with_reducible refine HA.out.mono ?_);rintro e w1 ⟨rfl,hb1⟩;have v1:=(hb1.block _ (zaa u1)).trans u1;have a3:=zad v1 3 rfl)
   |(go_at_call 48;(with_reducible refine (HB.out _ hb1).mono ?_);rintro e w2 ⟨rfl,hb2⟩;have v2:=(hb2.block _ (zaa v1)).trans v1;have d1:=zad v2 1 rfl;have d3:=zad v2 3 rfl;have d0:=zad v2 0 rfl;have d2:=zad v2 2 rfl))
  go_ret
  exact ⟨rfl,HB1.out.trans (hb1.mono HB1.out.size)⟩
theorem zu3:(Tryz.prog.info? 28).map (·.size)=some 7:=by kernel_rfl
section
open Go.RowKit Go.ChangeShapes
variable {H:Type} {enc:TypeId × Value→H}
theorem zpr {w:World} {a:Addr} {m:Nat} {cs:List Value} (h:w.cells? 0 a m=some cs):cs.length=m∧∀ j,j < m→w.cell? (a.add j)=cs[j]?:=by
 unfold World.cells? at h
 rw [if_pos (Nat.zero_le _)] at h
 have hl:=mapM_some_length h
 rw [List.length_range] at hl
 refine ⟨hl,fun j hj=>?_⟩
 exact mapM_some_get h j j (by rw [List.getElem?_range hj])
theorem zik (g off i:Nat):(Addr.mk g off none).add i=⟨g,off+i,none⟩:=by unfold Addr.add;split <;> simp_all
theorem list6 {α:Type} {l:List α} (h:l.length=6):∃ a b c d e f,l=[a,b,c,d,e,f]:=by
 match l,h with
 | [a,b,c,d,e,f],_=>exact ⟨a,b,c,d,e,f,rfl⟩
theorem zqu {d:DataW H}:{l:List (DataW H)}→d∈l→Rows.uptoBulk d≤Rows.uptoBulkAll l
 | [],h=>absurd h (by simp)
 | e::r,h=>by
   unfold Rows.uptoBulkAll
   rcases List.mem_cons.1 h with h | h
   ·rw [h];omega
   ·have:=zqu h;omega
theorem z2h (d:DataW H):1≤Rows.uptoBulk d:=by
 cases d with
 | lit l=>cases l <;> simp [Rows.uptoBulk]
 | _=>simp [Rows.uptoBulk]
theorem zqv:(l:List (DataW H))→l.length≤Rows.uptoBulkAll l
 | []=>by simp
 | e::r=>by
   unfold Rows.uptoBulkAll
   have:=zqv r
   have:=z2h e
   simp only [List.length_cons]
   omega
theorem i64_wf {m:Int} (h:(Lit.int .i64 m).wf=true):-9223372036854775808≤m∧m≤9223372036854775807:=by
 have:=bounds_i64 h
 omega
end
section
open Go.RowKit Go.ChangeShapes
variable {H:Type} {enc:TypeId × Value→H}
theorem zor {W:World} {n:Nat} {cs:List Value} {y:DataW H × List MemPlace} (h:DataW.trod enc Tryz.prog W 0 (fun _=>true) true n 48 cs=some y):
 ∃ n' k b m t x L yl,n=n'+1∧cs=[.int .i64 k,.bool b,.int .i64 m,.string t,.string x,L]∧DataW.trod enc Tryz.prog W 0 (fun _=>true) true n' 43 [L]=some yl∧
  1+t.size+x.size+Rows.uptoBulk yl.1≤Rows.uptoBulk y.1∧(Lit.int .i64 m).wf=true:=by
 obtain ⟨xs,n',rfl,rfl,hl,hlen,hf⟩:=DataW.trod_struct Tryz.underlying48 h
 obtain ⟨c0,c1,c2,c3,c4,c5,rfl⟩:=list6 (hl.trans (by kernel_rfl:Tryz.prog.cellsOf 48=6))
 obtain ⟨y0,y1,y2,y3,y4,y5,rfl⟩:=list6 (hlen.trans rfl)
 have e1:Tryz.prog.cellsOf 3=1:=by kernel_rfl
 have e2:Tryz.prog.cellsOf 4=1:=by kernel_rfl
 have e3:Tryz.prog.cellsOf 2=1:=by kernel_rfl
 have e4:Tryz.prog.cellsOf 9=1:=by kernel_rfl
 have e5:Tryz.prog.cellsOf 43=1:=by kernel_rfl
 have h0:DataW.trod enc Tryz.prog W 0 (fun _=>true) true n' 3 (([c0,c1,c2,c3,c4,c5].drop 0).take (Tryz.prog.cellsOf 3))=[y0,y1,y2,y3,y4,y5][0]?:=hf 0 _ rfl
 have h1:DataW.trod enc Tryz.prog W 0 (fun _=>true) true n' 4 (([c0,c1,c2,c3,c4,c5].drop 1).take (Tryz.prog.cellsOf 4))=[y0,y1,y2,y3,y4,y5][1]?:=hf 1 _ rfl
 have h2:DataW.trod enc Tryz.prog W 0 (fun _=>true) true n' 2 (([c0,c1,c2,c3,c4,c5].drop 2).take (Tryz.prog.cellsOf 2))=[y0,y1,y2,y3,y4,y5][2]?:=hf 2 _ rfl
 have h3:DataW.trod enc Tryz.prog W 0 (fun _=>true) true n' 9 (([c0,c1,c2,c3,c4,c5].drop 3).take (Tryz.prog.cellsOf 9))=[y0,y1,y2,y3,y4,y5][3]?:=hf 3 _ rfl
 have h4:DataW.trod enc Tryz.prog W 0 (fun _=>true) true n' 9 (([c0,c1,c2,c3,c4,c5].drop 4).take (Tryz.prog.cellsOf 9))=[y0,y1,y2,y3,y4,y5][4]?:=hf 4 _ rfl
 have h5:DataW.trod enc Tryz.prog W 0 (fun _=>true) true n' 43 (([c0,c1,c2,c3,c4,c5].drop 5).take (Tryz.prog.cellsOf 43))=[y0,y1,y2,y3,y4,y5][5]?:=hf 5 _ rfl
 rw [e1] at h0
 rw [e2] at h1
 rw [e3] at h2
 rw [e4] at h3 h4
 rw [e5] at h5
 replace h0:DataW.trod enc Tryz.prog W 0 (fun _=>true) true n' 3 [c0]=some y0:=h0
 replace h1:DataW.trod enc Tryz.prog W 0 (fun _=>true) true n' 4 [c1]=some y1:=h1
 replace h2:DataW.trod enc Tryz.prog W 0 (fun _=>true) true n' 2 [c2]=some y2:=h2
 replace h3:DataW.trod enc Tryz.prog W 0 (fun _=>true) true n' 9 [c3]=some y3:=h3
 replace h4:DataW.trod enc Tryz.prog W 0 (fun _=>true) true n' 9 [c4]=some y4:=h4
 replace h5:DataW.trod enc Tryz.prog W 0 (fun _=>true) true n' 43 [c5]=some y5:=h5
 obtain ⟨k,a0,_,_⟩:=DataW.trod_int Tryz.underlying3 h0
 obtain ⟨b,a1,_⟩:=DataW.trod_bool Tryz.underlying4 h1
 obtain ⟨m,a2,_,wm⟩:=DataW.trod_int Tryz.underlying2 h2
 obtain ⟨t,a3,z3,_⟩:=DataW.trod_string Tryz.underlying9 h3
 obtain ⟨x,a4,z4,_⟩:=DataW.trod_string Tryz.underlying9 h4
 simp only [List.cons.injEq,and_true] at a0 a1 a2 a3 a4
 subst a0 a1 a2 a3 a4
 refine ⟨n',k,b,m,t,x,c5,y5,rfl,rfl,h5,?_,wm⟩
 have a3:Rows.uptoBulk y3.1=t.size+1:=by
  rw [z3]
  have e':t.data.toList.length=t.size:=Array.length_toList
  show t.data.toList.length+1=_
  rw [e']
 have a4:Rows.uptoBulk y4.1=x.size+1:=by
  rw [z4]
  have e':x.data.toList.length=x.size:=Array.length_toList
  show x.data.toList.length+1=_
  rw [e']
 have a:Rows.uptoBulkAll ([y0,y1,y2,y3,y4,y5].map (·.1))=Rows.uptoBulk y0.1+(Rows.uptoBulk y1.1+(Rows.uptoBulk y2.1+(Rows.uptoBulk y3.1+(Rows.uptoBulk y4.1+(Rows.uptoBulk y5.1+0))))):=rfl
 show _≤Rows.uptoBulkAll _+1
 rw [a,a3,a4]
 omega
theorem zqw {W:World} (B:Nat) (hBB:B≤2097152):∀ (N n:Nat),n≤N→∀ (L:Value) (y:DataW H × List MemPlace),DataW.trod enc Tryz.prog W 0 (fun _=>true) true n 43 [L]=some y→Rows.uptoBulk y.1≤B→∃ l,Held W L l∧wAll l≤Rows.uptoBulk y.1:=by
 intro N
 induction N with
 | zero=>
   intro n hn L y h _
   obtain rfl:n=0:=by omega
   simp [DataW.trod] at h
 | succ N IH=>
   intro n0 hn0 L y h hB
   rcases DataW.trod_slice Tryz.underlying43 h with ⟨e,_⟩ | ⟨a,len,cap,elems,rest,n1,hn,e,rfl,hb,hl,hm,hlen,hel,_,_⟩
   ·obtain rfl:L=.slice none 0 0:=by simpa using e
    exact ⟨[],by unfold Held;exact ⟨none,0,rfl⟩,by simp [wAll]⟩
   ·obtain rfl:L=.slice (some a) len cap:=by simpa using e
    rw [show Tryz.prog.cellsOf 48=6 by kernel_rfl] at hel
    have hE1:Rows.uptoBulkAll (elems.map (·.1))+Rows.uptoBulkAll (rest.map (·.1))+1≤B:=hB
    have hE:Rows.uptoBulkAll (elems.map (·.1))≤B:=by omega
    have hln:len≤B:=by
     have:=zqv (elems.map (·.1))
     simp only [List.length_map] at this
     omega
    have each:∀ i,i < len→∃ k b m t x l p,(∀ j v,[Value.int .i64 k,.bool b,.int .i64 m,.string t,.string x,p][j]?=some v→W.cell? ((a.add (i*6)).add j)=some v)∧Fine m t x (List.length (α:=Val) l)∧Held W p l∧∀ h:i < elems.length,1+t.size+x.size+wAll l≤Rows.uptoBulk elems[i].1:=by
     intro i hi
     have h1:=hel i hi
     have hi':i < elems.length:=by omega
     rw [List.getElem?_eq_getElem hi',Option.bind_eq_some_iff] at h1
     obtain ⟨cs,hcs,hy⟩:=h1
     obtain ⟨c1,c2⟩:=zpr hcs
     obtain ⟨n',k,b,m,t,x,p,yl,hn',rfl,hp,hpl,wm⟩:=zor hy
     have hbe:Rows.uptoBulk elems[i].1≤B:=Nat.le_trans (zqu (List.mem_map_of_mem (List.getElem_mem hi'))) hE
     obtain ⟨l,hheld,hll⟩:=IH n' (by omega) p yl hp (by omega)
     obtain ⟨w1,w2⟩:=i64_wf wm
     have hll2:=zqf l
     refine ⟨k,b,m,t,x,l,p,fun j v hv=>?_,⟨by omega,by omega,by omega,w1,w2⟩,hheld,fun _=>by omega⟩
     have hj:j < 6:=by
      have:=(List.getElem?_eq_some_iff.1 hv).1
      simpa using this
     rw [c2 j hj,hv]
    by_cases h0:len=0
    ·subst h0
     exact ⟨[],by unfold Held;exact ⟨some a,cap,rfl⟩,by simp [wAll]⟩
    ·have hsp:a.spot=none:=by
      obtain ⟨k,b,m,t,x,l,p,hc,_,_,_⟩:=each 0 (by omega)
      have h0:=hc 0 _ rfl
      cases kk:a.spot with
      | none=>rfl
      | some mm=>
        rw [show (a.add (0*6)).add 0=a by simp [Addr.add]] at h0
        unfold World.cell? at h0
        rw [kk] at h0
        split at h0 <;> simp at h0
     obtain ⟨g,off,spot⟩:=a
     simp only at hsp
     subst hsp
     have build:∀ m,m≤len→∃ l:List Val,l.length=m∧zbk W g (off+(len - m)*6) l∧wAll l≤Rows.uptoBulkAll ((elems.map (·.1)).drop (len - m)):=by
      intro m
      induction m with
      | zero=>exact fun _=>⟨[],rfl,by unfold zbk;trivial,by simp [wAll]⟩
      | succ m ih=>
        intro hm1
        obtain ⟨l,hll,hh,hwl⟩:=ih (by omega)
        obtain ⟨k,b,mm,t,x,q,p,hc,hf,hp,hwe⟩:=each (len - (m+1)) (by omega)
        have ea:∀ j,((⟨g,off,none⟩:Addr).add ((len - (m+1))*6)).add j=⟨g,off+(len - (m+1))*6+j,none⟩:=fun j=>by rw [zik,zik]
        refine ⟨.mk k b mm t x q::l,by simp [hll],?_⟩
        have hi2:len - (m+1) < elems.length:=by omega
        have hd:(elems.map (·.1)).drop (len - (m+1))=elems[len - (m+1)].1::(elems.map (·.1)).drop (len - m):=by
         rw [List.drop_eq_getElem_cons (by simpa using hi2),List.getElem_map,show len - (m+1)+1=len - m by omega]
        refine ⟨?_,?_⟩
        rotate_left
        ·rw [hd]
         have:=hwe hi2
         unfold wAll wOne Rows.uptoBulkAll
         omega
        unfold zbk
        refine ⟨?_,?_⟩
        ·unfold za7
         have hcj:=fun j v hv=>(congrArg W.cell? (ea j)).symm.trans (hc j v hv)
         exact ⟨hcj 0 _ rfl,hcj 1 _ rfl,hcj 2 _ rfl,hcj 3 _ rfl,hcj 4 _ rfl,hf,p,hcj 5 _ rfl,hp⟩
        ·rw [show off+(len - (m+1))*6+6=off+(len - m)*6 by omega]
         exact hh
     obtain ⟨l,hll,hh,hwl⟩:=build len (Nat.le_refl _)
     rw [Nat.sub_self,Nat.zero_mul,Nat.add_zero] at hh
     rw [Nat.sub_self,List.drop_zero] at hwl
     refine ⟨l,?_,by show wAll l≤Rows.uptoBulkAll (elems.map (·.1))+Rows.uptoBulkAll (rest.map (·.1))+1;omega⟩
     cases l with
     | nil=>simp at hll;omega
     | cons v r=>
       unfold zbk at hh
       unfold Held
       exact ⟨g,off,cap,by rw [← hll];rfl,hh.1,hh.2⟩
end
end Go.Proofs.YteclpnfckjfibaaGreatDoor
