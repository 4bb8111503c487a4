/- Texts of one kind, one behind the other: each says ahead of itself what it shows. -/
import Derived.Test.YteclpnfckjfibaaGreatDoorCau
import Derived.Test.YteclpnfckjfibaaGreatDoorCat
import Derived.Test.YteclpnfckjfibaaGreatDoorRows
import Derived.ProofKit
namespace Go.Proofs.YteclpnfckjfibaaGreatDoor
open Go.RowKit
set_option maxHeartbeats 12800000
set_option maxRecDepth 20000
theorem zmo {l:List (List Val)} (h:zoa l≤3000):∀ r∈l,13*wAll r≤700000000:=fun r hr=>by
 have h1:=zpo hr
 have h2:=ws_le r
 omega
theorem zou {a b:TabL} (h:zmm a b=true) (ha:∀ r∈a.rows,wAll r≤2097152) (hb:∀ r∈b.rows,wAll r≤2097152):(∀ r∈a.rows,13*wAll r≤700000000)∧(∀ r∈b.rows,13*wAll r≤700000000)∧a.rows.length≤60∧b.rows.length≤60:=by
 unfold zmm at h
 simp only [Bool.and_eq_true,decide_eq_true_eq] at h
 obtain ⟨⟨⟨⟨⟨h1,h2⟩,h3⟩,h4⟩,_⟩,_⟩:=h
 have e1:=zi9 a.rows 0 (by omega) ha (by omega)
 have e2:=zi9 b.rows 0 (by omega) hb (by omega)
 exact ⟨zmo (by omega),zmo (by omega),h3,h4⟩
theorem zdr.rowAt {w:World} {V R:Value} {t:TabL} (h:zdr w V R t) {i:Nat} (hi:i < t.rows.length):
 ∃ gr o l p k,R=.slice (some ⟨gr,o,none⟩) t.rows.length l∧w.cell? ⟨gr,o+i,none⟩=some (.slice p t.rows[i].length k)∧zag valE w (Old w) (.slice p t.rows[i].length k) t.rows[i]∧t.rows[i].length≤2097152:=by
 obtain ⟨gr,o,l,c1,e1,_,hr,hra⟩:=h.rows.at_ i hi
 obtain ⟨u,rfl,hu,_,hl⟩:=hr
 obtain ⟨p,k,e2⟩:=hu.slice
 subst e2
 refine ⟨gr,o,l,p,k,e1,?_,hu,hl⟩
 have h0:=hra 0 _ rfl
 have e:o+i*1+0=o+i:=by omega
 have h1:w.cell? ⟨gr,o+i*1+0,none⟩=some (.slice p t.rows[i].length k):=h0
 rwa [e] at h1
theorem ztz (vs us:List ByteArray) (x y:List Val):(zfs vs us x y).1=fitB (zay vs us) x y:=by
 unfold zfs
 by_cases h:fitB (zay vs us) x y=true
 ·rw [if_pos h,h]
 ·rw [if_neg h]
  simpa using h
theorem zlg {a b:TabL} {x y:Int} (h:(tabP a && tabP b)=false∨¬ 0≤x∨¬ x < a.rows.length∨¬ 0≤y∨¬ y < b.rows.length):zh8 a b x y=false:=by
 unfold zh8 hasI
 rcases h with h | h | h | h | h
 ·rw [h];rfl
 ·rw [decide_eq_false h];simp
 ·rw [decide_eq_false h];simp
 ·rw [decide_eq_false h];simp
 ·rw [decide_eq_false h];simp
set_option maxHeartbeats 25600000 in
theorem fitsLaw (a b:TabL) (ns:List Int) (VA RA VB RB VV NN:Value) (lang:Int) (W:World) (hG:Gd W) (hT:Tab W) (h:zwu W a b VA RA VB RB) (hV:VV.oneCell'=true) (hN:zag intE W (Old W) NN ns) (_hns:ns.length≤2097152):Calls Tryz.prog 4 #[.agg #[VA,RA,VB,RB,VV,.int .i64 lang,NN]] W fun e w'=>e=.returned (.bool true)∧Below W.heap.size W w':=by
 have HLI:Hid (∀ w',Below W.heap.size W w'→Calls Tryz.prog 10 #[.agg #[VA,RA,VB,RB,VV,.int .i64 lang,NN]] w' fun e w2=>e=.returned (.bool (zmm a b))∧Below w'.heap.size w' w2):=Lib.hid fun w' k=>lightAt a b _ _ _ _ _ _ lang w' (h.below k)
 have HWK:Hid (∀ w',Below W.heap.size W w'→Calls Tryz.prog 11 #[] w' fun e w2=>e=.returned (.bool true)∧Below w'.heap.size w' w2):=Lib.hid fun w' k=>wakesAt w' (hG.below k)
 have HP:Hid (zmm a b=true→(∀ r∈a.rows,13*wAll r≤700000000)∧(∀ r∈b.rows,13*wAll r≤700000000)∧a.rows.length≤60∧b.rows.length≤60):=Lib.hid fun q=>zou q h.wa h.wb
 have TA0:=zdr.of h.ha
 have TB0:=zdr.of h.hb
 obtain ⟨_,_,eA,_,_,_,_,hlva,hlra⟩:=h.ha
 cases eA
 obtain ⟨_,_,eB,_,_,_,_,hlvb,hlrb⟩:=h.hb
 cases eB
 obtain ⟨pA,kA,qA,lA,e1,e2⟩:=TA0.slices
 subst e1 e2
 obtain ⟨pB,kB,qB,lB,e1,e2⟩:=TB0.slices
 subst e1 e2
 obtain ⟨pN,kN,rfl⟩:=hN.slice
 obtain ⟨W1,hW1⟩:∃ W1,W1=W.alloc (.cells #[.slice pA a.vars.length kA,.slice qA a.rows.length lA,.slice pB b.vars.length kB,.slice qB b.rows.length lB,VV,.int .i64 lang,(.slice pN ns.length kN)] 28):=⟨_,rfl⟩
 have b1:Below W.heap.size W W1:=by rw [hW1];exact za5 _ _
 obtain ⟨g0,hg0⟩:∃ g0,g0=W.heap.size:=⟨_,rfl⟩
 have u1:W1.heap[g0]?=some (.cells #[.slice pA a.vars.length kA,.slice qA a.rows.length lA,.slice pB b.vars.length kB,.slice qB b.rows.length lB,VV,.int .i64 lang,(.slice pN ns.length kN)] 28):=by rw [hW1,hg0];exact zaf _ _ rfl
 have HW:=Lib.hid hW1
 have HG0:=Lib.hid hg0
 have HNS:Hid (∀ w',Below W.heap.size W w'→zag intE w' (Old w') (.slice pN ns.length kN) ns):=Lib.hid fun w' k=>hN.stays (zae k)
 have HTAB:Hid (∀ w',Below W.heap.size W w'→Tab w'):=Lib.hid fun w' k=>hT.below k
 replace TA0:=TA0.below b1
 replace TB0:=TB0.below b1
 replace hG:=hG.below b1
 obtain ⟨c0,hc0⟩:∃ c0,c0=zmm a b:=⟨_,rfl⟩
 rw [← hc0] at HLI HP
 clear hW1 hg0 h hc0 hV hN hT
 cases c0 with
 | false=>
   go_enter Tryz.func4,Tryz.ntmps4
   go_upto_region 1 with fail
   rw [← HW.out,← HG0.out]
   go_wp2_with (first
    |((with_reducible refine zai (.tmp 1) g0 28 28 [.slice pA a.vars.length kA,.slice qA a.rows.length lA,.slice pB b.vars.length kB,.slice qB b.rows.length lB,VV,.int .i64 lang,.slice pN ns.length kN] 7 _ u1 rfl Tryz.underlying28 rfl zu3 ?_ ?_ ?_ ?_);rfl;rfl;rfl)
    |(go_at_call 10;(with_reducible refine (HLI.out _ b1).mono ?_);rintro e w2 ⟨rfl,hb2⟩;replace b1:=zab b1 hb2 b1.size)
    |(go_at_call 11;(with_reducible refine (HWK.out _ b1).mono ?_);rintro e w3 ⟨rfl,hb3⟩;replace b1:=zab b1 hb3 b1.size))
   go_ret
   exact ⟨rfl,b1⟩
 | true=>
   obtain ⟨hwa,hwb,hna,hnb⟩:=HP.out rfl
   have HWT:=Lib.hid (And.intro hwa hwb)
   clear HP hwa hwb
   go_enter Tryz.func4,Tryz.ntmps4
   go_upto_region 1 with fail
   rw [← HW.out,← HG0.out]
   go_upto_region 3 with (first
    |((with_reducible refine zai (.tmp 1) g0 28 28 [.slice pA a.vars.length kA,.slice qA a.rows.length lA,.slice pB b.vars.length kB,.slice qB b.rows.length lB,VV,.int .i64 lang,.slice pN ns.length kN] 7 _ u1 rfl Tryz.underlying28 rfl zu3 ?_ ?_ ?_ ?_);rfl;rfl;rfl)
    |(go_at_call 10;(with_reducible refine (HLI.out _ b1).mono ?_);rintro e w2 ⟨rfl,hb2⟩))
   replace b1:=zab b1 hb2 b1.size
   replace TA0:=TA0.below hb2
   replace TB0:=TB0.below hb2
   replace hG:=hG.below hb2
   replace u1:=(hb2.block _ (zaa u1)).trans u1
   clear hb2 HLI HW HG0
   go_cut [3] (fun s3 wx=>∃ cm,s3=.bool cm∧Hid (cm=(tabP a && tabP b))∧Hid (Below w2.heap.size w2 wx))
   case first=>
    have hma:=zk9 a _ _ w2 TA0.here
    have HMB:Hid (∀ w',Below w2.heap.size w2 w'→Calls Tryz.prog 13 #[.agg #[.slice pB b.vars.length kB,.slice qB b.rows.length lB]] w' fun e w3=>e=.returned (.bool (tabP b))∧Below w'.heap.size w' w3):=Lib.hid fun w' k=>zk9 b _ _ w' (TB0.below k).here
    have rA:w2.rangeAt g0 0 [.slice pA a.vars.length kA,.slice qA a.rows.length lA]:=zcl u1 [] ([.slice pB b.vars.length kB,.slice qB b.rows.length lB]++[VV,.int .i64 lang,.slice pN ns.length kN]) rfl
    obtain ⟨ma,hmx⟩:∃ ma,ma=tabP a:=⟨_,rfl⟩
    obtain ⟨mb,hmy⟩:∃ mb,mb=tabP b:=⟨_,rfl⟩
    rw [← hmx] at hma
    rw [← hmy] at HMB
    have HMA:=Lib.hid hma
    have HMX:=Lib.hid hmx
    have HMY:=Lib.hid hmy
    clear hma hmx hmy
    cases ma with
    | false=>
      go_wp2_with (first
       |((with_reducible refine zaw (.tmp 12) g0 0 25 [.slice pA a.vars.length kA,.slice qA a.rows.length lA] 2 _ rA rfl Tryz.underlying25 rfl zah ?_ ?_ ?_ ?_);rfl;rfl;rfl)
       |(go_at_call 13;(with_reducible refine HMA.out.mono ?_);rintro e w3 ⟨rfl,hb3⟩))
      go_meet
      case rel=>exact ⟨false,rfl,Lib.hid (by rw [← HMX.out];rfl),Lib.hid hb3⟩
    | true=>
      go_wp2_with (first
       |((with_reducible refine zaw (.tmp 12) g0 0 25 [.slice pA a.vars.length kA,.slice qA a.rows.length lA] 2 _ rA rfl Tryz.underlying25 rfl zah ?_ ?_ ?_ ?_);rfl;rfl;rfl)
       |(go_at_call 13;(with_reducible refine HMA.out.mono ?_);rintro e w3 ⟨rfl,hb3⟩;have rB:w3.rangeAt g0 2 [.slice pB b.vars.length kB,.slice qB b.rows.length lB]:=zcl ((hb3.block _ (zaa u1)).trans u1) [.slice pA a.vars.length kA,.slice qA a.rows.length lA] [VV,.int .i64 lang,.slice pN ns.length kN] rfl)
       |((with_reducible refine zca ?_ (.tmp 16) g0 2 25 [.slice pB b.vars.length kB,.slice qB b.rows.length lB] 2 _ rB rfl Tryz.underlying25 rfl zah ?_ ?_ ?_);rfl;rfl;rfl)
       |(go_at_call 13;(with_reducible refine (HMB.out _ hb3).mono ?_);rintro e w4 ⟨rfl,hb4⟩))
      go_meet
      case rel=>exact ⟨mb,rfl,Lib.hid (by rw [← HMX.out,← HMY.out,Bool.true_and]),Lib.hid (zab hb3 hb4 hb3.size)⟩
   case rest=>
    rename World=>wL
    obtain ⟨cm,rfl,HCM,HBL⟩:=hcut
    have hbz:=HBL.out
    replace b1:=zab b1 hbz b1.size
    replace TA0:=TA0.below hbz
    replace TB0:=TB0.below hbz
    replace hG:=hG.below hbz
    replace u1:=(hbz.block _ (zaa u1)).trans u1
    clear hbz
    have HU1:=Lib.hid u1
    have HA:=Lib.hid TA0
    have HB:=Lib.hid TB0
    have HGL:=Lib.hid hG
    have HB1:=Lib.hid b1
    clear u1 TA0 TB0 hG b1 HBL
    go_wp2_with fail
    go_loopg [4] 20 (fun gg s4 wr=>∃ i:Nat,i+gg=20∧s4=.int .i64 i∧Hid (Below wL.heap.size wL wr))
    case atStart=>exact ⟨0,by omega,rfl,Lib.hid (Below.refl _ _)⟩
    case round=>
     obtain ⟨i,hig,rfl,HR⟩:=hrel
     have hu:=(HR.out.block _ (zaa HU1.out)).trans HU1.out
     have c6:wr.cell? ⟨g0,6,none⟩=some (.slice pN ns.length kN):=zad hu 6 rfl
     have bWr:=HB1.out.trans (HR.out.mono HB1.out.size)
     by_cases hi:(i:Int)+1 < ns.length
     ·by_cases hi20:i < 20
      ·have d20:decide ((i:Int) < 20)=true:=decide_eq_true (by omega)
       obtain ⟨gn,on,kn,cc,e0,_,hr0,hra0⟩:=(HNS.out wr bWr).at_ i (by omega)
       injection e0 with e01 e02 e03
       subst e01 e03
       obtain ⟨gn2,on2,kn2,cc2,e0,_,hr1,hra1⟩:=(HNS.out wr bWr).at_ (i+1) (by omega)
       injection e0 with e11 e12 e13
       injection e11 with e14
       injection e14 with e15 e16
       subst e15 e16 e13
       obtain ⟨x,hx⟩:∃ x,x=ns[i]'(by omega):=⟨_,rfl⟩
       obtain ⟨y,hy⟩:∃ y,y=ns[i+1]'(by omega):=⟨_,rfl⟩
       rw [← hx] at hr0
       rw [← hy] at hr1
       obtain ⟨rfl,_⟩:=hr0
       obtain ⟨rfl,_⟩:=hr1
       have n0:wr.cell? ⟨gn,on+i,none⟩=some (.int .i64 x):=by
        have h:=hra0 0 _ rfl
        simpa [intE] using h
       have n1:wr.cell? ⟨gn,on+(i+1),none⟩=some (.int .i64 y):=by
        have h:=hra1 0 _ rfl
        simpa [intE] using h
       have e1:=zad hu 1 rfl
       have e3:=zad hu 3 rfl
       have HF:=Lib.hid (fun w' (k:Below wr.heap.size wr w')=>fitsAt a b x y _ _ _ _ w' (HGL.out.below (HR.out.trans (k.mono HR.out.size))) (HA.out.below (HR.out.trans (k.mono HR.out.size))).here (HB.out.below (HR.out.trans (k.mono HR.out.size))).here)
       have rA:wr.rangeAt g0 0 [.slice pA a.vars.length kA,.slice qA a.rows.length lA]:=zcl hu [] ([.slice pB b.vars.length kB,.slice qB b.rows.length lB]++[VV,.int .i64 lang,.slice (some ⟨gn,on,none⟩) ns.length kN]) rfl
       have rB:wr.rangeAt g0 2 [.slice pB b.vars.length kB,.slice qB b.rows.length lB]:=zcl hu [.slice pA a.vars.length kA,.slice qA a.rows.length lA] [VV,.int .i64 lang,.slice (some ⟨gn,on,none⟩) ns.length kN] rfl
       clear hra0 hra1 e02 e12 hx hy bWr
       cases cm with
       | false=>
         have HRF:Hid (zh8 a b x y=false):=Lib.hid (zlg (.inl HCM.out.symm))
         have hft:=HF.out wr (Below.refl _ _)
         rw [HRF.out] at hft
         have HFT:=Lib.hid hft
         clear hft
         go_wp2_with (first
          |((with_reducible refine zaw (.tmp 121) g0 0 25 [.slice pA a.vars.length kA,.slice qA a.rows.length lA] 2 _ rA rfl Tryz.underlying25 rfl zah ?_ ?_ ?_ ?_);rfl;rfl;rfl)
          |((with_reducible refine zaw (.tmp 123) g0 2 25 [.slice pB b.vars.length kB,.slice qB b.rows.length lB] 2 _ rB rfl Tryz.underlying25 rfl zah ?_ ?_ ?_ ?_);rfl;rfl;rfl)
          |(go_at_call 34;(with_reducible refine HFT.out.mono ?_);rintro e w5 ⟨rfl,hb5⟩))
         go_roundg (gk - 1)
         case measure=>omega
         case rel=>exact ⟨i+1,by omega,by go_num,Lib.hid (HR.out.trans (hb5.mono HR.out.size))⟩
       | true=>
         by_cases hx0:0≤x
         ·have q1:decide (0≤x)=true:=decide_eq_true (by omega)
          by_cases hx1:x < a.rows.length
          ·have q2:decide (x < (a.rows.length:Int))=true:=decide_eq_true (by omega)
           by_cases hy0:0≤y
           ·have q3:decide (0≤y)=true:=decide_eq_true (by omega)
            by_cases hy1:y < b.rows.length
            ·have q4:decide (y < (b.rows.length:Int))=true:=decide_eq_true (by omega)
             obtain ⟨ix,rfl⟩:∃ ix:Nat,x=ix:=⟨x.toNat,by omega⟩
             obtain ⟨iy,rfl⟩:∃ iy:Nat,y=iy:=⟨y.toNat,by omega⟩
             have hxi:ix < a.rows.length:=by omega
             have hyi:iy < b.rows.length:=by omega
             have hab:tabP a=true∧tabP b=true:=by
              have h:=HCM.out.symm
              simpa using h
             have TAr:=HA.out.below HR.out
             have TBr:=HB.out.below HR.out
             obtain ⟨grA,orA,l_A,pX,kX,eR,zA,hsA,hlA⟩:=TAr.rowAt hxi
             injection eR with eq1 eq2 eq3
             subst eq1 eq3
             obtain ⟨grB,orB,l_B,pY,kY,eR,zB,hsB,hlB⟩:=TBr.rowAt hyi
             injection eR with eq4 eq5 eq6
             subst eq4 eq6
             obtain ⟨fv,hfv⟩:∃ fv,fv=z2m a b ix iy:=⟨_,rfl⟩
             obtain ⟨sv,hsv⟩:∃ sv,sv=(zfs a.vars b.vars a.rows[ix] b.rows[iy]).2:=⟨_,rfl⟩
             obtain ⟨z,hz⟩:∃ z,z=za9 lang a.rows[ix] b.rows[iy]:=⟨_,rfl⟩
             have hf1:(zfs a.vars b.vars a.rows[ix] b.rows[iy]).1=fv:=by
              rw [ztz,hfv]
              unfold z2m
              rw [zz5 hxi,zz5 hyi]
             have HF2:Hid (∀ w',Below wr.heap.size wr w'→Calls Tryz.prog 34 #[.agg #[.slice pA a.vars.length kA,.slice (some ⟨grA,orA,none⟩) a.rows.length lA],.agg #[.slice pB b.vars.length kB,.slice (some ⟨grB,orB,none⟩) b.rows.length lB],.int .i64 (ix:Int),.int .i64 (iy:Int)] w' fun e w2=>e=.returned (.bool fv)∧Below w'.heap.size w' w2):=Lib.hid fun w' k=>by
              have h:=HF.out w' k
              rwa [z2n hab.1 hab.2 hxi hyi,← hfv] at h
             obtain ⟨lnA,hlnA⟩:∃ lnA,lnA=a.rows[ix].length:=⟨_,rfl⟩
             obtain ⟨lnB,hlnB⟩:∃ lnB,lnB=b.rows[iy].length:=⟨_,rfl⟩
             rw [← hlnA] at zA hsA
             rw [← hlnB] at zB hsB
             have HFI:Hid (∀ w',Below wr.heap.size wr w'→Calls Tryz.prog 31 #[.slice pA a.vars.length kA,.slice pX lnA kX,.slice pB b.vars.length kB,.slice pY lnB kY] w' fun e w2=>e=.returned (.tuple #[.bool fv,.bool sv])∧Below w'.heap.size w' w2):=Lib.hid fun w' k=>by
              have h:=z0t a.vars b.vars a.rows[ix] b.rows[iy] _ _ _ _ w' (TAr.below k).vars (hsA.stays (zae k)) (TBr.below k).vars (hsB.stays (zae k)) ((zb5 hab.1).1 _ (List.getElem_mem hxi)) ((zb5 hab.2).1 _ (List.getElem_mem hyi)) hlva hlvb
              rwa [hf1,← hsv] at h
             have HCP:Hid (∀ w',Below wr.heap.size wr w'→Calls Tryz.prog 32 #[.int .i64 lang,.slice pX lnA kX,.slice pY lnB kY] w' fun e w2=>e=.returned (.int .i64 z)∧Below w'.heap.size w' w2):=Lib.hid fun w' k=>by
              have h:=z0i lang a.rows[ix] b.rows[iy] _ _ _ _ w' (HGL.out.below (HR.out.trans (k.mono HR.out.size))) (HTAB.out w' (HB1.out.trans ((HR.out.trans (k.mono HR.out.size)).mono HB1.out.size))) (hsA.stays (zae k)) (hsB.stays (zae k)) hlA hlB
              rw [← hz] at h
              exact h.mono fun e w2 q=>⟨q.1,q.2.is⟩
             have HRW:Hid (∀ w',Below wr.heap.size wr w'→Calls Tryz.prog 33 #[.int .i64 lang,.slice pX lnA kX,.slice pY lnB kY] w' fun e w2=>e=.returned (.int .i64 z)∧Below w'.heap.size w' w2):=Lib.hid fun w' k=>by
              have h:=zsm lang a.rows[ix] b.rows[iy] _ _ _ _ w' (hsA.stays (zae k)) (hsB.stays (zae k)) hlA hlB
              rwa [← hz] at h
             have hix:(ix:Int) < a.rows.length:=by omega
             have hiy:(iy:Int) < b.rows.length:=by omega
             clear hfv hsv hz hf1 hsA hsB hlnA hlnB TAr TBr eq2 eq5 HF hlA hlB
             go_upto_region 11 with fail
             clear d20 n0 n1 e1 e3 c6 rA rB q1 q2 q3 q4
             refine wp_region_held_drew (S:=fun W'=>W'.heap[g0]?=some (.cells #[.slice pA a.vars.length kA,.slice (some ⟨grA,orA,none⟩) a.rows.length lA,.slice pB b.vars.length kB,.slice (some ⟨grB,orB,none⟩) b.rows.length lB,VV,.int .i64 lang,(.slice (some ⟨gn,on,none⟩) ns.length kN)] 28)∧W'.cell? ⟨grA,orA+ix,none⟩=some (.slice pX lnA kX)∧W'.cell? ⟨grB,orB+iy,none⟩=some (.slice pY lnB kY)) (by kernel_rfl) ⟨hu,zA,zB⟩ (fun hh=>?_)
             have hh1:=hh.1
             have hh2:=hh.2.1
             have hh3:=hh.2.2
             have bk:=Below.refl wr.heap.size wr
             clear hu zA zB
             have bq:Below wr.heap.size wr wr.drew:=(Below.refl _ _).drew
             replace bk:=zab bk bq bk.size
             clear bq hh
             generalize wr.drew=wD at*
             refine tg (i:=0) (.pointer (some ⟨g0,0,none⟩)) rfl (⟨hh1,hh2,hh3⟩) ?_
             refine tg (i:=3) (.pointer (some ⟨g0,0,none⟩)) rfl (⟨hh1,hh2,hh3⟩) ?_
             refine tg (i:=6) (.int .i64 (ix:Int)) rfl (⟨hh1,hh2,hh3⟩) ?_
             refine tg (i:=9) (.pointer (some ⟨g0,2,none⟩)) rfl (⟨hh1,hh2,hh3⟩) ?_
             refine tg (i:=12) (.pointer (some ⟨g0,2,none⟩)) rfl (⟨hh1,hh2,hh3⟩) ?_
             refine tg (i:=15) (.int .i64 (iy:Int)) rfl (⟨hh1,hh2,hh3⟩) ?_
             refine tg (i:=1) (.pointer (some ⟨g0,0,none⟩)) rfl (⟨hh1,hh2,hh3⟩) ?_
             refine tg (i:=4) (.pointer (some ⟨g0,1,none⟩)) rfl (⟨hh1,hh2,hh3⟩) ?_
             refine tg (i:=10) (.pointer (some ⟨g0,2,none⟩)) rfl (⟨hh1,hh2,hh3⟩) ?_
             refine tg (i:=13) (.pointer (some ⟨g0,3,none⟩)) rfl (⟨hh1,hh2,hh3⟩) ?_
             refine tk (i:=2) (v:=.slice pA a.vars.length kA) rfl (Or.inl ⟨by rfl,fun W' h=>by have c0:=zad h.1 0 rfl;go_simp⟩) (⟨hh1,hh2,hh3⟩) ?_
             refine tk (i:=5) (v:=.slice (some ⟨grA,orA,none⟩) a.rows.length lA) rfl (Or.inl ⟨by rfl,fun W' h=>by have c0:=zad h.1 1 rfl;go_simp⟩) (⟨hh1,hh2,hh3⟩) ?_
             refine tk (i:=11) (v:=.slice pB b.vars.length kB) rfl (Or.inl ⟨by rfl,fun W' h=>by have c0:=zad h.1 2 rfl;go_simp⟩) (⟨hh1,hh2,hh3⟩) ?_
             refine tk (i:=14) (v:=.slice (some ⟨grB,orB,none⟩) b.rows.length lB) rfl (Or.inl ⟨by rfl,fun W' h=>by have c0:=zad h.1 3 rfl;go_simp⟩) (⟨hh1,hh2,hh3⟩) ?_
             refine tg (i:=7) (.pointer (some ⟨grA,orA+ix,none⟩)) rfl (⟨hh1,hh2,hh3⟩) ?_
             refine tg (i:=16) (.pointer (some ⟨grB,orB+iy,none⟩)) rfl (⟨hh1,hh2,hh3⟩) ?_
             refine tk (i:=8) (v:=.slice pX lnA kX) rfl (Or.inl ⟨by rfl,fun W' h=>by have c0:=h.2.1;go_simp⟩) (⟨hh1,hh2,hh3⟩) ?_
             refine tk (i:=17) (v:=.slice pY lnB kY) rfl (Or.inl ⟨by rfl,fun W' h=>by have c0:=h.2.2;go_simp⟩) (⟨hh1,hh2,hh3⟩) ?_
             refine tr 18 rfl (fun K hK=>?_)
             try rw [if_pos (by rfl)]
             go_simp
             refine (HFI.out _ bk).mono ?_
             rintro e18 w18 ⟨rfl,hb18⟩
             replace hh1:=(hb18.block _ (zaa hh1)).trans hh1
             replace hh2:=zav hh2 hb18
             replace hh3:=zav hh3 hb18
             replace bk:=zab bk hb18 bk.size
             clear hb18
             refine hK.out _ _ (⟨hh1,hh2,hh3⟩) (fun _=>?_)
             clear hK K
             try simp only [putS]
             refine tg (i:=19) (.tuple #[.bool fv,.bool sv]) rfl (⟨hh1,hh2,hh3⟩) ?_
             refine tg (i:=20) (.bool fv) rfl (⟨hh1,hh2,hh3⟩) ?_
             refine tg (i:=21) (.bool sv) rfl (⟨hh1,hh2,hh3⟩) ?_
             refine tg (i:=22) (.bool fv) rfl (⟨hh1,hh2,hh3⟩) ?_
             refine wpAnyH_done (by kernel_rfl) ?_ _
             go_upto_region 12 with fail
             refine wp_region_held_drew (S:=fun W'=>W'.heap[g0]?=some (.cells #[.slice pA a.vars.length kA,.slice (some ⟨grA,orA,none⟩) a.rows.length lA,.slice pB b.vars.length kB,.slice (some ⟨grB,orB,none⟩) b.rows.length lB,VV,.int .i64 lang,(.slice (some ⟨gn,on,none⟩) ns.length kN)] 28)∧W'.cell? ⟨grA,orA+ix,none⟩=some (.slice pX lnA kX)∧W'.cell? ⟨grB,orB+iy,none⟩=some (.slice pY lnB kY)) (by kernel_rfl) ⟨hh1,hh2,hh3⟩ (fun hh=>?_)
             replace hh1:=hh.1
             replace hh2:=hh.2.1
             replace hh3:=hh.2.2
             have bq:Below w18.heap.size w18 w18.drew:=(Below.refl _ _).drew
             replace bk:=zab bk bq bk.size
             clear bq hh
             generalize w18.drew=wE at*
             refine tg (i:=0) (.pointer (some ⟨g0,5,none⟩)) rfl (⟨hh1,hh2,hh3⟩) ?_
             refine tg (i:=2) (.pointer (some ⟨g0,0,none⟩)) rfl (⟨hh1,hh2,hh3⟩) ?_
             refine tg (i:=5) (.int .i64 (ix:Int)) rfl (⟨hh1,hh2,hh3⟩) ?_
             refine tg (i:=8) (.pointer (some ⟨g0,2,none⟩)) rfl (⟨hh1,hh2,hh3⟩) ?_
             refine tg (i:=11) (.int .i64 (iy:Int)) rfl (⟨hh1,hh2,hh3⟩) ?_
             refine tg (i:=15) (.pointer (some ⟨g0,5,none⟩)) rfl (⟨hh1,hh2,hh3⟩) ?_
             refine tg (i:=17) (.pointer (some ⟨g0,0,none⟩)) rfl (⟨hh1,hh2,hh3⟩) ?_
             refine tg (i:=20) (.int .i64 (ix:Int)) rfl (⟨hh1,hh2,hh3⟩) ?_
             refine tg (i:=23) (.pointer (some ⟨g0,2,none⟩)) rfl (⟨hh1,hh2,hh3⟩) ?_
             refine tg (i:=26) (.int .i64 (iy:Int)) rfl (⟨hh1,hh2,hh3⟩) ?_
             refine tk (i:=1) (v:=.int .i64 lang) rfl (Or.inl ⟨by rfl,fun W' h=>by have c0:=zad h.1 5 rfl;go_simp⟩) (⟨hh1,hh2,hh3⟩) ?_
             refine tg (i:=3) (.pointer (some ⟨g0,1,none⟩)) rfl (⟨hh1,hh2,hh3⟩) ?_
             refine tg (i:=9) (.pointer (some ⟨g0,3,none⟩)) rfl (⟨hh1,hh2,hh3⟩) ?_
             refine tk (i:=16) (v:=.int .i64 lang) rfl (Or.inl ⟨by rfl,fun W' h=>by have c0:=zad h.1 5 rfl;go_simp⟩) (⟨hh1,hh2,hh3⟩) ?_
             refine tg (i:=18) (.pointer (some ⟨g0,1,none⟩)) rfl (⟨hh1,hh2,hh3⟩) ?_
             refine tg (i:=24) (.pointer (some ⟨g0,3,none⟩)) rfl (⟨hh1,hh2,hh3⟩) ?_
             refine tk (i:=4) (v:=.slice (some ⟨grA,orA,none⟩) a.rows.length lA) rfl (Or.inl ⟨by rfl,fun W' h=>by have c0:=zad h.1 1 rfl;go_simp⟩) (⟨hh1,hh2,hh3⟩) ?_
             refine tk (i:=10) (v:=.slice (some ⟨grB,orB,none⟩) b.rows.length lB) rfl (Or.inl ⟨by rfl,fun W' h=>by have c0:=zad h.1 3 rfl;go_simp⟩) (⟨hh1,hh2,hh3⟩) ?_
             refine tk (i:=19) (v:=.slice (some ⟨grA,orA,none⟩) a.rows.length lA) rfl (Or.inl ⟨by rfl,fun W' h=>by have c0:=zad h.1 1 rfl;go_simp⟩) (⟨hh1,hh2,hh3⟩) ?_
             refine tk (i:=25) (v:=.slice (some ⟨grB,orB,none⟩) b.rows.length lB) rfl (Or.inl ⟨by rfl,fun W' h=>by have c0:=zad h.1 3 rfl;go_simp⟩) (⟨hh1,hh2,hh3⟩) ?_
             refine tg (i:=6) (.pointer (some ⟨grA,orA+ix,none⟩)) rfl (⟨hh1,hh2,hh3⟩) ?_
             refine tg (i:=12) (.pointer (some ⟨grB,orB+iy,none⟩)) rfl (⟨hh1,hh2,hh3⟩) ?_
             refine tg (i:=21) (.pointer (some ⟨grA,orA+ix,none⟩)) rfl (⟨hh1,hh2,hh3⟩) ?_
             refine tg (i:=27) (.pointer (some ⟨grB,orB+iy,none⟩)) rfl (⟨hh1,hh2,hh3⟩) ?_
             refine tk (i:=7) (v:=.slice pX lnA kX) rfl (Or.inl ⟨by rfl,fun W' h=>by have c0:=h.2.1;go_simp⟩) (⟨hh1,hh2,hh3⟩) ?_
             refine tk (i:=13) (v:=.slice pY lnB kY) rfl (Or.inl ⟨by rfl,fun W' h=>by have c0:=h.2.2;go_simp⟩) (⟨hh1,hh2,hh3⟩) ?_
             refine tk (i:=22) (v:=.slice pX lnA kX) rfl (Or.inl ⟨by rfl,fun W' h=>by have c0:=h.2.1;go_simp⟩) (⟨hh1,hh2,hh3⟩) ?_
             refine tk (i:=28) (v:=.slice pY lnB kY) rfl (Or.inl ⟨by rfl,fun W' h=>by have c0:=h.2.2;go_simp⟩) (⟨hh1,hh2,hh3⟩) ?_
             refine tr 14 rfl (fun K hK=>?_)
             try rw [if_pos (by rfl)]
             go_simp
             refine (HCP.out _ bk).mono ?_
             rintro e14 w14 ⟨rfl,hb14⟩
             replace hh1:=(hb14.block _ (zaa hh1)).trans hh1
             replace hh2:=zav hh2 hb14
             replace hh3:=zav hh3 hb14
             replace bk:=zab bk hb14 bk.size
             clear hb14
             refine hK.out _ _ (⟨hh1,hh2,hh3⟩) (fun _=>?_)
             clear hK K
             try simp only [putS]
             refine tr 29 rfl (fun K hK=>?_)
             try rw [if_pos (by rfl)]
             go_simp
             refine (HRW.out _ bk).mono ?_
             rintro e29 w29 ⟨rfl,hb29⟩
             replace hh1:=(hb29.block _ (zaa hh1)).trans hh1
             replace hh2:=zav hh2 hb29
             replace hh3:=zav hh3 hb29
             replace bk:=zab bk hb29 bk.size
             clear hb29
             refine hK.out _ _ (⟨hh1,hh2,hh3⟩) (fun _=>?_)
             clear hK K
             try simp only [putS]
             refine tg (i:=30) (.bool false) rfl (⟨hh1,hh2,hh3⟩) ?_
             refine wpAnyH_done (by kernel_rfl) ?_ _
             have HBK:=Lib.hid bk
             have rA:w29.rangeAt g0 0 [.slice pA a.vars.length kA,.slice (some ⟨grA,orA,none⟩) a.rows.length lA]:=zcl hh1 [] ([.slice pB b.vars.length kB,.slice (some ⟨grB,orB,none⟩) b.rows.length lB]++[VV,.int .i64 lang,.slice (some ⟨gn,on,none⟩) ns.length kN]) rfl
             have rB:w29.rangeAt g0 2 [.slice pB b.vars.length kB,.slice (some ⟨grB,orB,none⟩) b.rows.length lB]:=zcl hh1 [.slice pA a.vars.length kA,.slice (some ⟨grA,orA,none⟩) a.rows.length lA] [VV,.int .i64 lang,.slice (some ⟨gn,on,none⟩) ns.length kN] rfl
             have HFT:=Lib.hid (HF2.out _ bk)
             clear hh1 hh2 hh3 bk
             go_wp2_with (first
              |((with_reducible refine zaw (.tmp 121) g0 0 25 [.slice pA a.vars.length kA,.slice (some ⟨grA,orA,none⟩) a.rows.length lA] 2 _ rA rfl Tryz.underlying25 rfl zah ?_ ?_ ?_ ?_);rfl;rfl;rfl)
              |((with_reducible refine zaw (.tmp 123) g0 2 25 [.slice pB b.vars.length kB,.slice (some ⟨grB,orB,none⟩) b.rows.length lB] 2 _ rB rfl Tryz.underlying25 rfl zah ?_ ?_ ?_ ?_);rfl;rfl;rfl)
              |(go_at_call 34;(with_reducible refine HFT.out.mono ?_);rintro e w5 ⟨rfl,hb5⟩))
             go_roundg (gk - 1)
             case measure=>omega
             case rel=>exact ⟨i+1,by omega,by go_num,Lib.hid (HR.out.trans ((zab HBK.out hb5 HBK.out.size).mono HR.out.size))⟩
            ·have q4:decide (y < (b.rows.length:Int))=false:=decide_eq_false (by omega)
             have HRF:Hid (zh8 a b x y=false):=Lib.hid (zlg (.inr (.inr (.inr (.inr hy1)))))
             have hft:=HF.out wr (Below.refl _ _)
             rw [HRF.out] at hft
             have HFT:=Lib.hid hft
             clear hft
             go_wp2_with (first
              |((with_reducible refine zaw (.tmp 121) g0 0 25 [.slice pA a.vars.length kA,.slice qA a.rows.length lA] 2 _ rA rfl Tryz.underlying25 rfl zah ?_ ?_ ?_ ?_);rfl;rfl;rfl)
              |((with_reducible refine zaw (.tmp 123) g0 2 25 [.slice pB b.vars.length kB,.slice qB b.rows.length lB] 2 _ rB rfl Tryz.underlying25 rfl zah ?_ ?_ ?_ ?_);rfl;rfl;rfl)
              |(go_at_call 34;(with_reducible refine HFT.out.mono ?_);rintro e w5 ⟨rfl,hb5⟩))
             go_roundg (gk - 1)
             case measure=>omega
             case rel=>exact ⟨i+1,by omega,by go_num,Lib.hid (HR.out.trans (hb5.mono HR.out.size))⟩
           ·have q3:decide (0≤y)=false:=decide_eq_false (by omega)
            have HRF:Hid (zh8 a b x y=false):=Lib.hid (zlg (.inr (.inr (.inr (.inl hy0)))))
            have hft:=HF.out wr (Below.refl _ _)
            rw [HRF.out] at hft
            have HFT:=Lib.hid hft
            clear hft
            go_wp2_with (first
             |((with_reducible refine zaw (.tmp 121) g0 0 25 [.slice pA a.vars.length kA,.slice qA a.rows.length lA] 2 _ rA rfl Tryz.underlying25 rfl zah ?_ ?_ ?_ ?_);rfl;rfl;rfl)
             |((with_reducible refine zaw (.tmp 123) g0 2 25 [.slice pB b.vars.length kB,.slice qB b.rows.length lB] 2 _ rB rfl Tryz.underlying25 rfl zah ?_ ?_ ?_ ?_);rfl;rfl;rfl)
             |(go_at_call 34;(with_reducible refine HFT.out.mono ?_);rintro e w5 ⟨rfl,hb5⟩))
            go_roundg (gk - 1)
            case measure=>omega
            case rel=>exact ⟨i+1,by omega,by go_num,Lib.hid (HR.out.trans (hb5.mono HR.out.size))⟩
          ·have q2:decide (x < (a.rows.length:Int))=false:=decide_eq_false (by omega)
           have HRF:Hid (zh8 a b x y=false):=Lib.hid (zlg (.inr (.inr (.inl hx1))))
           have hft:=HF.out wr (Below.refl _ _)
           rw [HRF.out] at hft
           have HFT:=Lib.hid hft
           clear hft
           go_wp2_with (first
            |((with_reducible refine zaw (.tmp 121) g0 0 25 [.slice pA a.vars.length kA,.slice qA a.rows.length lA] 2 _ rA rfl Tryz.underlying25 rfl zah ?_ ?_ ?_ ?_);rfl;rfl;rfl)
            |((with_reducible refine zaw (.tmp 123) g0 2 25 [.slice pB b.vars.length kB,.slice qB b.rows.length lB] 2 _ rB rfl Tryz.underlying25 rfl zah ?_ ?_ ?_ ?_);rfl;rfl;rfl)
            |(go_at_call 34;(with_reducible refine HFT.out.mono ?_);rintro e w5 ⟨rfl,hb5⟩))
           go_roundg (gk - 1)
           case measure=>omega
           case rel=>exact ⟨i+1,by omega,by go_num,Lib.hid (HR.out.trans (hb5.mono HR.out.size))⟩
         ·have q1:decide (0≤x)=false:=decide_eq_false (by omega)
          have HRF:Hid (zh8 a b x y=false):=Lib.hid (zlg (.inr (.inl hx0)))
          have hft:=HF.out wr (Below.refl _ _)
          rw [HRF.out] at hft
          have HFT:=Lib.hid hft
          clear hft
          go_wp2_with (first
           |((with_reducible refine zaw (.tmp 121) g0 0 25 [.slice pA a.vars.length kA,.slice qA a.rows.length lA] 2 _ rA rfl Tryz.underlying25 rfl zah ?_ ?_ ?_ ?_);rfl;rfl;rfl)
           |((with_reducible refine zaw (.tmp 123) g0 2 25 [.slice pB b.vars.length kB,.slice qB b.rows.length lB] 2 _ rB rfl Tryz.underlying25 rfl zah ?_ ?_ ?_ ?_);rfl;rfl;rfl)
           |(go_at_call 34;(with_reducible refine HFT.out.mono ?_);rintro e w5 ⟨rfl,hb5⟩))
          go_roundg (gk - 1)
          case measure=>omega
          case rel=>exact ⟨i+1,by omega,by go_num,Lib.hid (HR.out.trans (hb5.mono HR.out.size))⟩
      ·have d20:decide ((i:Int) < 20)=false:=decide_eq_false (by omega)
       have u1:=hu
       have hG:=HGL.out.below HR.out
       have TA0:=HA.out.below HR.out
       have TB0:=HB.out.below HR.out
       have b1:=HB1.out.trans (HR.out.mono HB1.out.size)
       go_upto_region 16 with fail
       clear c6 hu
       refine wp_region_held_drew (S:=fun W'=>W'.heap[g0]?=some (.cells #[.slice pA a.vars.length kA,.slice qA a.rows.length lA,.slice pB b.vars.length kB,.slice qB b.rows.length lB,VV,.int .i64 lang,(.slice pN ns.length kN)] 28)) (by kernel_rfl) u1 (fun hh=>?_)
       have bq:Below wr.heap.size wr wr.drew:=(Below.refl _ _).drew
       replace b1:=zab b1 bq b1.size
       replace hG:=hG.below bq
       replace TA0:=TA0.below bq
       replace TB0:=TB0.below bq
       clear bq u1
       generalize wr.drew=wD at*
       refine tg (i:=0) (.pointer (some ⟨g0,0,none⟩)) rfl (hh) ?_
       refine tg (i:=2) (.pointer (some ⟨g0,2,none⟩)) rfl (hh) ?_
       refine tg (i:=5) (.pointer (some ⟨g0,0,none⟩)) rfl (hh) ?_
       refine tg (i:=7) (.pointer (some ⟨g0,2,none⟩)) rfl (hh) ?_
       refine tk (i:=1) (v:=.agg #[.slice pA a.vars.length kA,.slice qA a.rows.length lA]) rfl (yieldsIf_load_mid (by rfl) 25 (.tmp 130) rfl g0 0 rfl [.slice pA a.vars.length kA,.slice qA a.rows.length lA] _ (fun W h=>zcl h [] ([.slice pB b.vars.length kB,.slice qB b.rows.length lB]++[VV,.int .i64 lang,.slice pN ns.length kN]) rfl) Tryz.underlying25 rfl zah) (hh) ?_
       refine tk (i:=3) (v:=.agg #[.slice pB b.vars.length kB,.slice qB b.rows.length lB]) rfl (yieldsIf_load_mid (by rfl) 25 (.tmp 132) rfl g0 2 rfl [.slice pB b.vars.length kB,.slice qB b.rows.length lB] _ (fun W h=>zcl h [.slice pA a.vars.length kA,.slice qA a.rows.length lA] [VV,.int .i64 lang,.slice pN ns.length kN] rfl) Tryz.underlying25 rfl zah) (hh) ?_
       refine tk (i:=6) (v:=.agg #[.slice pA a.vars.length kA,.slice qA a.rows.length lA]) rfl (yieldsIf_load_mid (by rfl) 25 (.tmp 135) rfl g0 0 rfl [.slice pA a.vars.length kA,.slice qA a.rows.length lA] _ (fun W h=>zcl h [] ([.slice pB b.vars.length kB,.slice qB b.rows.length lB]++[VV,.int .i64 lang,.slice pN ns.length kN]) rfl) Tryz.underlying25 rfl zah) (hh) ?_
       refine tk (i:=8) (v:=.agg #[.slice pB b.vars.length kB,.slice qB b.rows.length lB]) rfl (yieldsIf_load_mid (by rfl) 25 (.tmp 137) rfl g0 2 rfl [.slice pB b.vars.length kB,.slice qB b.rows.length lB] _ (fun W h=>zcl h [.slice pA a.vars.length kA,.slice qA a.rows.length lA] [VV,.int .i64 lang,.slice pN ns.length kN] rfl) Tryz.underlying25 rfl zah) (hh) ?_
       refine tr 4 rfl (fun K hK=>?_)
       try rw [if_pos (by rfl)]
       go_simp
       refine (zr4 a b _ _ _ _ wD hG TA0.here TB0.here HWT.out.1 HWT.out.2).mono ?_
       rintro e4 w4_ ⟨rfl,hb4⟩
       replace hh:=(hb4.block _ (zaa hh)).trans hh
       replace b1:=zab b1 hb4 b1.size
       replace hG:=hG.below hb4
       replace TA0:=TA0.below hb4
       replace TB0:=TB0.below hb4
       clear hb4
       refine hK.out _ _ (hh) (fun _=>?_)
       clear hK K
       try simp only [putS]
       refine tr 9 rfl (fun K hK=>?_)
       try rw [if_pos (by rfl)]
       go_simp
       refine (zpx a b _ _ _ _ w4_ TA0.here TB0.here).mono ?_
       rintro e9 w9_ ⟨rfl,hb9⟩
       replace hh:=(hb9.block _ (zaa hh)).trans hh
       replace b1:=zab b1 hb9 b1.size
       replace hG:=hG.below hb9
       replace TA0:=TA0.below hb9
       replace TB0:=TB0.below hb9
       clear hb9
       refine hK.out _ _ (hh) (fun _=>?_)
       clear hK K
       try simp only [putS]
       refine tg (i:=10) (.bool true) rfl (hh) ?_
       refine tg (i:=11) (.bool true) rfl (hh) ?_
       refine tr 12 rfl (fun K hK=>?_)
       try rw [if_pos (by rfl)]
       go_simp
       refine (HWK.out _ b1).mono ?_
       rintro e12 w12_ ⟨rfl,hb12⟩
       replace hh:=(hb12.block _ (zaa hh)).trans hh
       replace b1:=zab b1 hb12 b1.size
       replace hG:=hG.below hb12
       replace TA0:=TA0.below hb12
       replace TB0:=TB0.below hb12
       clear hb12
       refine hK.out _ _ (hh) (fun _=>?_)
       clear hK K
       try simp only [putS]
       refine tg (i:=13) (.bool true) rfl (hh) ?_
       refine tg (i:=14) (.bool true) rfl (hh) ?_
       refine wpAnyH_done (by kernel_rfl) ?_ _
       go_wp2_with fail
       go_ret
       exact ⟨rfl,b1⟩
     ·have u1:=hu
      have hG:=HGL.out.below HR.out
      have TA0:=HA.out.below HR.out
      have TB0:=HB.out.below HR.out
      have b1:=HB1.out.trans (HR.out.mono HB1.out.size)
      go_upto_region 16 with fail
      clear c6 hu
      refine wp_region_held_drew (S:=fun W'=>W'.heap[g0]?=some (.cells #[.slice pA a.vars.length kA,.slice qA a.rows.length lA,.slice pB b.vars.length kB,.slice qB b.rows.length lB,VV,.int .i64 lang,(.slice pN ns.length kN)] 28)) (by kernel_rfl) u1 (fun hh=>?_)
      have bq:Below wr.heap.size wr wr.drew:=(Below.refl _ _).drew
      replace b1:=zab b1 bq b1.size
      replace hG:=hG.below bq
      replace TA0:=TA0.below bq
      replace TB0:=TB0.below bq
      clear bq u1
      generalize wr.drew=wD at*
      refine tg (i:=0) (.pointer (some ⟨g0,0,none⟩)) rfl (hh) ?_
      refine tg (i:=2) (.pointer (some ⟨g0,2,none⟩)) rfl (hh) ?_
      refine tg (i:=5) (.pointer (some ⟨g0,0,none⟩)) rfl (hh) ?_
      refine tg (i:=7) (.pointer (some ⟨g0,2,none⟩)) rfl (hh) ?_
      refine tk (i:=1) (v:=.agg #[.slice pA a.vars.length kA,.slice qA a.rows.length lA]) rfl (yieldsIf_load_mid (by rfl) 25 (.tmp 130) rfl g0 0 rfl [.slice pA a.vars.length kA,.slice qA a.rows.length lA] _ (fun W h=>zcl h [] ([.slice pB b.vars.length kB,.slice qB b.rows.length lB]++[VV,.int .i64 lang,.slice pN ns.length kN]) rfl) Tryz.underlying25 rfl zah) (hh) ?_
      refine tk (i:=3) (v:=.agg #[.slice pB b.vars.length kB,.slice qB b.rows.length lB]) rfl (yieldsIf_load_mid (by rfl) 25 (.tmp 132) rfl g0 2 rfl [.slice pB b.vars.length kB,.slice qB b.rows.length lB] _ (fun W h=>zcl h [.slice pA a.vars.length kA,.slice qA a.rows.length lA] [VV,.int .i64 lang,.slice pN ns.length kN] rfl) Tryz.underlying25 rfl zah) (hh) ?_
      refine tk (i:=6) (v:=.agg #[.slice pA a.vars.length kA,.slice qA a.rows.length lA]) rfl (yieldsIf_load_mid (by rfl) 25 (.tmp 135) rfl g0 0 rfl [.slice pA a.vars.length kA,.slice qA a.rows.length lA] _ (fun W h=>zcl h [] ([.slice pB b.vars.length kB,.slice qB b.rows.length lB]++[VV,.int .i64 lang,.slice pN ns.length kN]) rfl) Tryz.underlying25 rfl zah) (hh) ?_
      refine tk (i:=8) (v:=.agg #[.slice pB b.vars.length kB,.slice qB b.rows.length lB]) rfl (yieldsIf_load_mid (by rfl) 25 (.tmp 137) rfl g0 2 rfl [.slice pB b.vars.length kB,.slice qB b.rows.length lB] _ (fun W h=>zcl h [.slice pA a.vars.length kA,.slice qA a.rows.length lA] [VV,.int .i64 lang,.slice pN ns.length kN] rfl) Tryz.underlying25 rfl zah) (hh) ?_
      refine tr 4 rfl (fun K hK=>?_)
      try rw [if_pos (by rfl)]
      go_simp
      refine (zr4 a b _ _ _ _ wD hG TA0.here TB0.here HWT.out.1 HWT.out.2).mono ?_
      rintro e4 w4_ ⟨rfl,hb4⟩
      replace hh:=(hb4.block _ (zaa hh)).trans hh
      replace b1:=zab b1 hb4 b1.size
      replace hG:=hG.below hb4
      replace TA0:=TA0.below hb4
      replace TB0:=TB0.below hb4
      clear hb4
      refine hK.out _ _ (hh) (fun _=>?_)
      clear hK K
      try simp only [putS]
      refine tr 9 rfl (fun K hK=>?_)
      try rw [if_pos (by rfl)]
      go_simp
      refine (zpx a b _ _ _ _ w4_ TA0.here TB0.here).mono ?_
      rintro e9 w9_ ⟨rfl,hb9⟩
      replace hh:=(hb9.block _ (zaa hh)).trans hh
      replace b1:=zab b1 hb9 b1.size
      replace hG:=hG.below hb9
      replace TA0:=TA0.below hb9
      replace TB0:=TB0.below hb9
      clear hb9
      refine hK.out _ _ (hh) (fun _=>?_)
      clear hK K
      try simp only [putS]
      refine tg (i:=10) (.bool true) rfl (hh) ?_
      refine tg (i:=11) (.bool true) rfl (hh) ?_
      refine tr 12 rfl (fun K hK=>?_)
      try rw [if_pos (by rfl)]
      go_simp
      refine (HWK.out _ b1).mono ?_
      rintro e12 w12_ ⟨rfl,hb12⟩
      replace hh:=(hb12.block _ (zaa hh)).trans hh
      replace b1:=zab b1 hb12 b1.size
      replace hG:=hG.below hb12
      replace TA0:=TA0.below hb12
      replace TB0:=TB0.below hb12
      clear hb12
      refine hK.out _ _ (hh) (fun _=>?_)
      clear hK K
      try simp only [putS]
      refine tg (i:=13) (.bool true) rfl (hh) ?_
      refine tg (i:=14) (.bool true) rfl (hh) ?_
      refine wpAnyH_done (by kernel_rfl) ?_ _
      go_wp2_with fail
      go_ret
      exact ⟨rfl,b1⟩
section
open Go.ChangeShapes Go.WideShapes Go.ChangeAt Go.RowKit
theorem z2z {P:Program} {f:FuncId} {fn:Func} {s:ChangeSpec} {c:OpenClaim} (h0:(c.wf (OpenSpec.ofChange s) && laidOutB P && mapsRowed P && fn.params.all (P.readableRec ·) && namedTie P c.named s.vars && (c.stops == []) && (P.stops == []) && (c.knobs == []) && (P.stopKnobs == []) && (c.maps == (fn.params.toList++s.plain.varTypes P).any (P.mapsRec ·)) && (c.ifaces == (fn.params.toList++s.plain.varTypes P).any (P.ifacesRec ·)) && (c.mapsOut == P.mapsAmong fn.resultTypes.toList) && (c.loops == (fn.params.toList++s.plain.varTypes P).any (P.loopsFrom ·)) && (c.wideKeys == (fn.params.toList++s.plain.varTypes P++fn.resultTypes.toList).any (P.wideKeysFrom ·)) && s.vars.all (P.varReadable ·) && fn.resultTypes.all (fun t=>P.readableRec t && decide (t < P.types.size)) && (c.ifacesOut == fn.resultTypes.toList.any (P.ifacesRec ·)) && (c.loopsOut == fn.resultTypes.toList.any (P.loopsFrom ·)))=true) (h1:((c.inPlace == P.inPlace f))=true) (h2:((c.unfollowed == P.unfollowed f))=true) (h3:((c.recurses == P.recurses f))=true) (h4:((c.named == P.varsNamed f))=true) (h5:((c.plainKeys == P.plainKeys))=true) (h6:(c.shortTexts.isNone && P.stopsHeard && P.mayEnter && (c.lifted == P.liftsFinal) && (P.make == some c.make))=true) (h7:((c.kinds == (if c.domain.isEmpty then [] else fn.params.toList.map fun t=>match P.underlying t with | some (.int k)=>some k | _=>none)) && (c.pinned == c.pinnedBy) && (c.veiled == (fn.params.toList++s.plain.varTypes P++fn.resultTypes.toList).any (P.veiledRec ·)) && c.veiledFits P fn.params.toList (fn.params.toList++s.plain.varTypes P++fn.resultTypes.toList))=true):joinedFacts P f fn s c=true:=by
 unfold joinedFacts
 simp only [Bool.and_eq_true] at h0 h6 h7 ⊢
 simp only [h0,h1,h2,h3,h4,h5,h6,h7,and_self]
 exact ⟨⟨⟨⟨trivial,h7.1.1.1⟩,trivial⟩,trivial⟩,trivial⟩
theorem z24:(Rows.rowsFitsUptoRow.wf (OpenSpec.ofChange (Rows.OpenSpec.upto Rows.rowsFitsSpec).bare) && laidOutB Tryz.pinned.checked.prog && mapsRowed Tryz.pinned.checked.prog && Tryz.f4.params.all (Tryz.pinned.checked.prog.readableRec ·) && namedTie Tryz.pinned.checked.prog Rows.rowsFitsUptoRow.named (Rows.OpenSpec.upto Rows.rowsFitsSpec).bare.vars && (Rows.rowsFitsUptoRow.stops == []) && (Tryz.pinned.checked.prog.stops == []) && (Rows.rowsFitsUptoRow.knobs == []) && (Tryz.pinned.checked.prog.stopKnobs == []) && (Rows.rowsFitsUptoRow.maps == (Tryz.f4.params.toList++(Rows.OpenSpec.upto Rows.rowsFitsSpec).bare.plain.varTypes Tryz.pinned.checked.prog).any (Tryz.pinned.checked.prog.mapsRec ·)) && (Rows.rowsFitsUptoRow.ifaces == (Tryz.f4.params.toList++(Rows.OpenSpec.upto Rows.rowsFitsSpec).bare.plain.varTypes Tryz.pinned.checked.prog).any (Tryz.pinned.checked.prog.ifacesRec ·)) && (Rows.rowsFitsUptoRow.mapsOut == Tryz.pinned.checked.prog.mapsAmong Tryz.f4.resultTypes.toList) && (Rows.rowsFitsUptoRow.loops == (Tryz.f4.params.toList++(Rows.OpenSpec.upto Rows.rowsFitsSpec).bare.plain.varTypes Tryz.pinned.checked.prog).any (Tryz.pinned.checked.prog.loopsFrom ·)) && (Rows.rowsFitsUptoRow.wideKeys == (Tryz.f4.params.toList++(Rows.OpenSpec.upto Rows.rowsFitsSpec).bare.plain.varTypes Tryz.pinned.checked.prog++Tryz.f4.resultTypes.toList).any (Tryz.pinned.checked.prog.wideKeysFrom ·)) && (Rows.OpenSpec.upto Rows.rowsFitsSpec).bare.vars.all (Tryz.pinned.checked.prog.varReadable ·) && Tryz.f4.resultTypes.all (fun t=>Tryz.pinned.checked.prog.readableRec t && decide (t < Tryz.pinned.checked.prog.types.size)) && (Rows.rowsFitsUptoRow.ifacesOut == Tryz.f4.resultTypes.toList.any (Tryz.pinned.checked.prog.ifacesRec ·)) && (Rows.rowsFitsUptoRow.loopsOut == Tryz.f4.resultTypes.toList.any (Tryz.pinned.checked.prog.loopsFrom ·)))=true:=by kernel_rfl
theorem z26:((Rows.rowsFitsUptoRow.inPlace == Tryz.pinned.checked.prog.inPlace 4))=true:=by kernel_rfl
theorem z27:((Rows.rowsFitsUptoRow.unfollowed == Tryz.pinned.checked.prog.unfollowed 4))=true:=by kernel_rfl
theorem z28:((Rows.rowsFitsUptoRow.recurses == Tryz.pinned.checked.prog.recurses 4))=true:=by kernel_rfl
theorem z29:((Rows.rowsFitsUptoRow.named == Tryz.pinned.checked.prog.varsNamed 4))=true:=by kernel_rfl
theorem z3a:((Rows.rowsFitsUptoRow.plainKeys == Tryz.pinned.checked.prog.plainKeys))=true:=by kernel_rfl
theorem z3b:(Rows.rowsFitsUptoRow.shortTexts.isNone && Tryz.pinned.checked.prog.stopsHeard && Tryz.pinned.checked.prog.mayEnter && (Rows.rowsFitsUptoRow.lifted == Tryz.pinned.checked.prog.liftsFinal) && (Tryz.pinned.checked.prog.make == some Rows.rowsFitsUptoRow.make))=true:=by kernel_rfl
theorem z3c:((Rows.rowsFitsUptoRow.kinds == (if Rows.rowsFitsUptoRow.domain.isEmpty then [] else Tryz.f4.params.toList.map fun t=>match Tryz.pinned.checked.prog.underlying t with | some (.int k)=>some k | _=>none)) && (Rows.rowsFitsUptoRow.pinned == Rows.rowsFitsUptoRow.pinnedBy) && (Rows.rowsFitsUptoRow.veiled == (Tryz.f4.params.toList++(Rows.OpenSpec.upto Rows.rowsFitsSpec).bare.plain.varTypes Tryz.pinned.checked.prog++Tryz.f4.resultTypes.toList).any (Tryz.pinned.checked.prog.veiledRec ·)) && Rows.rowsFitsUptoRow.veiledFits Tryz.pinned.checked.prog Tryz.f4.params.toList (Tryz.f4.params.toList++(Rows.OpenSpec.upto Rows.rowsFitsSpec).bare.plain.varTypes Tryz.pinned.checked.prog++Tryz.f4.resultTypes.toList))=true:=by kernel_rfl
theorem z3d:joinedFacts Tryz.pinned.checked.prog 4 Tryz.f4 (Rows.OpenSpec.upto Rows.rowsFitsSpec).bare Rows.rowsFitsUptoRow=true:=z2z z24 z26 z27 z28 z29 z3a z3b z3c
theorem z3e:Tryz.pinned.checked.prog.funcNamed Rows.rowsFitsUptoRow.func=some 4:=by kernel_rfl
end
end Go.Proofs.YteclpnfckjfibaaGreatDoor
