/- Texts of one kind, one behind the other: each says ahead of itself what it shows. -/
import Derived.Test.YtcfmenkigolnoaaGreatDoorWbb
import Derived.Test.YtcfmenkigolnoaaGreatDoorWap
import Derived.Test.YtcfmenkigolnoaaGreatDoorWbc
/- GLS -/
namespace Go.Proofs.YtcfmenkigolnoaaGreatDoor
open Go.RowKit
structure zuq (g:zau) (W:World) (s yb:Nat) (A B:Value) (w:World):Prop where
 bel:Below W.heap.size W w
 uy:w.heap[yb]?=some (.cells #[A,B] 25 (0,0))
 st:zdh w s g
 hA:zak za4 w (Old w) A (za3 g).nodes
 hB:zak zaz w (Old w) B (za3 g).edges
theorem zuq.below {g:zau} {W:World} {s yb:Nat} {A B:Value} {w w':World} (h:zuq g W s yb A B w) (b:Below w.heap.size w w'):zuq g W s yb A B w':=
 ⟨zab h.bel b h.bel.size,(b.block _ (zaa h.uy)).trans h.uy,h.st.below b,h.hA.stays (zad b),h.hB.stays (zad b)⟩
def zqs (base:Nat) (g:zau) (gb:Bool) (sp:Option Addr) (ev:Int) (w:World):Prop:=if gb=true then ∃ s,sp=some ⟨s,0,none⟩∧ev=0∧zgo base w s g else sp=none∧ev=21
theorem zqs.keep {base:Nat} {g:zau} {gb:Bool} {sp:Option Addr} {ev:Int} {w w':World} (h:zqs base g gb sp ev w) (hs:∀ i,base≤i→i < w.heap.size→w'.heap[i]?=w.heap[i]?) (hz:w.heap.size≤w'.heap.size):zqs base g gb sp ev w':=by
 unfold zqs at*
 cases gb with
 | false=>exact h
 | true=>
   obtain ⟨s,e1,e2,hst⟩:=h
   exact ⟨s,e1,e2,hst.keep hs hz⟩
set_option maxHeartbeats 25600000 in
set_option maxRecDepth 100000 in
theorem zv8 (g:zau) (vn ve:Value) (W:World) (hG:Gd W) (hn:zak zgw W (Old W) vn g.nodes) (he:zak zaz W (Old W) ve g.edges) (hn1:g.nodes.length≤2097152) (hn2:g.edges.length≤2097152):
 Calls Tryz.prog 3 #[.agg #[vn,ve]] W fun e w'=>e=.returned (.bool true)∧Below W.heap.size W w':=by
 obtain ⟨p1,cap1,rfl⟩:=hn.slice
 obtain ⟨p2,cap2,rfl⟩:=he.slice
 have HLX:=Lib.hid (fun W' (b:Below W.heap.size W W')=>lightX g _ _ W' ((zda hn).stays (zad b)) (he.stays (zad b)) hn1 hn2)
 have HMY:=Lib.hid (fun W' (b:Below W.heap.size W W')=>zql g _ _ W' (hn.stays (zad b)) (he.stays (zad b)) hn1 hn2)
 have HCG:=Lib.hid (fun W' (b:Below W.heap.size W W')=>zgt g _ _ W' (hn.stays (zad b)) (he.stays (zad b)) hn1 hn2)
 have HWK:=Lib.hid (fun W' (b:Below W.heap.size W W')=>wakesAt W' (hG.below b))
 have HPL:=Lib.hid (fun W' (b:Below W.heap.size W W') (hg:zel g)=>zum g _ _ W' hg (hn.stays (zad b)) (he.stays (zad b)))
 have HGV:=Lib.hid (fun W' (b:Below W.heap.size W W')=>And.intro ((zda hn).stays (zad b)) (he.stays (zad b)))
 have HGD:=Lib.hid (fun W' (b:Below W.heap.size W W')=>hG.below b)
 obtain ⟨n1,hl1⟩:∃ n,n=g.nodes.length:=⟨_,rfl⟩
 obtain ⟨n2,hl2⟩:∃ n,n=g.edges.length:=⟨_,rfl⟩
 rw [← hl1,← hl2] at HLX HMY HCG HPL HGV
 rw [← hl1,← hl2]
 have hnn1:=hn1
 rw [← hl1] at hnn1
 have hnn2:=hn2
 rw [← hl2] at hnn2
 obtain ⟨W0,hW0⟩:∃ W0,W0=W.alloc (.cells #[.slice p1 n1 cap1,.slice p2 n2 cap2] 25):=⟨_,rfl⟩
 have hub:W0.heap[W.heap.size]?=some (.cells #[.slice p1 n1 cap1,.slice p2 n2 cap2] 25 (0,0)):=by rw [hW0];exact zae _ _ rfl
 have b0:Below W.heap.size W W0:=by rw [hW0];exact zas _ _
 have HUB0:Hid (W.heap.size+1≤W0.heap.size):=Lib.hid (zaa hub)
 have H0:=Lib.hid hW0
 have HL:=Lib.hid (And.intro hl1 (And.intro hl2 (And.intro hn1 hn2)))
 clear hn he hW0 hl1 hl2 hG hn1 hn2
 go_enter Tryz.func3,Tryz.ntmps3
 go_upto_region 1 with fail
 rw [← H0.out]
 obtain ⟨lb,hlb⟩:∃ b,b=zun g:=⟨_,rfl⟩
 have HLX0:Hid (Calls Tryz.prog 8 #[.agg #[.slice p1 n1 cap1,.slice p2 n2 cap2]] W0 (zwp W0 lb)):=Lib.hid (by rw [hlb];exact HLX.out W0 b0)
 clear hlb HLX
 cases lb with
 | false=>
   go_wp2_with (first
    |((with_reducible refine zaf (.tmp 1) W.heap.size 25 25 [.slice p1 n1 cap1,.slice p2 n2 cap2] 2 _ hub rfl Tryz.underlying25 rfl zbg ?_ ?_ ?_ ?_);rfl;rfl;rfl)
    |(go_at_call 8;(with_reducible refine HLX0.out.mono ?_);rintro e w1 ⟨rfl,hb1⟩;have b1:=zab b0 hb1 b0.size)
    |(go_at_call 9;(with_reducible refine (HWK.out _ b1).mono ?_);rintro e w2 ⟨rfl,hb2⟩))
   go_ret
   exact ⟨rfl,zab b1 hb2 b1.size⟩
 | true=>
   obtain ⟨gb,hgb⟩:∃ b,b=zdt g:=⟨_,rfl⟩
   have HMY0:Hid (∀ W',Below W.heap.size W W'→Calls Tryz.prog 14 #[.agg #[.slice p1 n1 cap1,.slice p2 n2 cap2]] W' fun e w'=>e=.returned (.bool gb)∧Below W'.heap.size W' w'):=Lib.hid (by rw [hgb];exact HMY.out)
   have HGB:=Lib.hid hgb
   clear HMY
   go_upto_region 4 with (first
    |((with_reducible refine zaf (.tmp 1) W.heap.size 25 25 [.slice p1 n1 cap1,.slice p2 n2 cap2] 2 _ hub rfl Tryz.underlying25 rfl zbg ?_ ?_ ?_ ?_);rfl;rfl;rfl)
    |(go_at_call 8;(with_reducible refine HLX0.out.mono ?_);rintro e w1 ⟨rfl,hb1⟩;have b1:=zab b0 hb1 b0.size;replace hub:=(hb1.block _ (zaa hub)).trans hub)
    |(go_at_call 10;(with_reducible refine (HCG.out _ b1).mono ?_);rintro e w2 ⟨A,B,m,rfl,hN,hE,hm,hb2⟩
      have b2:=zab b1 hb2 b1.size
      replace hub:=(hb2.block _ (zaa hub)).trans hub
      have hone:∀ u∈[A,B],u.oneCell'=true:=by
       intro u hu
       obtain ⟨pa,ka,ea⟩:=hN.form
       obtain ⟨pb,kb,eb⟩:=hE.form
       rw [ea,eb] at hu
       simp only [List.mem_cons,List.mem_nil_iff,or_false] at hu
       rcases hu with rfl | rfl <;> rfl
      have HNE:=Lib.hid (And.intro hN (And.intro hE hm))
      clear hN hE)
    |((with_reducible refine zah (.tmp 3) (.tmp 17) w2.heap.size 25 25 _ [A,B] 2 (zae _ _ rfl) rfl ?_ ?_ ?_ ?_ zbg rfl hone ?_);rfl;rfl;rfl;rfl;intro wX oX uX))
   have bX:Below w2.heap.size w2 wX:=zag (zas w2 _) oX (Nat.le_refl _) (by simp)
   obtain ⟨xb,hxb⟩:∃ xb,xb=w2.heap.size:=⟨_,rfl⟩
   rw [← hxb] at uX ⊢
   have hNX:AccO zbw 38 w1.heap.size m g.nodes A wX:=HNE.out.1.keep (fun i _ b=>bX.block i (by have:=HNE.out.1.1;omega)) bX.size
   have hEX:AccO zdy 41 m xb g.edges B wX:=by rw [hxb];exact HNE.out.2.1.keep (fun i _ b=>bX.block i b) bX.size
   have hmx:m≤xb:=by rw [hxb];exact HNE.out.1.1
   have hlo:W.heap.size+1≤w1.heap.size:=Nat.le_trans HUB0.out hb1.size
   have hlm:w1.heap.size≤m:=HNE.out.2.2
   replace hub:=(bX.block _ (zaa hub)).trans hub
   have b3:=zab b2 bX b2.size
   obtain ⟨lo,hlo2⟩:∃ l,l=w1.heap.size:=⟨_,rfl⟩
   rw [← hlo2] at hNX hlo hlm
   have hSN:=(hNX.slice (P:=Old wX) (by decide) (fun i _ b=>Nat.lt_of_lt_of_le b hNX.1))
   have hSE:=(hEX.slice (P:=Old wX) (by decide) (fun i _ b=>Nat.lt_of_lt_of_le b hEX.1))
   have HSX:=Lib.hid (And.intro (zda hSN) hSE)
   obtain ⟨pA,kA,ga,oa,L,rfl,hpA,hLn,hOv⟩:=hNX.over0
   rw [← HL.out.1] at hpA hLn
   have HPA:=Lib.hid hpA
   have HOV:=Lib.hid hOv
   have HLN:=Lib.hid hLn
   obtain ⟨pB,kB,rfl⟩:=hEX.form
   rw [← HL.out.1,← HL.out.2.1] at uX HSX
   rw [← HL.out.1,← HL.out.2.1]
   have hxX:xb < wX.heap.size:=zaa uX
   have HLD:Hid (Calls Tryz.prog 11 #[.agg #[.slice pA n1 kA,.slice pB n2 kB]] wX fun e w'=>∃ sp ev,e=.returned (.tuple #[.pointer sp,.int .i64 ev])∧zqs wX.heap.size g gb sp ev w'∧Below wX.heap.size wX w'):=Lib.hid (by
    refine (loadB g _ _ wX (HGD.out _ b3) HSX.out.1 HSX.out.2 HL.out.2.2.1 HL.out.2.2.2).mono ?_
    rintro e w' ⟨hb,h⟩
    unfold zqs
    cases gb with
    | true=>
      rw [if_pos HGB.out.symm] at h
      obtain ⟨s,rfl,hs⟩:=h
      exact ⟨_,_,rfl,⟨s,rfl,rfl,hs⟩,hb⟩
    | false=>
      rw [if_neg (by rw [← HGB.out];decide)] at h
      exact ⟨_,_,h,⟨rfl,rfl⟩,hb⟩)
   have HB3:=Lib.hid b3
   clear hNX hEX hSN hSE hpA hOv hLn oX bX hb1 b1 hb2 b2 b3 hone HNE b0 H0 HLX0 HCG hgb hlo2 HUB0 hxb
   go_upto_region 7 with (first
    |((with_reducible refine zaf (.tmp 3) xb 25 25 [.slice pA n1 kA,.slice pB n2 kB] 2 _ uX rfl Tryz.underlying25 rfl zbg ?_ ?_ ?_ ?_);rfl;rfl;rfl)
    |(go_at_call 11;(with_reducible refine HLD.out.mono ?_);rintro e w3 ⟨sp,ev,rfl,hlr,hb4⟩
      have b4:=zab HB3.out hb4 HB3.out.size
      replace hub:=(hb4.block _ (zaa hub)).trans hub
      replace uX:=(hb4.block _ (zaa uX)).trans uX
      have HLR:=Lib.hid hlr
      have HEQ:Hid (Calls Tryz.prog 12 #[.agg #[.slice pA n1 kA,.slice pB n2 kB],.agg #[.slice p1 n1 cap1,.slice p2 n2 cap2]] w3 (YesB w3)):=Lib.hid (zm8 g _ _ _ _ w3 (HSX.out.1.stays (zad hb4)) (HSX.out.2.stays (zad hb4)) (HGV.out _ b4).1 (HGV.out _ b4).2 HL.out.2.2.1 HL.out.2.2.2)
      clear hlr)
    |((with_reducible refine zaf (.tmp 1) W.heap.size 25 25 [.slice p1 n1 cap1,.slice p2 n2 cap2] 2 _ hub rfl Tryz.underlying25 rfl zbg ?_ ?_ ?_ ?_);rfl;rfl;rfl)
    |(go_at_call 12;(with_reducible refine HEQ.out.mono ?_);rintro e w4 ⟨rfl,hb5⟩;have b5:=zab b4 hb5 b4.size))
   replace hub:=(hb5.block _ (zaa hub)).trans hub
   replace uX:=(hb5.block _ (zaa uX)).trans uX
   have bX4:=zab hb4 hb5 hb4.size
   have hLR4:=HLR.out.keep (w':=w4) (fun i a b=>hb5.block i b) hb5.size
   have HLR4:=Lib.hid hLR4
   have HOV4:Hid (zd0 lo m ga oa L 0 w4):=Lib.hid (HOV.out.keep (fun q=>(HPA.out (by rw [HLN.out] at q;exact q)).2) (fun i a b=>bX4.block i (by omega)))
   have hX4:wX.heap.size≤w4.heap.size:=bX4.size
   have HUB:=Lib.hid hub
   have HUX:=Lib.hid uX
   have HB5:=Lib.hid b5
   clear hb4 hb5 b4 b5 hLR4 bX4 HLR HOV HEQ HLD HSX HGV hub uX HB3
   go_upto_block 0 with fail
   go_cut [6] (fun _ wx=>Hid (Mod (Btw lo m) w4 wx))
   case first=>
    as_aux_lemma=>
     go_wp2_with fail
     go_loopg [6] n1 (fun gg s6 wr=>∃ i:Nat,i+gg=n1∧s6=.int .i64 i∧Hid (zd0 lo m ga oa L i wr)∧Hid (Mod (Btw lo m) w4 wr))
     case atStart=>exact ⟨0,by omega,rfl,HOV4,Lib.hid (Mod.refl _ _)⟩
     case round=>
      clear HOV4
      obtain ⟨i,hig,rfl,HO,HM⟩:=hrel
      have hU:=(HM.out.block xb (by omega) (fun q=>by have:=q.2;omega)).trans HUX.out
      have c1:=zac hU 0 rfl
      by_cases hi:(i:Int) < n1
      ·obtain ⟨rfl,hga1,hga2⟩:=HPA.out (by omega)
       have hMs:=HM.out.size
       obtain ⟨lv,c2,hcall⟩:=HO.out.call (by have:=HLN.out;omega) (by omega) (by omega)
       have HC:=Lib.hid hcall
       clear hcall
       go_upto_region 11 with (first
        |(go_at_call 13;(with_reducible refine HC.out.mono ?_);rintro e w5 ⟨rfl,hO5,hM5⟩
          have hU5:=(hM5.block xb (by omega) (fun q=>by have:=q.1.2;omega)).trans hU
          replace c1:=zac hU5 0 rfl))
       have th5:=hO5.2.2 i (by have:=HLN.out;omega)
       have HO5:=Lib.hid hO5
       have HM5:=Lib.hid (HM.out.trans (hM5.mono fun _ q=>q.1))
       clear c2 hU hU5 hO5 hM5 HC HM HO
       go_wp2_with (first
        |((with_reducible refine zca (.tmp 45) (.tmp 44) 38 ga (oa+i*3) 3 [.int .i64 0,.slice none 0 0,.slice none 0 0] rfl (by simp [Value.oneCell']) th5 zal ?_ ?_ ?_ ?_ ?_);rfl;rfl;rfl;rfl))
       go_roundg (gk - 1)
       case measure=>omega
       case rel=>exact ⟨i+1,by omega,by go_num,Lib.hid (HO5.out.set [.int .i64 0,.slice none 0 0,.slice none 0 0] (by simp)),Lib.hid (HM5.out.trans (Mod.only (zbo ga (oa+i*3) _ w5) ⟨hga1,hga2⟩))⟩
      ·go_wp2_with fail
       go_meet
       case rel=>exact HM
   case rest=>
    rename World=>wa
    have HMA:=hcut
    clear hcut HOV4
    have hub:=(HMA.out.block W.heap.size (by have:=zaa HUB.out;omega) (fun q=>by have:=q.1;omega)).trans HUB.out
    have hba:Below W.heap.size W wa:=HB5.out.trans (HMA.out.toBelow (B:=W.heap.size) HB5.out.size (fun i q=>by have:=q.1;omega))
    have HLRA:=Lib.hid (HLR4.out.keep (w':=wa) (fun i a b=>HMA.out.block i b (fun q=>by have:=q.2;omega)) HMA.out.size)
    have HBA:=Lib.hid hba
    clear HMA HUB HUX HB5 HLR4 HPA HLN
    cases gb with
    | false=>
      obtain ⟨rfl,rfl⟩:sp=none∧ev=21:=HLRA.out
      go_wp2_with (first
       |((with_reducible refine zaf (.tmp 1) W.heap.size 25 25 [.slice p1 n1 cap1,.slice p2 n2 cap2] 2 _ hub rfl Tryz.underlying25 rfl zbg ?_ ?_ ?_ ?_);rfl;rfl;rfl)
       |(go_at_call 14;(with_reducible refine (HMY0.out _ hba).mono ?_);rintro e w6 ⟨rfl,hb6⟩;have b6:=zab hba hb6 hba.size)
       |(go_at_call 9;(with_reducible refine (HWK.out _ b6).mono ?_);rintro e w7 ⟨rfl,hb7⟩))
      go_ret
      exact ⟨rfl,zab b6 hb7 b6.size⟩
    | true=>
      obtain ⟨s,rfl,rfl,hst⟩:∃ s,sp=some ⟨s,0,none⟩∧ev=0∧zgo wX.heap.size wa s g:=HLRA.out
      have HST:=Lib.hid hst.store
      have HGG:=Lib.hid (goodG HGB.out.symm)
      clear hst HLRA
      go_upto_region 17 with (first
       |((with_reducible refine zaf (.tmp 1) W.heap.size 25 25 [.slice p1 n1 cap1,.slice p2 n2 cap2] 2 _ hub rfl Tryz.underlying25 rfl zbg ?_ ?_ ?_ ?_);rfl;rfl;rfl)
       |(go_at_call 14;(with_reducible refine (HMY0.out _ hba).mono ?_);rintro e w6 ⟨rfl,hb6⟩;have b6:=zab hba hb6 hba.size;replace hub:=(hb6.block _ (zaa hub)).trans hub)
       |(go_at_call 15;(with_reducible refine (HPL.out _ b6 HGG.out).mono ?_);rintro e w7 ⟨C,D,rfl,hC,hD,hb7⟩
         have b7:=zab b6 hb7 b6.size
         have HST7:=Lib.hid ((HST.out.below hb6).below hb7)
         have HCD:=Lib.hid (And.intro (zda hC) hD)
         have hone:∀ u∈[C,D],u.oneCell'=true:=by
          intro u hu
          obtain ⟨pa,ka,ea⟩:=hC.slice
          obtain ⟨pb,kb,eb⟩:=hD.slice
          rw [ea,eb] at hu
          simp only [List.mem_cons,List.mem_nil_iff,or_false] at hu
          rcases hu with rfl | rfl <;> rfl
         clear hC hD)
       |((with_reducible refine zah (.tmp 7) (.tmp 65) w7.heap.size 25 25 _ [C,D] 2 (zae _ _ rfl) rfl ?_ ?_ ?_ ?_ zbg rfl hone ?_);rfl;rfl;rfl;rfl;intro wY oY uY))
      have bY:Below w7.heap.size w7 wY:=zag (zas w7 _) oY (Nat.le_refl _) (by simp)
      obtain ⟨yb,hyb⟩:∃ x,x=w7.heap.size:=⟨_,rfl⟩
      rw [← hyb] at uY ⊢
      have HI:Hid (zuq g W s yb C D wY):=Lib.hid ⟨zab b7 bY b7.size,uY,HST7.out.below bY,(HCD.out.1.stays fun i hi=>⟨hi.2,rfl⟩).stays (zad bY),(HCD.out.2.stays fun i hi=>⟨hi.2,rfl⟩).stays (zad bY)⟩
      have HLP:Hid ((za3 g).nodes.length=n1∧(za3 g).edges.length=n2∧(za3 g).nodes.length≤2097152∧(za3 g).edges.length≤2097152):=Lib.hid ⟨by rw [zgq,HL.out.1],by rw [zet,HL.out.2.1],by rw [zgq];exact HL.out.2.2.1,by rw [zet];exact HL.out.2.2.2⟩
      clear uY oY bY hyb hb6 b6 hb7 b7 hba hub HST HST7 HCD hone HMY0 HPL HBA
      go_wp2_with fail
      go_loopg [8] 2 (fun gg s8 wr=>∃ k:Nat,k+gg=2∧s8=.int .i64 k∧Hid (zuq g W s yb C D wr))
      case atStart=>exact ⟨0,by omega,rfl,HI⟩
      case round=>
       clear HI
       obtain ⟨k,hkg,rfl,HI⟩:=hrel
       by_cases hk:(k:Int) < 2
       ·have HP0:=Lib.hid (zv7 wr s g HI.out.st HGG.out)
        have uy:=HI.out.uy
        go_upto_region 21 with (first
         |(go_at_call 16;(with_reducible refine HP0.out.mono ?_);rintro e w1 ⟨vn2,ve2,xe,mid,rfl,hmid,hN,hoe,hre,hb1⟩
           have hone:∀ u∈[vn2,ve2],u.oneCell'=true:=by
            intro u hu
            obtain ⟨pa,ka,ea⟩:=hN.form
            obtain ⟨pb,kb,eb⟩:=zcf hoe
            rw [ea,eb] at hu
            simp only [List.mem_cons,List.mem_nil_iff,or_false] at hu
            rcases hu with rfl | rfl <;> rfl
           replace uy:=(hb1.block _ (zaa uy)).trans uy
           have HPP:=Lib.hid (And.intro hN (And.intro hoe hre))
           clear hN hoe hre)
         |((with_reducible refine zah (.tmp 9) (.tmp 71) w1.heap.size 25 25 _ [vn2,ve2] 2 (zae _ _ rfl) rfl ?_ ?_ ?_ ?_ zbg rfl hone ?_);rfl;rfl;rfl;rfl;intro wZ oZ uZ))
        have bZ:Below w1.heap.size w1 wZ:=zag (zas w1 _) oZ (Nat.le_refl _) (by simp)
        obtain ⟨zb,hzb⟩:∃ x,x=w1.heap.size:=⟨_,rfl⟩
        rw [← hzb] at uZ ⊢
        have bq:=zab hb1 bZ hb1.size
        have HIZ:=Lib.hid (HI.out.below bq)
        have hNZ:AccO zbw 38 wr.heap.size mid (za3 g).nodes vn2 wZ:=HPP.out.1.keep (fun i _ b=>bZ.block i (by have:=HPP.out.1.1;omega)) bZ.size
        have hoZ:=za2 HPP.out.2.1 bZ
        have hmz:mid≤zb:=by rw [hzb];exact HPP.out.1.1
        have hSN:=zda (hNZ.slice (P:=Old wZ) (by decide) (fun i _ b=>Nat.lt_of_lt_of_le b hNZ.1))
        have hSE:zak zaz wZ (Old wZ) ve2 (za3 g).edges:=(zbm (P':=Old w1) HPP.out.2.1 HPP.out.2.2 (fun i hi=>hi.2.1) (fun i e=>(HPP.out.2.1.lt i e).2)).stays (zad bZ)
        have HEG:=Lib.hid (zm8 (za3 g) vn2 ve2 C D wZ hSN hSE HIZ.out.hA HIZ.out.hB HLP.out.2.2.1 HLP.out.2.2.2)
        have uyZ:=HIZ.out.uy
        have hgbz:∀ i,ve2.ownBlock=some i→mid≤i∧i < zb:=fun i e=>by rw [hzb];exact HPP.out.2.1.lt i e
        have HGZ:=Lib.hid hgbz
        obtain ⟨pA2,kA2,ga2,oa2,L2,rfl,hpA2,hLn2,hOv2⟩:=hNZ.over0
        rw [HLP.out.1] at hpA2 hLn2
        have hTH:∃ pB2 kB2 gb2 ob2,ve2=.slice pB2 n2 kB2∧(n2≠0→pB2=some ⟨gb2,ob2,none⟩∧mid≤gb2∧gb2 < zb)∧∀ j,j < n2→wZ.there gb2 (ob2+j*5) 5:=by
         rw [HLP.out.2.1] at hoZ
         rcases zik hoZ with ⟨e,hz⟩ | ⟨gg2,cap,e,hg⟩
         ·exact ⟨none,0,0,0,by rw [e,hz],fun q=>absurd hz q,fun j hj=>by omega⟩
         ·rw [e] at hoZ
          exact ⟨_,cap,gg2,0,e,fun _=>⟨rfl,HGZ.out gg2 (by rw [e];rfl)⟩,zup hoZ⟩
        obtain ⟨pB2,kB2,gb2,ob2,rfl,hpB2,hth2⟩:=hTH
        rw [HLP.out.1] at uZ HEG
        rw [HLP.out.1]
        have HPA2:=Lib.hid hpA2
        have HPB2:=Lib.hid hpB2
        have HLN2:=Lib.hid hLn2
        have HOV2:=Lib.hid hOv2
        have HTH2:=Lib.hid hth2
        have hzZ:zb < wZ.heap.size:=zaa uZ
        have hwm:wr.heap.size≤mid:=hmid
        have HBQ:=Lib.hid bq
        clear hNZ hoZ hSN hSE hgbz HGZ hpA2 hpB2 hLn2 hOv2 hth2 oZ bZ hzb hb1 bq HPP HP0 hone uy hmid
        go_upto_region 23 with (first
         |((with_reducible refine zaf (.tmp 9) zb 25 25 [.slice pA2 n1 kA2,.slice pB2 n2 kB2] 2 _ uZ rfl Tryz.underlying25 rfl zbg ?_ ?_ ?_ ?_);rfl;rfl;rfl)
         |((with_reducible refine zaf (.tmp 7) yb 25 25 [C,D] 2 _ uyZ rfl Tryz.underlying25 rfl zbg ?_ ?_ ?_ ?_);rfl;rfl;rfl)
         |(go_at_call 12;(with_reducible refine HEG.out.mono ?_);rintro e w3 ⟨rfl,hb3⟩))
        have hz3:=hb3.size
        have HUZ3:=Lib.hid ((hb3.block _ (zaa uZ)).trans uZ)
        have HO3:Hid (zd0 wr.heap.size mid ga2 oa2 L2 0 w3):=Lib.hid (HOV2.out.keep (fun q=>(HPA2.out (by rw [HLN2.out] at q;exact q)).2) (fun i a b=>hb3.block i (by omega)))
        have HT3:Hid (∀ j,j < n2→w3.there gb2 (ob2+j*5) 5):=Lib.hid (fun j hj=>zdp (hb3.block gb2 (by have:=(HPB2.out (by omega)).2.2;omega)) (HTH2.out j hj))
        have HBQ3:=Lib.hid (zab HBQ.out hb3 HBQ.out.size)
        clear uZ uyZ hb3 HOV2 HTH2 HEG HBQ HIZ
        go_upto_block 4 with fail
        go_cut [10] (fun _ wx=>Hid (Mod (Btw wr.heap.size mid) w3 wx))
        case first=>
         as_aux_lemma=>
          go_wp2_with fail
          go_loopg [10] n1 (fun gg s10 wq=>∃ i:Nat,i+gg=n1∧s10=.int .i64 i∧Hid (zd0 wr.heap.size mid ga2 oa2 L2 i wq)∧Hid (Mod (Btw wr.heap.size mid) w3 wq))
          case atStart=>exact ⟨0,by omega,rfl,HO3,Lib.hid (Mod.refl _ _)⟩
          case round=>
           clear HO3
           obtain ⟨i,hig,rfl,HO,HM⟩:=hrel
           rename World=>wq
           have hU:=(HM.out.block zb (by omega) (fun q=>by have:=q.2;omega)).trans HUZ3.out
           have c1:=zac hU 0 rfl
           by_cases hi:(i:Int) < n1
           ·obtain ⟨rfl,hga1,hga2⟩:=HPA2.out (by omega)
            have hMs:=HM.out.size
            obtain ⟨lv,c2,hcall⟩:=HO.out.call (by have:=HLN2.out;omega) (by omega) (by omega)
            have HC:=Lib.hid hcall
            clear hcall
            go_upto_region 27 with (first
             |(go_at_call 13;(with_reducible refine HC.out.mono ?_);rintro e w5 ⟨rfl,hO5,hM5⟩
               have hU5:=(hM5.block zb (by omega) (fun q=>by have:=q.1.2;omega)).trans hU
               replace c1:=zac hU5 0 rfl))
            have th5:=hO5.2.2 i (by have:=HLN2.out;omega)
            obtain ⟨t0,c0⟩:∃ v,w5.cell? ⟨ga2,oa2+i*3,none⟩=some v:=Option.isSome_iff_exists.1 (th5 0 (by omega)).1
            have f0:w5.frozen? ⟨ga2,oa2+i*3,none⟩=false:=(th5 0 (by omega)).2
            have HO5:=Lib.hid hO5
            have HM5:=Lib.hid (HM.out.trans (hM5.mono fun _ q=>q.1))
            clear c2 hU hU5 hO5 hM5 HC HM HO th5
            go_wp2_with fail
            go_roundg (gk - 1)
            case measure=>omega
            case rel=>exact ⟨i+1,by omega,by go_num,Lib.hid (HO5.out.set [.int .i64 (-5)] (by simp)),Lib.hid (HM5.out.trans (Mod.only (zbo ga2 (oa2+i*3) [.int .i64 (-5)] w5) ⟨hga1,hga2⟩))⟩
           ·go_wp2_with fail
            go_meet
            case rel=>exact HM
        case rest=>
         rename World=>wb
         have HMB:=hcut
         clear hcut HO3
         have HUZ4:=Lib.hid ((HMB.out.block zb (by omega) (fun q=>by have:=q.2;omega)).trans HUZ3.out)
         have HT4:Hid (∀ j,j < n2→wb.there gb2 (ob2+j*5) 5):=Lib.hid (fun j hj=>zdp (HMB.out.block gb2 (by have:=(HPB2.out (by omega)).2.2;omega) (fun q=>by have:=q.2;have:=(HPB2.out (by omega)).2.1;omega)) (HT3.out j hj))
         have hzb4:zb < wb.heap.size:=zaa HUZ4.out
         have HBB:Hid (Below wr.heap.size wr wb):=Lib.hid (HBQ3.out.trans (HMB.out.toBelow (B:=wr.heap.size) HBQ3.out.size (fun i q=>q.1)))
         clear HMB HUZ3 HT3 HBQ3 HPA2 HLN2
         go_wp2_with fail
         go_loopg [11] n2 (fun gg s11 wq=>∃ j:Nat,j+gg=n2∧s11=.int .i64 j∧Hid ((∀ j,j < n2→wq.there gb2 (ob2+j*5) 5)∧wq.heap[zb]?=some (.cells #[.slice pA2 n1 kA2,.slice pB2 n2 kB2] 25 (0,0))∧Below wr.heap.size wr wq))
         case atStart=>exact ⟨0,by omega,rfl,Lib.hid ⟨HT4.out,HUZ4.out,HBB.out⟩⟩
         case round=>
          clear HT4 HUZ4 HBB
          rename World=>wq
          obtain ⟨j,hjg,rfl,HQ⟩:=hrel
          have c1:=zac HQ.out.2.1 1 rfl
          by_cases hj:(j:Int) < n2
          ·obtain ⟨rfl,hgb1,hgb2⟩:=HPB2.out (by omega)
           have th5:=HQ.out.1 j (by omega)
           go_wp2_with (first
            |((with_reducible refine zca (.tmp 106) (.tmp 105) 41 gb2 (ob2+j*5) 5 [.int .i64 0,.int .i64 0,.int .i64 0,.string ⟨#[]⟩,.slice none 0 0] rfl (by simp [Value.oneCell']) th5 zan ?_ ?_ ?_ ?_ ?_);rfl;rfl;rfl;rfl))
           go_roundg (gk - 1)
           case measure=>omega
           case rel=>
            have on:=zbo gb2 (ob2+j*5) [.int .i64 0,.int .i64 0,.int .i64 0,.string ⟨#[]⟩,.slice none 0 0] wq
            exact ⟨j+1,by omega,by go_num,Lib.hid ⟨fun a ha=>World.there_setCells (HQ.out.1 a ha) _ _ _,(on.block zb (zaa HQ.out.2.1) (by omega)).trans HQ.out.2.1,zag HQ.out.2.2 on (by omega) HQ.out.2.2.size⟩⟩
          ·go_wp2_with fail
           go_roundg (2 - (k+1))
           case measure=>omega
           case rel=>exact ⟨k+1,by omega,by go_num,Lib.hid (HI.out.below HQ.out.2.2)⟩
       ·go_wp2_with (first
         |(go_at_call 9;(with_reducible refine (HWK.out _ HI.out.bel).mono ?_);rintro e w9 ⟨rfl,hb9⟩))
        go_ret
        exact ⟨rfl,zab HI.out.bel hb9 HI.out.bel.size⟩
end Go.Proofs.YtcfmenkigolnoaaGreatDoor
