/- Texts of one kind, one behind the other: each says ahead of itself what it shows. -/
import Derived.Test.YtcfmenkigolnoaaGreatDoorWaz
import Derived.Test.YtcfmenkigolnoaaGreatDoorWba
import Derived.Test.YtcfmenkigolnoaaGreatDoorWam
/- GDP -/
namespace Go.Proofs.YtcfmenkigolnoaaGreatDoor
open Go.RowKit
theorem zuk {w:World} {lo hi:Nat} {c:List Value} {a:zap} (h:zdb w lo hi c a):c[0]?=some (.int .i64 a.id):=by
 obtain ⟨lv,pv,e,_⟩:=h
 rw [e]
 rfl
theorem zul {w:World} {lo hi:Nat} {c:List Value} {a:zat} (h:zfe w lo hi c a):c[0]?=some (.int .i64 a.id):=by
 obtain ⟨pv,e,_⟩:=h
 rw [e]
 rfl
def znk (W:World) (g:zau) (e:Ending) (w':World):Prop:=
 ∃ A B,e=.returned (.agg #[A,B])∧zak zgw w' (New W w') A (za3 g).nodes∧zak zaz w' (New W w') B (za3 g).edges∧Below W.heap.size W w'
set_option maxHeartbeats 25600000 in
set_option maxRecDepth 20000 in
theorem zum (g:zau) (V U:Value) (W:World) (hg:zel g) (hv:zak zgw W (Old W) V g.nodes) (hu:zak zaz W (Old W) U g.edges):Calls Tryz.prog 15 #[.agg #[V,U]] W (znk W g):=by
 obtain ⟨p1,cap1,rfl⟩:=hv.slice
 obtain ⟨p2,cap2,rfl⟩:=hu.slice
 obtain ⟨W0,hW0⟩:∃ W0,W0=(W.alloc (.cells #[.slice p1 g.nodes.length cap1,.slice p2 g.edges.length cap2] 25)).alloc (.cells #[.slice none 0 0,.slice none 0 0] 25):=⟨_,rfl⟩
 have u1:W0.heap[W.heap.size]?=some (.cells #[.slice p1 g.nodes.length cap1,.slice p2 g.edges.length cap2] 25 (0,0)):=by rw [hW0];exact zar _ (zae _ _ rfl)
 have u2:W0.heap[W.heap.size+1]?=some (.cells #[.slice none 0 0,.slice none 0 0] 25 (0,0)):=by rw [hW0];exact zae _ _ (by simp)
 have b0:Below W.heap.size W W0:=by rw [hW0];exact zbk _ _ _
 have hz:W0.heap.size=W.heap.size+2:=by rw [hW0];simp
 have hnn:=hg.nn
 have hne:=hg.ne
 have HCG:=Lib.hid (zgt g _ _ W0 (hv.stays (zad b0)) (hu.stays (zad b0)) (by omega) (by omega))
 obtain ⟨n1,hl1⟩:∃ n,n=g.nodes.length:=⟨_,rfl⟩
 obtain ⟨n2,hl2⟩:∃ n,n=g.edges.length:=⟨_,rfl⟩
 rw [← hl1,← hl2]
 rw [← hl1,← hl2] at hW0 u1 HCG
 rw [← hl1] at hnn
 rw [← hl2] at hne
 have H0:=Lib.hid hW0
 have HZ:=Lib.hid hz
 have HL:=Lib.hid (And.intro hl1 hl2)
 have HGG:=Lib.hid hg
 clear hW0 hz hv hu hl1 hl2 hg
 go_enter Tryz.func15,Tryz.ntmps15
 go_upto_region 1 with fail
 rw [← H0.out]
 go_upto_region 2 with (first
  |((with_reducible refine zaf (.tmp 1) W.heap.size 25 25 [.slice p1 n1 cap1,.slice p2 n2 cap2] 2 _ u1 rfl Tryz.underlying25 rfl zbg ?_ ?_ ?_ ?_);rfl;rfl;rfl)
  |(go_at_call 10;(with_reducible refine HCG.out.mono ?_);rintro e w1 ⟨A,B,m,rfl,hN,hE,hm,hb1⟩
    have b1:=zab b0 hb1 b0.size
    have u21:=(hb1.block _ (zaa u2)).trans u2
    have hAB:∀ u∈[A,B],u.oneCell'=true:=by
     intro u hu
     obtain ⟨pa,ka,ea⟩:=hN.form
     obtain ⟨pb,kb,eb⟩:=hE.form
     rw [ea,eb] at hu
     simp only [List.mem_cons,List.mem_nil_iff,or_false] at hu
     rcases hu with rfl | rfl <;> rfl)
  |((with_reducible refine zah (.tmp 3) (.tmp 11) w1.heap.size 25 25 _ [A,B] 2 (zae _ _ rfl) rfl ?_ ?_ ?_ ?_ zbg rfl hAB ?_);rfl;rfl;rfl;rfl;intro wX oX uX))
 have bX:Below w1.heap.size w1 wX:=zag (zas w1 _) oX (Nat.le_refl _) (by simp)
 obtain ⟨xb,hxb⟩:∃ xb,xb=w1.heap.size:=⟨_,rfl⟩
 have hN1:AccO zbw 38 W0.heap.size m g.nodes A wX:=hN.keep (fun i _ b=>bX.block i (by have:=hN.1;omega)) bX.size
 have hE1:AccO zdy 41 m xb g.edges B wX:=by rw [hxb];exact hE.keep (fun i _ b=>bX.block i b) bX.size
 have hsn:∃ pA kA ga off N,A=.slice pA g.nodes.length kA∧(g.nodes≠[]→pA=some ⟨ga,off,none⟩∧off=0∧W0.heap.size≤ga∧ga < m)∧zch zbw 38 N W0.heap.size m ga off g.nodes zcr zap.id 0 wX:=hN1.sorts0 zcr zap.id
 have hse:∃ pA kA ga off N,B=.slice pA g.edges.length kA∧(g.edges≠[]→pA=some ⟨ga,off,none⟩∧off=0∧m≤ga∧ga < xb)∧zch zdy 41 N m xb ga off g.edges zc2 zat.id 0 wX:=hE1.sorts0 zc2 zat.id
 obtain ⟨pA,kA,ga,oa,NA,rfl,hpA,hSA⟩:=hsn
 obtain ⟨pB,kB,gb,ob,NB,rfl,hpB,hSB⟩:=hse
 rw [← HL.out.1,← HL.out.2] at uX
 have HPA:=Lib.hid hpA
 have HPB:=Lib.hid hpB
 have HSA:=Lib.hid hSA
 have HSB:=Lib.hid hSB
 have hmx:m≤xb:=by rw [hxb];exact hN.1
 have hxX:xb < wX.heap.size:=by rw [hxb];exact zaa uX
 have h2X:W.heap.size+2≤m:=by rw [← HZ.out];exact hm
 rw [← hxb] at uX
 have HUX:=Lib.hid uX
 have HBX:=Lib.hid (And.intro (zab b1 bX b1.size) ((bX.block _ (zaa u21)).trans u21))
 rw [← HL.out.1,← HL.out.2,← hxb]
 rw [← HZ.out] at h2X
 obtain ⟨lo,hlo⟩:∃ lo,lo=W0.heap.size:=⟨_,rfl⟩
 rw [← hlo] at HPA HSA h2X
 have HLO:Hid (lo=W.heap.size+2):=Lib.hid (by rw [hlo];exact HZ.out)
 clear hN hE hm hb1 b1 u21 hAB oX bX hN1 hE1 hpA hpB hSA hSB uX hxb u1 u2 b0 H0 HCG hlo HZ
 go_upto_block 0 with fail
 go_cut [4] (fun _ wz=>Hid (zch zbw 38 NA lo m ga oa g.nodes zcr zap.id n1 wz)∧Hid (Mod (Btw lo m) wX wz))
 case first=>
  as_aux_lemma=>
   go_wp2_with fail
   go_loopg [4] n1 (fun gg sx wr=>∃ i:Nat,i+gg=n1∧sx=.int .i64 i∧Hid (zch zbw 38 NA lo m ga oa g.nodes zcr zap.id i wr)∧Hid (Mod (Btw lo m) wX wr))
   case atStart=>exact ⟨0,by omega,rfl,HSA,Lib.hid (Mod.refl _ _)⟩
   case round=>
    obtain ⟨i,hig,rfl,HA,HM⟩:=hrel
    have hU:=(HM.out.block xb hxX (fun q=>by have:=q.1;have:=q.2;omega)).trans HUX.out
    have c1:=zac hU 0 rfl
    by_cases hi:(i:Int) < n1
    ·have hbl:g.nodes.length=n1:=HL.out.1.symm
     have hi1:i < g.nodes.length:=by omega
     have hne0:g.nodes≠[]:=fun q=>by rw [q] at hi1;simp at hi1
     obtain ⟨rfl,hoz,hga1,hga2⟩:=HPA.out hne0
     clear hoz
     have HGA:=Lib.hid (fun (_:g.nodes≠[])=>And.intro hga1 hga2)
     obtain ⟨L,q1,q2,q3,q4,q5,q6⟩:=HA.out
     have hR:=q3 hne0
     have hiL:i < L.length:=by omega
     have ha0:L[i].a=g.nodes[i]:=by
      have h:=congrArg (fun l=>l[0]?) q6
      simp only [List.getElem?_map,List.getElem?_drop,Nat.add_zero] at h
      rw [List.getElem?_eq_getElem hiL,List.getElem?_eq_getElem hi1] at h
      exact Option.some.inj h
     have hKD:(g.nodes[i].props.map fun p=>bl p.key).Nodup:=(zdo (HGG.out.nkeys _ (List.getElem_mem hi1))).2.1
     obtain ⟨a,hae⟩:∃ a,a=g.nodes[i]:=⟨_,rfl⟩
     rw [← hae] at ha0 hKD
     obtain ⟨nid,ls,ps⟩:=a
     have hrl:zdb wr L[i].lo L[i].hi L[i].c L[i].a:=q2.rel _ (List.getElem_mem hiL)
     rw [ha0] at hrl
     obtain ⟨lv,pv,hc,hcr⟩:=id hrl
     clear hcr
     have htop:m≤wr.heap.size:=by have:=HM.out.size;omega
     have hr:=(hR.rng i L[i].c (by rw [List.getElem?_map,List.getElem?_eq_getElem hiL];rfl)).1
     rw [hc] at hr
     replace hr:wr.rangeAt ga (oa+i*3) [.int .i64 nid,lv,pv]:=hr
     have hgl:ga < wr.heap.size:=by omega
     have HS1:=Lib.hid (zom q2 hiL hc ha0 htop)
     have c2:wr.cell? ⟨ga,oa+i*3+1,none⟩=some lv:=hr 1 _ rfl
     go_upto_region 6 with (first
      |(go_at_call 43;go_loud (refine HS1.out.mono ?_);rintro e w2 ⟨rfl,I2,M2⟩
        have hU2:=(M2.block xb (zaa hU) (fun q=>by have:=q.1.2;omega)).trans hU
        replace c1:=zac hU2 0 rfl))
     clear c2 hU
     have hR2:=hR.heap (M2.block ga hgl (fun q=>q.2 rfl))
     have htop2:m≤w2.heap.size:=Nat.le_trans htop M2.size
     have hr2:w2.rangeAt ga (oa+i*3) [.int .i64 nid,lv,pv]:=zcn (M2.block ga hgl (fun q=>q.2 rfl)) hr
     have c3:w2.cell? ⟨ga,oa+i*3+2,none⟩=some pv:=hr2 2 _ rfl
     have HS2:=Lib.hid (zon I2 hiL htop2 hKD)
     go_upto_region 7 with (first
      |(go_at_call 44;(with_reducible refine HS2.out.mono ?_);rintro e w3 ⟨rfl,I3,M3⟩))
     obtain ⟨L1,hL1⟩:∃ L1,L1=L.set i ⟨[.int .i64 nid,lv,pv],⟨nid,sortS ls,zmo ps⟩,L[i].lo,L[i].hi⟩:=⟨_,rfl⟩
     have HIR:Hid (zbr zbw w3 lo m (some ga) L1∧zbz w3 ga oa 3 38 NA (L1.map (·.c))):=Lib.hid (by
      rw [hL1,znj hiL _ hc.symm]
      exact ⟨I3,hR2.heap (M3.block ga (Nat.lt_of_lt_of_le hgl M2.size) (fun q=>q.2 rfl))⟩)
     have HM3:Hid (Mod (Btw lo m) wX w3):=Lib.hid ((HM.out.trans (M2.mono fun _ q=>q.1)).trans (M3.mono fun _ q=>q.1))
     have HUW:=Lib.hid ((M3.block xb (zaa hU2) (fun q=>by have:=q.1.2;omega)).trans hU2)
     clear HS1 HS2 hU2 c3 hR2 htop2 hr2 I2 I3 M2 M3 htop hgl hrl c1
     have RDY:Hid (Rdy g.nodes zcr zap.id i L1):=Lib.hid (by
      rw [hL1]
      exact Rdy.mk q1 q4 q5 q6 hi1 (by rw [← hae];rfl))
     have hll:L1.length=n1:=by rw [hL1,List.length_set];omega
     clear HA HM hR hr ha0 hc q1 q2 q3 q4 q5 q6 hL1 hKD hae
     have hiN:i < n1:=by omega
     go_wp2_with fail
     go_loopg [5] i (fun gg sx wy=>∃ k:Nat,(k≤gg∧gg≤k)∧sx=.int .i64 k∧∃ L2:List (Item zap),Hid (InsO zap.id L1 L2 i k)∧Hid (zbr zbw wy lo m (some ga) L2∧zbz wy ga oa 3 38 NA (L2.map (·.c)))∧Hid (Mod (Btw lo m) wX wy))
     case atStart=>exact ⟨i,⟨Nat.le_refl _,Nat.le_refl _⟩,rfl,L1,Lib.hid (InsO.start RDY.out),HIR,HM3⟩
     case round=>
      clear HIR HM3
      obtain ⟨k,hkg,rfl,L2,HI,HR2,HM2⟩:=hrel
      have hU:=(HM2.out.block xb hxX (fun q=>by have:=q.1;have:=q.2;omega)).trans HUX.out
      have c1:=zac hU 0 rfl
      have hat:=HI.out.1.at_
      have hLn:L2.length=n1:=by rw [hat.2.2.2.length_eq,hll]
      by_cases hk:k=0
      ·subst hk
       have HE:Hid (zch zbw 38 NA lo m ga oa g.nodes zcr zap.id (i+1) wr):=Lib.hid (HI.out.stop RDY.out (.inl rfl) HR2.out.1 (fun _=>HR2.out.2))
       clear hat hLn HI HR2
       go_upto_region 8 with fail
       go_quiet (fail)
       have HE9:Hid (zch zbw 38 NA lo m ga oa g.nodes zcr zap.id (i+1) (wr.drewN nq)):=Lib.hid (HE.out.keep HGA.out (fun _ _ _=>rfl))
       have HM9:Hid (Mod (Btw lo m) wX (wr.drewN nq)):=Lib.hid (HM2.out.drewN nq)
       clear HE HM2 hU c1
       generalize wr.drewN nq=w9 at*
       go_wp2_with fail
       go_roundg (n1 - (i+1))
       case measure=>omega
       case rel=>exact ⟨i+1,by omega,by go_num,HE9,HM9⟩
      ·obtain ⟨q,rfl⟩:∃ q,k=q+1:=⟨k - 1,by omega⟩
       obtain ⟨x,hx⟩:∃ x,L2[q+1]?=some x:=⟨_,List.getElem?_eq_getElem hat.1⟩
       obtain ⟨y,hy⟩:∃ y,L2[q]?=some y:=⟨_,List.getElem?_eq_getElem (by omega)⟩
       have hrx:=HR2.out.2.rng (q+1) x.c (by rw [List.getElem?_map,hx];rfl)
       have hry:=HR2.out.2.rng q y.c (by rw [List.getElem?_map,hy];rfl)
       have kx:=zuk (HR2.out.1.rel x (List.mem_of_getElem? hx))
       have ky:=zuk (HR2.out.1.rel y (List.mem_of_getElem? hy))
       obtain ⟨zx,hzx⟩:∃ z,z=x.a.id:=⟨_,rfl⟩
       obtain ⟨zy,hzy⟩:∃ z,z=y.a.id:=⟨_,rfl⟩
       obtain ⟨cx,hcx⟩:∃ c,c=x.c:=⟨_,rfl⟩
       obtain ⟨cy,hcy⟩:∃ c,c=y.c:=⟨_,rfl⟩
       rw [← hzx,← hcx] at kx
       rw [← hzy,← hcy] at ky
       rw [← hcx] at hrx
       rw [← hcy] at hry
       have c2:wr.cell? ⟨ga,oa+(q+1)*3,none⟩=some (.int .i64 zx):=hrx.1 0 _ kx
       have c3:wr.cell? ⟨ga,oa+q*3,none⟩=some (.int .i64 zy):=hry.1 0 _ ky
       have hpos:decide ((0:Int) < ((q+1:Nat):Int))=true:=decide_eq_true (by omega)
       have hsub:(((q+1:Nat):Int) - 1)=(q:Int):=by omega
       have hmn:q+1 < n1:=by omega
       have hmi:((q:Int)+1) < n1:=by omega
       by_cases hlt:zx < zy
       ·have hb:decide (zx < zy)=true:=decide_eq_true hlt
        have HS2:=Lib.hid (HI.out.step hx hy (by omega))
        have HPM:=Lib.hid (HS2.out.1.at_.2.2.2.trans hat.2.2.2.symm)
        have HN2:=Lib.hid (And.intro hat.1 hLn)
        have HRX:=Lib.hid hrx
        have HRY:=Lib.hid hry
        have HXY:=Lib.hid (And.intro hx (And.intro hy (And.intro hcx hcy)))
        have hgl:ga < wr.heap.size:=by have:=HM2.out.size;omega
        clear hx hy hat hLn HI hzx hzy kx ky hrx hry hcx hcy
        go_upto_region 8 with fail
        go_quiet (fail)
        have HM9:Hid (Mod (Btw lo m) wX (wr.drewN nq)):=Lib.hid (HM2.out.drewN nq)
        have HR9:Hid (zbr zbw (wr.drewN nq) lo m (some ga) L2∧zbz (wr.drewN nq) ga oa 3 38 NA (L2.map (·.c))):=Lib.hid ⟨HR2.out.1.keep (fun _ _ _ _=>rfl),HR2.out.2.heap rfl⟩
        have hx9:(wr.drewN nq).rangeAt ga (oa+(q+1)*3) cx:=zcn rfl HRX.out.1
        have hU9:(wr.drewN nq).heap[xb]?=some (.cells #[.slice (some ⟨ga,oa,none⟩) n1 kA,.slice pB n2 kB] 25 (0,0)):=hU
        have c19:(wr.drewN nq).cell? ⟨xb,0,none⟩=_:=c1
        have hg9:ga < (wr.drewN nq).heap.size:=hgl
        have hlx:cx.length=3:=HRX.out.2.1
        have hly:cy.length=3:=HRY.out.2.1
        have hox:=HRX.out.2.2
        have hoy:=HRY.out.2.2
        clear HM2 HR2 c1 c2 c3 hgl hU hb hlt hpos
        generalize wr.drewN nq=w9 at*
        go_upto_region 11 with (first
         |((with_reducible refine zav (.tmp 57) ga (oa+(q+1)*3) 38 cx 3 _ hx9 hlx Tryz.underlying38 rfl zal ?_ ?_ ?_ ?_);rfl;rfl;rfl)
         |((with_reducible refine zah (.tmp 6) (.tmp 58) w9.heap.size 38 38 _ cx 3 (zae _ _ rfl) hlx ?_ ?_ ?_ ?_ zal rfl hox ?_);rfl;rfl;rfl;rfl;intro wZ oZ hZ))
        have bZ:Below w9.heap.size w9 wZ:=zag (zas w9 _) oZ (Nat.le_refl _) (by simp)
        obtain ⟨zb,hzb⟩:∃ zb,zb=w9.heap.size:=⟨_,rfl⟩
        rw [← hzb] at hZ ⊢
        have hne:zb≠ga:=by omega
        have hnx:zb≠xb:=by have:=zaa hU9;omega
        have HUZ:wZ.drew.heap[xb]?=some (.cells #[.slice (some ⟨ga,oa,none⟩) n1 kA,.slice pB n2 kB] 25 (0,0)):=(bZ.block _ (zaa hU9)).trans hU9
        have HRZ:Hid (zbr zbw wZ.drew lo m (some ga) L2∧zbz wZ.drew ga oa 3 38 NA (L2.map (·.c))):=Lib.hid ⟨HR9.out.1.keep (fun i _ b _=>bZ.block i (by have:=HM9.out.size;omega)),HR9.out.2.heap (bZ.block ga hg9)⟩
        have HMZ:Hid (Mod (Btw lo m) wX wZ.drew):=Lib.hid (HM9.out.trans (Mod.below bZ (Nat.le_refl _))).drew
        have hyZ:wZ.drew.rangeAt ga (oa+q*3) cy:=(HRZ.out.2.rng q cy (by
         rw [List.getElem?_map,HXY.out.2.1,HXY.out.2.2.2]
         rfl)).1
        replace hZ:wZ.drew.heap[zb]?=some (.cells cx.toArray 38 (0,0)):=hZ
        clear hx9 HR9 HM9 oZ bZ hzb hg9 HRY hU9 c19
        refine wp_region_held_drew (S:=fun W'=>W'.heap[xb]?=some (.cells #[.slice (some ⟨ga,oa,none⟩) n1 kA,.slice pB n2 kB] 25 (0,0))∧W'.rangeAt ga (oa+q*3) cy) (by kernel_rfl) ⟨HUZ,hyZ⟩ (fun _=>?_)
        generalize wZ.drew=wE at*
        refine tg (i:=0) (.pointer (some ⟨xb,0,none⟩)) rfl (⟨HUZ,hyZ⟩) ?_
        refine tg (i:=2) (.int .i64 ((q:Int)+1)) rfl (⟨HUZ,hyZ⟩) ?_
        refine tg (i:=3) (.pointer (some ⟨xb,0,none⟩)) rfl (⟨HUZ,hyZ⟩) ?_
        refine tg (i:=5) (.int .i64 ((q:Int)+1)) rfl (⟨HUZ,hyZ⟩) ?_
        refine tk (i:=1) (v:=.slice (some ⟨ga,oa,none⟩) n1 kA) rfl (Or.inl ⟨by rfl,fun W' h=>by have c0:=zac h.1 0 rfl;go_simp⟩) (⟨HUZ,hyZ⟩) ?_
        refine tk (i:=4) (v:=.slice (some ⟨ga,oa,none⟩) n1 kA) rfl (Or.inl ⟨by rfl,fun W' h=>by have c0:=zac h.1 0 rfl;go_simp⟩) (⟨HUZ,hyZ⟩) ?_
        refine tk (i:=6) (v:=.int .i64 (q:Int)) rfl (Or.inl ⟨by rfl,fun W _=>by go_simp;first | done | exact zfq (by omega) (by omega)⟩) (⟨HUZ,hyZ⟩) ?_
        refine tk (i:=7) (v:=.pointer (some ⟨ga,oa+q*3,none⟩)) rfl (Or.inl ⟨by rfl,fun W _=>by go_simp;first | done |(intro hh;exfalso;omega)⟩) (⟨HUZ,hyZ⟩) ?_
        refine tk (i:=8) (v:=.agg cy.toArray) rfl (yieldsIf_load_mid (by rfl) 38 (.tmp 66) rfl ga (oa+q*3) rfl cy _ (fun W' h=>h.2) Tryz.underlying38 rfl (by rw [hly];exact zal)) (⟨HUZ,hyZ⟩) ?_
        refine tk (i:=9) (v:=.pointer (some ⟨ga,oa+(q+1)*3,none⟩)) rfl (Or.inl ⟨by rfl,fun W _=>by go_simp;first | done |(intro hh;exfalso;omega)⟩) (⟨HUZ,hyZ⟩) ?_
        refine tr 10 rfl (fun K hK=>?_)
        have hN2l:q+1 < (L2.map (·.c)).length:=by rw [List.length_map];exact HN2.out.1
        have oA:=zbo ga (oa+(q+1)*3) cy wE
        have hTA:zbz (wE.setCells ga (oa+(q+1)*3) cy) ga oa 3 38 NA ((L2.map (·.c)).set (q+1) cy):=HRZ.out.2.set (q+1) cy hN2l hly hoy
        have hUA:(wE.setCells ga (oa+(q+1)*3) cy).heap[xb]?=some (.cells #[.slice (some ⟨ga,oa,none⟩) n1 kA,.slice pB n2 kB] 25 (0,0)):=(oA.block xb (zaa HUZ) (by omega)).trans HUZ
        have hyA:(wE.setCells ga (oa+(q+1)*3) cy).rangeAt ga (oa+q*3) cy:=(hTA.rng q cy (by
         rw [List.getElem?_set,if_neg (by omega),List.getElem?_map,HXY.out.2.1,HXY.out.2.2.2]
         rfl)).1
        have thE:wE.there ga (oa+(q+1)*3) 3:=HRZ.out.2.thr (q+1) hN2l
        rw [if_pos (by rfl)]
        refine wp_store_mid 38 (.tmp 68) (.tmp 67) rfl ga (oa+(q+1)*3) cy.toArray rfl rfl (by simpa [hly] using thE) (by rw [zal];simp [hly]) (all_oneCell_toArray hoy) ?_
        refine hK.out _ _ (⟨hUA,hyA⟩) (fun _=>?_)
        clear hK K
        try simp only [putS]
        refine wpAnyH_done (by kernel_rfl) ?_ _
        have HTA:=Lib.hid hTA
        have hIA:zbr zbw (wE.setCells ga (oa+(q+1)*3) cy) lo m (some ga) L2:=HRZ.out.1.keep (fun i _ b hr=>oA.block i (by have:=HMZ.out.size;omega) (fun e=>hr (by rw [e])))
        have HIA:=Lib.hid hIA
        have HMA:Hid (Mod (Btw lo m) wX (wE.setCells ga (oa+(q+1)*3) cy)):=Lib.hid (HMZ.out.trans (Mod.only oA ⟨hga1,hga2⟩))
        have hZA:(wE.setCells ga (oa+(q+1)*3) cy).heap[zb]?=some (.cells cx.toArray 38 (0,0)):=(oA.block zb (zaa hZ) hne).trans hZ
        have thA:=hTA.thr q (by rw [List.length_set];omega)
        change Exit.then _ _ _ _ (wE.setCells ga (oa+(q+1)*3) cy)
        clear hyA hyZ HUZ HRZ HMZ hZ thE hTA hIA oA
        generalize wE.setCells ga (oa+(q+1)*3) cy=wA at*
        have c1:=zac hUA 0 rfl
        go_wp2_with (first
         |((with_reducible refine zaf (.tmp 6) zb 38 38 cx 3 _ hZA hlx Tryz.underlying38 rfl zal ?_ ?_ ?_ ?_);rfl;rfl;rfl)
         |((with_reducible refine zca (.tmp 74) (.tmp 73) 38 ga (oa+q*3) 3 cx hlx hox thA zal ?_ ?_ ?_ ?_ ?_);rfl;rfl;rfl;rfl))
        go_roundg (gk - 1)
        case measure=>omega
        case rel=>
         have oB:=zbo ga (oa+q*3) cx wA
         refine ⟨q,⟨by omega,by omega⟩,by go_num,_,HS2,Lib.hid ⟨?_,?_⟩,Lib.hid (HMA.out.trans (Mod.only oB ⟨hga1,hga2⟩))⟩
         ·exact (HIA.out.keep (fun i _ b hr=>oB.block i (by have:=HMA.out.size;omega) (fun e=>hr (by rw [e])))).perm HPM.out
         ·have h:=HTA.out.set q cx (by rw [List.length_set];omega) hlx hox
          rw [HXY.out.2.2.1,HXY.out.2.2.2] at h
          rw [List.map_set,List.map_set]
          rw [HXY.out.2.2.1]
          exact h
       ·have hb:decide (zx < zy)=false:=decide_eq_false hlt
        have HE:Hid (zch zbw 38 NA lo m ga oa g.nodes zcr zap.id (i+1) wr):=Lib.hid (HI.out.stop RDY.out (.inr ⟨x,y,hx,hy,by omega⟩) HR2.out.1 (fun _=>HR2.out.2))
        clear hat hLn HI HR2 hx hy hzx hzy kx ky hrx hry hcx hcy
        go_upto_region 8 with fail
        go_quiet (fail)
        have HE9:Hid (zch zbw 38 NA lo m ga oa g.nodes zcr zap.id (i+1) (wr.drewN nq)):=Lib.hid (HE.out.keep HGA.out (fun _ _ _=>rfl))
        have HM9:Hid (Mod (Btw lo m) wX (wr.drewN nq)):=Lib.hid (HM2.out.drewN nq)
        clear HE HM2 hU c1 c2 c3 hb hlt hpos
        generalize wr.drewN nq=w9 at*
        go_wp2_with fail
        go_roundg (n1 - (i+1))
        case measure=>omega
        case rel=>exact ⟨i+1,by omega,by go_num,HE9,HM9⟩
    ·have e:i=n1:=by omega
     subst e
     go_wp2_with fail
     go_meet
     case rel=>exact ⟨HA,HM⟩
 case rest=>
  rename World=>wx
  obtain ⟨HSA1,HMA1⟩:=hcut
  have hUx:=(HMA1.out.block xb hxX (fun q=>by have:=q.1;have:=q.2;omega)).trans HUX.out
  replace HSB:Hid (zch zdy 41 NB m xb gb ob g.edges zc2 zat.id 0 wx):=Lib.hid (HSB.out.keep (fun q=>(HPB.out q).2.2) (fun i a b=>HMA1.out.block i (by omega) (fun q=>by have:=q.2;omega)))
  have hx2:xb < wx.heap.size:=by have:=HMA1.out.size;omega
  have HU2:=Lib.hid hUx
  have HB2:=Lib.hid (And.intro (HBX.out.1.trans (HMA1.out.toBelow (B:=W.heap.size) (by have:=HBX.out.1.size;omega) (fun i q=>by have:=q.1;have:=HLO.out;omega))) ((HMA1.out.block (W.heap.size+1) (by have:=HLO.out;omega) (fun q=>by have:=q.1;have:=HLO.out;omega)).trans HBX.out.2))
  clear hUx HUX HBX HMA1 HSA hxX
  rename Hid (wx.heap[xb]?=some _)=>HUX
  rename xb < wx.heap.size=>hxX
  go_upto_block 4 with fail
  go_cut [7] (fun _ wz=>Hid (zch zdy 41 NB m xb gb ob g.edges zc2 zat.id n2 wz)∧Hid (Mod (Btw m xb) wx wz))
  case first=>
   as_aux_lemma=>
    go_wp2_with fail
    go_loopg [7] n2 (fun gg sx wr=>∃ i:Nat,i+gg=n2∧sx=.int .i64 i∧Hid (zch zdy 41 NB m xb gb ob g.edges zc2 zat.id i wr)∧Hid (Mod (Btw m xb) wx wr))
    case atStart=>exact ⟨0,by omega,rfl,HSB,Lib.hid (Mod.refl _ _)⟩
    case round=>
     obtain ⟨i,hig,rfl,HA,HM⟩:=hrel
     have hU:=(HM.out.block xb hxX (fun q=>by have:=q.1;have:=q.2;omega)).trans HUX.out
     have c1:=zac hU 1 rfl
     by_cases hi:(i:Int) < n2
     ·have hbl:g.edges.length=n2:=HL.out.2.symm
      have hi1:i < g.edges.length:=by omega
      have hne0:g.edges≠[]:=fun q=>by rw [q] at hi1;simp at hi1
      obtain ⟨rfl,hoz,hga1,hga2⟩:=HPB.out hne0
      clear hoz
      have HGA:=Lib.hid (fun (_:g.edges≠[])=>And.intro hga1 hga2)
      obtain ⟨L,q1,q2,q3,q4,q5,q6⟩:=HA.out
      have hR:=q3 hne0
      have hiL:i < L.length:=by omega
      have ha0:L[i].a=g.edges[i]:=by
       have h:=congrArg (fun l=>l[0]?) q6
       simp only [List.getElem?_map,List.getElem?_drop,Nat.add_zero] at h
       rw [List.getElem?_eq_getElem hiL,List.getElem?_eq_getElem hi1] at h
       exact Option.some.inj h
      have hKD:(g.edges[i].props.map fun p=>bl p.key).Nodup:=(zdo (HGG.out.ekeys _ (List.getElem_mem hi1)).1).2.1
      obtain ⟨a,hae⟩:∃ a,a=g.edges[i]:=⟨_,rfl⟩
      rw [← hae] at ha0 hKD
      obtain ⟨nid,src,dst,ty,ps⟩:=a
      have hrl:zfe wr L[i].lo L[i].hi L[i].c L[i].a:=q2.rel _ (List.getElem_mem hiL)
      rw [ha0] at hrl
      obtain ⟨pv,hc,hcr⟩:=id hrl
      clear hcr
      have htop:xb≤wr.heap.size:=by have:=HM.out.size;omega
      have hr:=(hR.rng i L[i].c (by rw [List.getElem?_map,List.getElem?_eq_getElem hiL];rfl)).1
      rw [hc] at hr
      replace hr:wr.rangeAt gb (ob+i*5) [.int .i64 nid,.int .i64 src,.int .i64 dst,.string ty,pv]:=hr
      have hgl:gb < wr.heap.size:=by omega
      have HS1:=Lib.hid (zqq q2 hiL hc ha0 htop hKD)
      have c2:wr.cell? ⟨gb,ob+i*5+4,none⟩=some pv:=hr 4 _ rfl
      go_upto_region 17 with (first
       |(go_at_call 44;go_loud (refine HS1.out.mono ?_);rintro e w3 ⟨rfl,I3,M3⟩))
      obtain ⟨L1,hL1⟩:∃ L1,L1=L.set i ⟨[.int .i64 nid,.int .i64 src,.int .i64 dst,.string ty,pv],⟨nid,src,dst,ty,zmo ps⟩,L[i].lo,L[i].hi⟩:=⟨_,rfl⟩
      have HIR:Hid (zbr zdy w3 m xb (some gb) L1∧zbz w3 gb ob 5 41 NB (L1.map (·.c))):=Lib.hid (by
       rw [hL1,znj hiL _ hc.symm]
       exact ⟨I3,hR.heap (M3.block gb hgl (fun q=>q.2 rfl))⟩)
      have HM3:Hid (Mod (Btw m xb) wx w3):=Lib.hid (HM.out.trans (M3.mono fun _ q=>q.1))
      clear HS1 c2 hU I3 M3 htop hgl hrl c1
      have RDY:Hid (Rdy g.edges zc2 zat.id i L1):=Lib.hid (by
       rw [hL1]
       exact Rdy.mk q1 q4 q5 q6 hi1 (by rw [← hae];rfl))
      have hll:L1.length=n2:=by rw [hL1,List.length_set];omega
      clear HA HM hR hr ha0 hc q1 q2 q3 q4 q5 q6 hL1 hKD hae
      have hiN:i < n2:=by omega
      go_wp2_with fail
      go_loopg [8] i (fun gg sx wy=>∃ k:Nat,(k≤gg∧gg≤k)∧sx=.int .i64 k∧∃ L2:List (Item zat),Hid (InsO zat.id L1 L2 i k)∧Hid (zbr zdy wy m xb (some gb) L2∧zbz wy gb ob 5 41 NB (L2.map (·.c)))∧Hid (Mod (Btw m xb) wx wy))
      case atStart=>exact ⟨i,⟨Nat.le_refl _,Nat.le_refl _⟩,rfl,L1,Lib.hid (InsO.start RDY.out),HIR,HM3⟩
      case round=>
       clear HIR HM3
       obtain ⟨k,hkg,rfl,L2,HI,HR2,HM2⟩:=hrel
       have hU:=(HM2.out.block xb hxX (fun q=>by have:=q.1;have:=q.2;omega)).trans HUX.out
       have c1:=zac hU 1 rfl
       have hat:=HI.out.1.at_
       have hLn:L2.length=n2:=by rw [hat.2.2.2.length_eq,hll]
       by_cases hk:k=0
       ·subst hk
        have HE:Hid (zch zdy 41 NB m xb gb ob g.edges zc2 zat.id (i+1) wr):=Lib.hid (HI.out.stop RDY.out (.inl rfl) HR2.out.1 (fun _=>HR2.out.2))
        clear hat hLn HI HR2
        go_upto_region 18 with fail
        go_quiet (fail)
        have HE9:Hid (zch zdy 41 NB m xb gb ob g.edges zc2 zat.id (i+1) (wr.drewN nq)):=Lib.hid (HE.out.keep HGA.out (fun _ _ _=>rfl))
        have HM9:Hid (Mod (Btw m xb) wx (wr.drewN nq)):=Lib.hid (HM2.out.drewN nq)
        clear HE HM2 hU c1
        generalize wr.drewN nq=w9 at*
        go_wp2_with fail
        go_roundg (n2 - (i+1))
        case measure=>omega
        case rel=>exact ⟨i+1,by omega,by go_num,HE9,HM9⟩
       ·obtain ⟨q,rfl⟩:∃ q,k=q+1:=⟨k - 1,by omega⟩
        obtain ⟨x,hx⟩:∃ x,L2[q+1]?=some x:=⟨_,List.getElem?_eq_getElem hat.1⟩
        obtain ⟨y,hy⟩:∃ y,L2[q]?=some y:=⟨_,List.getElem?_eq_getElem (by omega)⟩
        have hrx:=HR2.out.2.rng (q+1) x.c (by rw [List.getElem?_map,hx];rfl)
        have hry:=HR2.out.2.rng q y.c (by rw [List.getElem?_map,hy];rfl)
        have kx:=zul (HR2.out.1.rel x (List.mem_of_getElem? hx))
        have ky:=zul (HR2.out.1.rel y (List.mem_of_getElem? hy))
        obtain ⟨zx,hzx⟩:∃ z,z=x.a.id:=⟨_,rfl⟩
        obtain ⟨zy,hzy⟩:∃ z,z=y.a.id:=⟨_,rfl⟩
        obtain ⟨cx,hcx⟩:∃ c,c=x.c:=⟨_,rfl⟩
        obtain ⟨cy,hcy⟩:∃ c,c=y.c:=⟨_,rfl⟩
        rw [← hzx,← hcx] at kx
        rw [← hzy,← hcy] at ky
        rw [← hcx] at hrx
        rw [← hcy] at hry
        have c2:wr.cell? ⟨gb,ob+(q+1)*5,none⟩=some (.int .i64 zx):=hrx.1 0 _ kx
        have c3:wr.cell? ⟨gb,ob+q*5,none⟩=some (.int .i64 zy):=hry.1 0 _ ky
        have hpos:decide ((0:Int) < ((q+1:Nat):Int))=true:=decide_eq_true (by omega)
        have hsub:(((q+1:Nat):Int) - 1)=(q:Int):=by omega
        have hmn:q+1 < n2:=by omega
        have hmi:((q:Int)+1) < n2:=by omega
        by_cases hlt:zx < zy
        ·have hb:decide (zx < zy)=true:=decide_eq_true hlt
         have HS2:=Lib.hid (HI.out.step hx hy (by omega))
         have HPM:=Lib.hid (HS2.out.1.at_.2.2.2.trans hat.2.2.2.symm)
         have HN2:=Lib.hid (And.intro hat.1 hLn)
         have HRX:=Lib.hid hrx
         have HRY:=Lib.hid hry
         have HXY:=Lib.hid (And.intro hx (And.intro hy (And.intro hcx hcy)))
         have hgl:gb < wr.heap.size:=by have:=HM2.out.size;omega
         clear hx hy hat hLn HI hzx hzy kx ky hrx hry hcx hcy
         go_upto_region 18 with fail
         go_quiet (fail)
         have HM9:Hid (Mod (Btw m xb) wx (wr.drewN nq)):=Lib.hid (HM2.out.drewN nq)
         have HR9:Hid (zbr zdy (wr.drewN nq) m xb (some gb) L2∧zbz (wr.drewN nq) gb ob 5 41 NB (L2.map (·.c))):=Lib.hid ⟨HR2.out.1.keep (fun _ _ _ _=>rfl),HR2.out.2.heap rfl⟩
         have hx9:(wr.drewN nq).rangeAt gb (ob+(q+1)*5) cx:=zcn rfl HRX.out.1
         have hU9:(wr.drewN nq).heap[xb]?=some (.cells #[.slice pA n1 kA,.slice (some ⟨gb,ob,none⟩) n2 kB] 25 (0,0)):=hU
         have c19:(wr.drewN nq).cell? ⟨xb,1,none⟩=_:=c1
         have hg9:gb < (wr.drewN nq).heap.size:=hgl
         have hlx:cx.length=5:=HRX.out.2.1
         have hly:cy.length=5:=HRY.out.2.1
         have hox:=HRX.out.2.2
         have hoy:=HRY.out.2.2
         clear HM2 HR2 c1 c2 c3 hgl hU hb hlt hpos
         generalize wr.drewN nq=w9 at*
         go_upto_region 21 with (first
          |((with_reducible refine zav (.tmp 113) gb (ob+(q+1)*5) 41 cx 5 _ hx9 hlx Tryz.underlying41 rfl zan ?_ ?_ ?_ ?_);rfl;rfl;rfl)
          |((with_reducible refine zah (.tmp 9) (.tmp 114) w9.heap.size 41 41 _ cx 5 (zae _ _ rfl) hlx ?_ ?_ ?_ ?_ zan rfl hox ?_);rfl;rfl;rfl;rfl;intro wZ oZ hZ))
         have bZ:Below w9.heap.size w9 wZ:=zag (zas w9 _) oZ (Nat.le_refl _) (by simp)
         obtain ⟨zb,hzb⟩:∃ zb,zb=w9.heap.size:=⟨_,rfl⟩
         rw [← hzb] at hZ ⊢
         have hne:zb≠gb:=by omega
         have hnx:zb≠xb:=by have:=zaa hU9;omega
         have HUZ:wZ.drew.heap[xb]?=some (.cells #[.slice pA n1 kA,.slice (some ⟨gb,ob,none⟩) n2 kB] 25 (0,0)):=(bZ.block _ (zaa hU9)).trans hU9
         have HRZ:Hid (zbr zdy wZ.drew m xb (some gb) L2∧zbz wZ.drew gb ob 5 41 NB (L2.map (·.c))):=Lib.hid ⟨HR9.out.1.keep (fun i _ b _=>bZ.block i (by have:=HM9.out.size;omega)),HR9.out.2.heap (bZ.block gb hg9)⟩
         have HMZ:Hid (Mod (Btw m xb) wx wZ.drew):=Lib.hid (HM9.out.trans (Mod.below bZ (Nat.le_refl _))).drew
         have hyZ:wZ.drew.rangeAt gb (ob+q*5) cy:=(HRZ.out.2.rng q cy (by
          rw [List.getElem?_map,HXY.out.2.1,HXY.out.2.2.2]
          rfl)).1
         replace hZ:wZ.drew.heap[zb]?=some (.cells cx.toArray 41 (0,0)):=hZ
         clear hx9 HR9 HM9 oZ bZ hzb hg9 HRY hU9 c19
         refine wp_region_held_drew (S:=fun W'=>W'.heap[xb]?=some (.cells #[.slice pA n1 kA,.slice (some ⟨gb,ob,none⟩) n2 kB] 25 (0,0))∧W'.rangeAt gb (ob+q*5) cy) (by kernel_rfl) ⟨HUZ,hyZ⟩ (fun _=>?_)
         generalize wZ.drew=wE at*
         refine tg (i:=0) (.pointer (some ⟨xb,1,none⟩)) rfl (⟨HUZ,hyZ⟩) ?_
         refine tg (i:=2) (.int .i64 ((q:Int)+1)) rfl (⟨HUZ,hyZ⟩) ?_
         refine tg (i:=3) (.pointer (some ⟨xb,1,none⟩)) rfl (⟨HUZ,hyZ⟩) ?_
         refine tg (i:=5) (.int .i64 ((q:Int)+1)) rfl (⟨HUZ,hyZ⟩) ?_
         refine tk (i:=1) (v:=.slice (some ⟨gb,ob,none⟩) n2 kB) rfl (Or.inl ⟨by rfl,fun W' h=>by have c0:=zac h.1 1 rfl;go_simp⟩) (⟨HUZ,hyZ⟩) ?_
         refine tk (i:=4) (v:=.slice (some ⟨gb,ob,none⟩) n2 kB) rfl (Or.inl ⟨by rfl,fun W' h=>by have c0:=zac h.1 1 rfl;go_simp⟩) (⟨HUZ,hyZ⟩) ?_
         refine tk (i:=6) (v:=.int .i64 (q:Int)) rfl (Or.inl ⟨by rfl,fun W _=>by go_simp;first | done | exact zfq (by omega) (by omega)⟩) (⟨HUZ,hyZ⟩) ?_
         refine tk (i:=7) (v:=.pointer (some ⟨gb,ob+q*5,none⟩)) rfl (Or.inl ⟨by rfl,fun W _=>by go_simp;first | done |(intro hh;exfalso;omega)⟩) (⟨HUZ,hyZ⟩) ?_
         refine tk (i:=8) (v:=.agg cy.toArray) rfl (yieldsIf_load_mid (by rfl) 41 (.tmp 122) rfl gb (ob+q*5) rfl cy _ (fun W' h=>h.2) Tryz.underlying41 rfl (by rw [hly];exact zan)) (⟨HUZ,hyZ⟩) ?_
         refine tk (i:=9) (v:=.pointer (some ⟨gb,ob+(q+1)*5,none⟩)) rfl (Or.inl ⟨by rfl,fun W _=>by go_simp;first | done |(intro hh;exfalso;omega)⟩) (⟨HUZ,hyZ⟩) ?_
         refine tr 10 rfl (fun K hK=>?_)
         have hN2l:q+1 < (L2.map (·.c)).length:=by rw [List.length_map];exact HN2.out.1
         have oA:=zbo gb (ob+(q+1)*5) cy wE
         have hTA:zbz (wE.setCells gb (ob+(q+1)*5) cy) gb ob 5 41 NB ((L2.map (·.c)).set (q+1) cy):=HRZ.out.2.set (q+1) cy hN2l hly hoy
         have hUA:(wE.setCells gb (ob+(q+1)*5) cy).heap[xb]?=some (.cells #[.slice pA n1 kA,.slice (some ⟨gb,ob,none⟩) n2 kB] 25 (0,0)):=(oA.block xb (zaa HUZ) (by omega)).trans HUZ
         have hyA:(wE.setCells gb (ob+(q+1)*5) cy).rangeAt gb (ob+q*5) cy:=(hTA.rng q cy (by
          rw [List.getElem?_set,if_neg (by omega),List.getElem?_map,HXY.out.2.1,HXY.out.2.2.2]
          rfl)).1
         have thE:wE.there gb (ob+(q+1)*5) 5:=HRZ.out.2.thr (q+1) hN2l
         rw [if_pos (by rfl)]
         refine wp_store_mid 41 (.tmp 124) (.tmp 123) rfl gb (ob+(q+1)*5) cy.toArray rfl rfl (by simpa [hly] using thE) (by rw [zan];simp [hly]) (all_oneCell_toArray hoy) ?_
         refine hK.out _ _ (⟨hUA,hyA⟩) (fun _=>?_)
         clear hK K
         try simp only [putS]
         refine wpAnyH_done (by kernel_rfl) ?_ _
         have HTA:=Lib.hid hTA
         have hIA:zbr zdy (wE.setCells gb (ob+(q+1)*5) cy) m xb (some gb) L2:=HRZ.out.1.keep (fun i _ b hr=>oA.block i (by have:=HMZ.out.size;omega) (fun e=>hr (by rw [e])))
         have HIA:=Lib.hid hIA
         have HMA:Hid (Mod (Btw m xb) wx (wE.setCells gb (ob+(q+1)*5) cy)):=Lib.hid (HMZ.out.trans (Mod.only oA ⟨hga1,hga2⟩))
         have hZA:(wE.setCells gb (ob+(q+1)*5) cy).heap[zb]?=some (.cells cx.toArray 41 (0,0)):=(oA.block zb (zaa hZ) hne).trans hZ
         have thA:=hTA.thr q (by rw [List.length_set];omega)
         change Exit.then _ _ _ _ (wE.setCells gb (ob+(q+1)*5) cy)
         clear hyA hyZ HUZ HRZ HMZ hZ thE hTA hIA oA
         generalize wE.setCells gb (ob+(q+1)*5) cy=wA at*
         have c1:=zac hUA 1 rfl
         go_wp2_with (first
          |((with_reducible refine zaf (.tmp 9) zb 41 41 cx 5 _ hZA hlx Tryz.underlying41 rfl zan ?_ ?_ ?_ ?_);rfl;rfl;rfl)
          |((with_reducible refine zca (.tmp 130) (.tmp 129) 41 gb (ob+q*5) 5 cx hlx hox thA zan ?_ ?_ ?_ ?_ ?_);rfl;rfl;rfl;rfl))
         go_roundg (gk - 1)
         case measure=>omega
         case rel=>
          have oB:=zbo gb (ob+q*5) cx wA
          refine ⟨q,⟨by omega,by omega⟩,by go_num,_,HS2,Lib.hid ⟨?_,?_⟩,Lib.hid (HMA.out.trans (Mod.only oB ⟨hga1,hga2⟩))⟩
          ·exact (HIA.out.keep (fun i _ b hr=>oB.block i (by have:=HMA.out.size;omega) (fun e=>hr (by rw [e])))).perm HPM.out
          ·have h:=HTA.out.set q cx (by rw [List.length_set];omega) hlx hox
           rw [HXY.out.2.2.1,HXY.out.2.2.2] at h
           rw [List.map_set,List.map_set]
           rw [HXY.out.2.2.1]
           exact h
        ·have hb:decide (zx < zy)=false:=decide_eq_false hlt
         have HE:Hid (zch zdy 41 NB m xb gb ob g.edges zc2 zat.id (i+1) wr):=Lib.hid (HI.out.stop RDY.out (.inr ⟨x,y,hx,hy,by omega⟩) HR2.out.1 (fun _=>HR2.out.2))
         clear hat hLn HI HR2 hx hy hzx hzy kx ky hrx hry hcx hcy
         go_upto_region 18 with fail
         go_quiet (fail)
         have HE9:Hid (zch zdy 41 NB m xb gb ob g.edges zc2 zat.id (i+1) (wr.drewN nq)):=Lib.hid (HE.out.keep HGA.out (fun _ _ _=>rfl))
         have HM9:Hid (Mod (Btw m xb) wx (wr.drewN nq)):=Lib.hid (HM2.out.drewN nq)
         clear HE HM2 hU c1 c2 c3 hb hlt hpos
         generalize wr.drewN nq=w9 at*
         go_wp2_with fail
         go_roundg (n2 - (i+1))
         case measure=>omega
         case rel=>exact ⟨i+1,by omega,by go_num,HE9,HM9⟩
     ·have e:i=n2:=by omega
      subst e
      go_wp2_with fail
      go_meet
      case rel=>exact ⟨HA,HM⟩
  case rest=>
   rename World=>wy
   obtain ⟨HSB1,HMB1⟩:=hcut
   have hUy:=(HMB1.out.block xb hxX (fun q=>by have:=q.2;omega)).trans HUX.out
   have u2:=(HMB1.out.block (W.heap.size+1) (by have:=HLO.out;omega) (fun q=>by have:=q.1;have:=HLO.out;omega)).trans HB2.out.2
   have bY:Below W.heap.size W wy:=HB2.out.1.trans (HMB1.out.toBelow (B:=W.heap.size) (by have:=HB2.out.1.size;omega) (fun i q=>by have:=q.1;have:=HLO.out;omega))
   have HNY:Hid (zch zbw 38 NA lo m ga oa g.nodes zcr zap.id n1 wy):=Lib.hid (HSA1.out.keep (fun q=>(HPA.out q).2.2) (fun i a b=>HMB1.out.block i (by omega) (fun q=>by have:=q.1;omega)))
   have hyX:xb < wy.heap.size:=by have:=HMB1.out.size;omega
   have HBY:=Lib.hid bY
   clear HUX HB2 HSA1 HMB1 HSB bY
   go_wp2_with (first
    |((with_reducible refine zaf (.tmp 3) xb 25 25 [.slice pA n1 kA,.slice pB n2 kB] 2 _ hUy rfl Tryz.underlying25 rfl zbg ?_ ?_ ?_ ?_);rfl;rfl;rfl)
    |((with_reducible refine zah (.tmp 2) (.tmp 131) (W.heap.size+1) 25 25 _ [.slice pA n1 kA,.slice pB n2 kB] 2 u2 rfl ?_ ?_ ?_ ?_ zbg rfl (by simp [Value.oneCell']) ?_);rfl;rfl;rfl;rfl;intro wF oF uF))
   have hlo:=HLO.out
   have keep:∀ i,lo≤i→i < xb→wF.heap[i]?=wy.heap[i]?:=fun i a b=>oF.block i (by omega) (by omega)
   have hFs:=oF.size
   have hNF:zch zbw 38 NA lo m ga oa g.nodes zcr zap.id g.nodes.length wF:=by rw [← HL.out.1];exact HNY.out.keep (fun q=>(HPA.out q).2.2) (fun i a b=>keep i a (by omega))
   have hEF:zch zdy 41 NB m xb gb ob g.edges zc2 zat.id g.edges.length wF:=by rw [← HL.out.2];exact HSB1.out.keep (fun q=>(HPB.out q).2.2) (fun i a b=>keep i (by omega) b)
   obtain ⟨us,ha1,ha2,ha3⟩:=hNF.done (P:=New W wF) (pA:=pA) (kA:=kA) (by decide) (fun q=>by
    obtain ⟨e1,e2,e3,e4⟩:=HPA.out q
    exact ⟨by rw [e1,e2],e2,by omega,by omega⟩) (fun i a b=>⟨by omega,by omega⟩)
   obtain ⟨bs,hb1,hb2,hb3⟩:=hEF.done (P:=New W wF) (pA:=pB) (kA:=kB) (by decide) (fun q=>by
    obtain ⟨e1,e2,e3,e4⟩:=HPB.out q
    exact ⟨by rw [e1,e2],e2,by omega,by omega⟩) (fun i a b=>⟨by omega,by omega⟩)
   rw [zok HGG.out ha2 ha3,← HL.out.1] at ha1
   rw [zol HGG.out hb2 hb3,← HL.out.2] at hb1
   exact bodyPost_ret (results_cell_row (p:=2) (ty:=25) Tryz.results15 _ _ (W.heap.size+1) 25 _ (0,0) _ rfl uF Tryz.underlying25 rfl zbg) rfl ⟨_,_,rfl,ha1,hb1,zag HBY.out oF (by omega) HBY.out.size⟩
end Go.Proofs.YtcfmenkigolnoaaGreatDoor

/- GLX -/
namespace Go.Proofs.YtcfmenkigolnoaaGreatDoor
open Go.RowKit
def wN (a:zap):Nat:=a.labels.length+a.props.length
def sumB {α:Type} (f:α→Nat) (l:List α):Nat:=(l.map f).sum
theorem znl {α:Type} (f:α→Nat) (l:List α) (j:Nat) (hj:j < l.length):sumB f (l.take (j+1))=sumB f (l.take j)+f l[j]:=by
 unfold sumB
 rw [List.take_succ_eq_append_getElem hj,List.map_append,List.sum_append_nat]
 simp
def zun (g:zau):Bool:=decide (g.nodes.length+g.edges.length+sumB wN g.nodes+sumB (fun a:zat=>a.props.length) g.edges≤360)
def zwp (W:World) (b:Bool) (e:Ending) (w':World):Prop:=e=.returned (.bool b)∧Below W.heap.size W w'
set_option maxHeartbeats 6400000 in
set_option maxRecDepth 20000 in
theorem lightX (g:zau) (vn ve:Value) (W:World) (hn:zak za4 W (Old W) vn g.nodes) (he:zak zaz W (Old W) ve g.edges) (hn1:g.nodes.length≤2097152) (hn2:g.edges.length≤2097152):
 Calls Tryz.prog 8 #[.agg #[vn,ve]] W (zwp W (zun g)):=by
 have hnn:=hn
 have hee:=he
 obtain ⟨p1,cap1,rfl⟩:=hn.slice
 obtain ⟨p2,cap2,rfl⟩:=he.slice
 obtain ⟨n1,hl1⟩:∃ n,n=g.nodes.length:=⟨_,rfl⟩
 obtain ⟨n2,hl2⟩:∃ n,n=g.edges.length:=⟨_,rfl⟩
 rw [← hl1] at hn1
 rw [← hl2] at hn2
 rw [← hl1] at hnn
 rw [← hl2] at hee
 rw [← hl1,← hl2]
 have u1:(W.alloc (.cells #[.slice p1 n1 cap1,.slice p2 n2 cap2] 25)).heap[W.heap.size]?=some (.cells #[.slice p1 n1 cap1,.slice p2 n2 cap2] 25 (0,0)):=zae _ _ rfl
 have b0:=zas W (.cells #[.slice p1 n1 cap1,.slice p2 n2 cap2] 25)
 obtain ⟨W0,hW0⟩:∃ W0,W0=W.alloc (.cells #[.slice p1 n1 cap1,.slice p2 n2 cap2] 25):=⟨_,rfl⟩
 rw [← hW0] at u1 b0
 have H0:=Lib.hid hW0
 have HN:=Lib.hid (hnn.stays (zad b0))
 have HE:=Lib.hid (hee.stays (zad b0))
 have HL:=Lib.hid (And.intro hl1 hl2)
 have D0:∀ W':World,W'.heap=W0.heap→W'.heap[W.heap.size]?=some (.cells #[.slice p1 n1 cap1,.slice p2 n2 cap2] 25 (0,0)):=fun W' h=>by rw [h];exact u1
 have HD:=Lib.hid D0
 have c0:=zac u1 0 rfl
 have c1:=zac u1 1 rfl
 clear hnn hee hn he hl1 hl2 hW0 D0
 go_enter Tryz.func8,Tryz.ntmps8
 go_upto_region 1 with fail
 rw [← H0.out]
 go_upto_block 0 with fail
 go_cut [3,4] (fun s3 s4 wx=>∃ N:Nat,s3=.int .i64 N∧(N≤17592186044416∧Hid (N=n1+n2+sumB wN g.nodes))∧wx.heap=W0.heap∧Below W.heap.size W wx)
 case first=>
  go_wp2_with fail
  go_loopg [3,4] n1 (fun gg s3 s4 wr=>∃ j N:Nat,j+gg=n1∧s4=.int .i64 j∧s3=.int .i64 N∧(N≤4194304+j*4194304∧Hid (N=n1+n2+sumB wN (g.nodes.take j)))∧wr.heap=W0.heap∧Below W.heap.size W wr)
  case atStart=>exact ⟨0,n1+n2,by omega,rfl,by go_num,⟨by omega,Lib.hid (by simp [sumB])⟩,rfl,b0⟩
  case round=>
   obtain ⟨j,N,hjg,rfl,rfl,⟨hN,HX⟩,hh,hB⟩:=hrel
   have c0r:=zac (HD.out wr hh) 0 rfl
   by_cases hlt:(j:Int) < n1
   ·have hj1:j < g.nodes.length:=by have:=HL.out.1;omega
    obtain ⟨g2,off,cap',c,e0,hg,hrl,hra⟩:=HN.out.at_ j hj1
    injection e0 with e1 e2 e3
    subst e1
    replace hra:W0.rangeAt g2 (off+j*3) c:=hra
    obtain ⟨lv,pv,rfl,_,hm1,hm2,hlv,hpv⟩:=hrl
    obtain ⟨pl,capl,rfl⟩:=hlv.slice
    obtain ⟨pp,capp,rfl⟩:=hpv.slice
    obtain ⟨m,hm⟩:∃ m,m=g.nodes[j].labels.length:=⟨_,rfl⟩
    obtain ⟨m2,hm2'⟩:∃ m,m=g.nodes[j].props.length:=⟨_,rfl⟩
    rw [← hm] at hm1 hra
    rw [← hm2'] at hm2 hra
    have C0:∀ W':World,W'.heap=W0.heap→W'.cell? ⟨W.heap.size,0,none⟩=some (.slice (some ⟨g2,off,none⟩) n1 cap1):=fun W' h=>zac (HD.out W' h) 0 rfl
    have C1:∀ W':World,W'.heap=W0.heap→W'.cell? ⟨g2,off+j*3+1,none⟩=some (.slice pl m capl):=fun W' h=>by
     have:=hra 1 _ rfl
     unfold World.cell? at this ⊢
     rw [h]
     exact this
    have C2:∀ W':World,W'.heap=W0.heap→W'.cell? ⟨g2,off+j*3+2,none⟩=some (.slice pp m2 capp):=fun W' h=>by
     have:=hra 2 _ rfl
     unfold World.cell? at this ⊢
     rw [h]
     exact this
    have hs0:(N:Int) < 9223372036854775808:=by omega
    have hs1:(N:Int)+m < 9223372036854775808:=by omega
    have hs2:(N:Int)+m+m2 < 9223372036854775808:=by omega
    have HX2:Hid (N+m+m2=n1+n2+sumB wN (g.nodes.take (j+1))):=Lib.hid (by rw [znl wN g.nodes j hj1,HX.out];unfold wN;omega)
    clear hlv hpv hra e2 e3 hm hm2' c0 c1 u1 HX
    go_upto_region 5 with fail
    refine wp_region_held_drew (S:=fun W'=>W'.heap=W0.heap) (by kernel_rfl) hh (fun _=>?_)
    refine tg (i:=0) (.int .i64 (N:Int)) rfl (hh) ?_
    refine tg (i:=1) (.pointer (some ⟨W.heap.size,0,none⟩)) rfl (hh) ?_
    refine tg (i:=3) (.int .i64 (j:Int)) rfl (hh) ?_
    refine tg (i:=9) (.pointer (some ⟨W.heap.size,0,none⟩)) rfl (hh) ?_
    refine tg (i:=11) (.int .i64 (j:Int)) rfl (hh) ?_
    refine tk (i:=2) (v:=.slice (some ⟨g2,off,none⟩) n1 cap1) rfl (Or.inl ⟨by rfl,fun W' h=>by have c0:=C0 W' h;go_simp⟩) (hh) ?_
    refine tk (i:=10) (v:=.slice (some ⟨g2,off,none⟩) n1 cap1) rfl (Or.inl ⟨by rfl,fun W' h=>by have c0:=C0 W' h;go_simp⟩) (hh) ?_
    refine tk (i:=4) (v:=.pointer (some ⟨g2,off+j*3,none⟩)) rfl (Or.inl ⟨by rfl,fun W' _=>by go_simp⟩) (hh) ?_
    refine tk (i:=12) (v:=.pointer (some ⟨g2,off+j*3,none⟩)) rfl (Or.inl ⟨by rfl,fun W' _=>by go_simp⟩) (hh) ?_
    refine tg (i:=5) (.pointer (some ⟨g2,off+j*3+1,none⟩)) rfl (hh) ?_
    refine tg (i:=13) (.pointer (some ⟨g2,off+j*3+2,none⟩)) rfl (hh) ?_
    refine tk (i:=6) (v:=.slice pl m capl) rfl (Or.inl ⟨by rfl,fun W' h=>by have c1:=C1 W' h;go_simp⟩) (hh) ?_
    refine tk (i:=14) (v:=.slice pp m2 capp) rfl (Or.inl ⟨by rfl,fun W' h=>by have c2:=C2 W' h;go_simp⟩) (hh) ?_
    refine tg (i:=7) (.int .i64 (m:Int)) rfl (hh) ?_
    refine tg (i:=15) (.int .i64 (m2:Int)) rfl (hh) ?_
    refine tk (i:=8) (v:=.int .i64 ((N:Int)+m)) rfl (Or.inl ⟨by rfl,fun W _=>by go_simp;first | exact zfq (by omega) (by omega) | done⟩) (hh) ?_
    refine tk (i:=16) (v:=.int .i64 ((N:Int)+m+m2)) rfl (Or.inl ⟨by rfl,fun W _=>by go_simp;first | exact zfq (by omega) (by omega) | done⟩) (hh) ?_
    refine tg (i:=17) (.int .i64 ((N:Int)+m+m2)) rfl (hh) ?_
    refine wpAnyH_done (by kernel_rfl) ?_ _
    go_wp2_with fail
    go_roundg (gk - 1)
    case measure=>omega
    case rel=>exact ⟨j+1,N+m+m2,by omega,by go_num,by go_num,⟨by omega,HX2⟩,by show wr.heap=W0.heap;exact hh,hB.drew⟩
   ·go_wp2_with fail
    go_meet
    case rel=>exact ⟨N,rfl,⟨by omega,Lib.hid (by rw [HX.out,List.take_of_length_le (by have:=HL.out;omega)])⟩,hh,hB⟩
 case rest=>
  obtain ⟨N,rfl,⟨hN,HX⟩,hh,hB⟩:=hcut
  go_wp2_with fail
  go_loopg [3,5] n2 (fun gg s3 s5 wr=>∃ j N:Nat,j+gg=n2∧s5=.int .i64 j∧s3=.int .i64 N∧(N≤17592186044416+j*4194304∧Hid (N=n1+n2+sumB wN g.nodes+sumB (fun a:zat=>a.props.length) (g.edges.take j)))∧wr.heap=W0.heap∧Below W.heap.size W wr)
  case atStart=>exact ⟨0,N,by omega,rfl,rfl,⟨by omega,Lib.hid (by rw [HX.out];simp [sumB])⟩,hh,hB⟩
  case round=>
   clear hN hh hB HX N
   obtain ⟨j,N,hjg,rfl,rfl,⟨hN,HX⟩,hh,hB⟩:=hrel
   have c0r:=zac (HD.out wr hh) 1 rfl
   by_cases hlt:(j:Int) < n2
   ·have hj1:j < g.edges.length:=by have:=HL.out.2;omega
    obtain ⟨g2,off,cap',c,e0,hg,hrl,hra⟩:=HE.out.at_ j hj1
    injection e0 with e1 e2 e3
    subst e1
    replace hra:W0.rangeAt g2 (off+j*5) c:=hra
    obtain ⟨pv,rfl,_,_,hm2,hpv⟩:=hrl
    obtain ⟨pp,capp,rfl⟩:=hpv.slice
    obtain ⟨m2,hm2'⟩:∃ m,m=g.edges[j].props.length:=⟨_,rfl⟩
    rw [← hm2'] at hm2 hra
    have C2:wr.cell? ⟨g2,off+j*5+4,none⟩=some (.slice pp m2 capp):=by
     have:=hra 4 _ rfl
     unfold World.cell? at this ⊢
     rw [hh]
     exact this
    have hs1:(N:Int)+m2 < 9223372036854775808:=by omega
    have HX2:Hid (N+m2=n1+n2+sumB wN g.nodes+sumB (fun a:zat=>a.props.length) (g.edges.take (j+1))):=Lib.hid (by rw [znl _ g.edges j hj1,HX.out];omega)
    clear hpv hra e2 e3 hm2' c0 c1 u1 HX
    go_wp2_with fail
    go_roundg (gk - 1)
    case measure=>omega
    case rel=>exact ⟨j+1,N+m2,by omega,by go_num,by go_num,⟨by omega,HX2⟩,hh,hB⟩
   ·go_wp2_with fail
    refine bodyPost_ret (results_tmp rfl _ _ _) rfl ?_
    have e:N=g.nodes.length+g.edges.length+sumB wN g.nodes+sumB (fun a:zat=>a.props.length) g.edges:=by
     have h:=HX.out
     rw [List.take_of_length_le (by have:=HL.out;omega)] at h
     rw [h,HL.out.1,HL.out.2]
    refine ⟨?_,hB⟩
    unfold zun
    rw [← e,show decide (N≤360)=decide ((N:Int)≤360) from decide_eq_decide.2 (by omega)]
    rfl
end Go.Proofs.YtcfmenkigolnoaaGreatDoor
