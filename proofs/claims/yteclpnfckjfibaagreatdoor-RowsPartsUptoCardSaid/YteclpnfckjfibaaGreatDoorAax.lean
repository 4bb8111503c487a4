/- Texts of one kind, one behind the other: each says ahead of itself what it shows. -/
import Derived.Test.YteclpnfckjfibaaGreatDoorAav
import Derived.Test.YteclpnfckjfibaaGreatDoorAal
import Derived.Test.YteclpnfckjfibaaGreatDoorAam
import Derived.Test.YteclpnfckjfibaaGreatDoorAai
import Derived.Test.YteclpnfckjfibaaGreatDoorAar
/- UN -/
namespace Go.Proofs.YteclpnfckjfibaaGreatDoor
open Go.RowKit
def zaw (a b:TabL):TabL:=
 if (tabP a && tabP b)=true∧(zar a.vars b.vars).length≤64 then ⟨zar a.vars b.vars,zbn a (zar a.vars b.vars)++zbn b (zar a.vars b.vars)⟩ else ⟨[],[]⟩
set_option maxHeartbeats 12800000 in
set_option maxRecDepth 20000 in
theorem zlr (a b:TabL) (VA RA VB RB:Value) (W:World) (hG:Gd W) (ha:tabE.rel W (Old W) [VA,RA] a) (hb:tabE.rel W (Old W) [VB,RB] b) (hun:(zaw a b).rows.length≤2097152):Calls Tryz.prog 26 #[.agg #[VA,RA],.agg #[VB,RB]] W (zbr tabE (zaw a b) W):=by
 have ha0:=ha
 have hb0:=hb
 obtain ⟨V',R',e,hva,hra,hcva,hcra,hlva,hlra⟩:=ha
 cases e
 obtain ⟨V',R',e,hvb,hrb,hcvb,hcrb,hlvb,hlrb⟩:=hb
 cases e
 obtain ⟨pA,kA,rfl⟩:=hva.slice
 obtain ⟨qA,lA,rfl⟩:=hra.slice
 obtain ⟨pB,kB,rfl⟩:=hvb.slice
 obtain ⟨qB,lB,rfl⟩:=hrb.slice
 obtain ⟨W1,hW1⟩:∃ W1,W1=((W.alloc (.cells #[.slice pA a.vars.length kA,.slice qA a.rows.length lA] 25)).alloc (.cells #[.slice pB b.vars.length kB,.slice qB b.rows.length lB] 25)).alloc (.cells #[.slice none 0 0,.slice none 0 0] 25):=⟨_,rfl⟩
 have b1:Below W.heap.size W W1:=by rw [hW1];exact (zc1 _ _ _).alloc (by simp;omega) _
 have s1:W.heap.size+1+1 < W1.heap.size:=by rw [hW1];simp
 have u2:W1.heap[W.heap.size]?=some (.cells #[.slice pA a.vars.length kA,.slice qA a.rows.length lA] 25):=by rw [hW1];exact zao _ (zao _ (zag _ _ rfl))
 have u3:W1.heap[W.heap.size+1]?=some (.cells #[.slice pB b.vars.length kB,.slice qB b.rows.length lB] 25):=by rw [hW1];exact zao _ (zag _ _ (by simp))
 have u4:W1.heap[W.heap.size+1+1]?=some (.cells #[.slice none 0 0,.slice none 0 0] 25):=by rw [hW1];exact zag _ _ (by simp)
 have HOV:=Lib.hid (zzt a b _ _ _ _ W1 (hG.below b1) (tabE.stays (zad b1) ha0) (tabE.stays (zad b1) hb0))
 have HTBA:Hid (∀ W',Below W1.heap.size W1 W'→tabE.rel W' (Old W') [.slice pA a.vars.length kA,.slice qA a.rows.length lA] a):=Lib.hid fun W' h=>tabE.stays (zad (zab b1 h b1.size)) ha0
 have HTBB:Hid (∀ W',Below W1.heap.size W1 W'→tabE.rel W' (Old W') [.slice pB b.vars.length kB,.slice qB b.rows.length lB] b):=Lib.hid fun W' h=>tabE.stays (zad (zab b1 h b1.size)) hb0
 have HW:=Lib.hid hW1
 have HB1:=Lib.hid b1
 have HU:=Lib.hid (And.intro u2 (And.intro u3 u4))
 have HUN:=Lib.hid hun
 obtain ⟨jt,hjt⟩:∃ jt,jt=zaw a b:=⟨_,rfl⟩
 rw [← hjt]
 have HJT:=Lib.hid hjt
 clear ha0 hb0 hva hra hcva hcra hvb hrb hcvb hcrb hG hW1 b1 u4 hun hjt
 by_cases hp:(tabP a && tabP b)=true
 ·have hov:Calls Tryz.prog 73 #[.agg #[.slice pA a.vars.length kA,.slice qA a.rows.length lA],.agg #[.slice pB b.vars.length kB,.slice qB b.rows.length lB]] W1 fun e w'=>∃ V,e=.returned (.tuple #[.agg #[V,.slice none 0 0],.bool (decide ((zar a.vars b.vars).length≤64))])∧zah zax w' (New W1 w') V (zar a.vars b.vars)∧capK V∧V.oneCell'=true∧Below W1.heap.size W1 w':=HOV.out.mono fun e w' h=>by
   unfold zfu at h
   rwa [if_pos hp] at h
  have HO:=Lib.hid hov
  clear hov HOV
  by_cases hle:(zar a.vars b.vars).length≤64
  ·rw [decide_eq_true hle] at HO
   have HJ2:Hid (jt=⟨zar a.vars b.vars,zbn a (zar a.vars b.vars)++zbn b (zar a.vars b.vars)⟩):=Lib.hid (by rw [HJT.out];unfold zaw;rw [if_pos ⟨hp,hle⟩])
   have HTOT:Hid ((zbn a (zar a.vars b.vars)++zbn b (zar a.vars b.vars)).length≤2097152):=Lib.hid (by
    have h:=HUN.out
    rw [← HJT.out,HJ2.out] at h
    exact h)
   have HTA:=Lib.hid (zbi (t:=a) (by simp only [Bool.and_eq_true] at hp;exact hp.1))
   have HTB:=Lib.hid (zbi (t:=b) (by simp only [Bool.and_eq_true] at hp;exact hp.2))
   go_enter Tryz.func26,Tryz.ntmps26
   go_upto_region 1 with fail
   rw [← HW.out]
   go_upto_region 4 with (first
    |((with_reducible refine zaf (.tmp 2) W.heap.size 25 25 [.slice pA a.vars.length kA,.slice qA a.rows.length lA] 2 _ u2 rfl Tryz.underlying25 rfl zae ?_ ?_ ?_ ?_);rfl;rfl;rfl)
    |((with_reducible refine zaf (.tmp 3) (W.heap.size+1) 25 25 [.slice pB b.vars.length kB,.slice qB b.rows.length lB] 2 _ u3 rfl Tryz.underlying25 rfl zae ?_ ?_ ?_ ?_);rfl;rfl;rfl)
    |(go_at_call 73;(with_reducible refine HO.out.mono ?_);rintro e w2 ⟨V,rfl,hsV,hkV,hoV,hb2⟩;obtain ⟨pV,kV,rfl⟩:=hsV.slice)
    |((with_reducible refine zap (.tmp 5) (.tmp 11) w2.heap.size 25 25 _ [.slice pV (zar a.vars b.vars).length kV,.slice none 0 0] 2 (zag _ _ rfl) rfl ?_ ?_ ?_ ?_ zae rfl (zbz rfl rfl) ?_);rfl;rfl;rfl;rfl;intro wX oX vX))
   have bX:Below w2.heap.size w2 wX:=zaj (zau w2 _) oX (Nat.le_refl _) (by simp)
   have b2:=zab hb2 bX hb2.size
   have hs2:=hb2.size
   have hjX:=zaa vX
   have u2X:=(b2.block _ (zaa HU.out.1)).trans HU.out.1
   have u3X:=(b2.block _ (zaa HU.out.2.1)).trans HU.out.2.1
   have hVX:=hsV.stays (P':=fun g=>W1.heap.size≤g∧g < w2.heap.size) (w':=wX) fun g hg=>⟨⟨hg.1,hg.2⟩,bX.block g hg.2⟩
   have HVX:=Lib.hid (And.intro hVX hkV)
   have HB2:=Lib.hid b2
   clear hsV hkV hoV hb2 bX oX b2 HO u2 u3 hVX
   refine zeg (S:=fun W'=>W'.heap[W.heap.size]?=some (.cells #[.slice pA a.vars.length kA,.slice qA a.rows.length lA] 25)∧W'.heap[W.heap.size+1]?=some (.cells #[.slice pB b.vars.length kB,.slice qB b.rows.length lB] 25)∧W'.heap[w2.heap.size]?=some (.cells #[.slice pV (zar a.vars b.vars).length kV,.slice none 0 0] 25)) (fun i=>i == 11) (by kernel_rfl) ⟨u2X,u3X,vX⟩ (fun hh=>?_)
   have bq:Below wX.heap.size wX wX.drew:=(Below.refl _ _).drew
   clear u2X u3X vX
   generalize wX.drew=wD at*
   have HVS:Hid (∀ w',Below wX.heap.size wX w'→zah zax w' (Old w') (.slice pV (zar a.vars b.vars).length kV) (zar a.vars b.vars)):=Lib.hid fun w' h=>HVX.out.1.stays fun g hg=>⟨by show g < w'.heap.size;have:=hg.2;have:=h.size;omega,h.block g (by have:=hg.2;omega)⟩
   have HPA:Hid (∀ w',Below wX.heap.size wX w'→Calls Tryz.prog 72 #[.agg #[.slice pA a.vars.length kA,.slice qA a.rows.length lA],.slice pV (zar a.vars b.vars).length kV] w' (za0 rowE 43 w' (zbn a (zar a.vars b.vars)))):=Lib.hid fun w' h=>znf a _ _ _ _ w' (HTBA.out _ (zab HB2.out h HB2.out.size)) HTA.out.1 (HVS.out _ h) (by omega)
   have HPB:Hid (∀ w',Below wX.heap.size wX w'→Calls Tryz.prog 72 #[.agg #[.slice pB b.vars.length kB,.slice qB b.rows.length lB],.slice pV (zar a.vars b.vars).length kV] w' (za0 rowE 43 w' (zbn b (zar a.vars b.vars)))):=Lib.hid fun w' h=>znf b _ _ _ _ w' (HTBB.out _ (zab HB2.out h HB2.out.size)) HTB.out.1 (HVS.out _ h) (by omega)
   have hpa:(zbn a (zar a.vars b.vars)).length≤2097152:=by unfold zbn;rw [List.length_map];exact hlra
   have hpb:(zbn b (zar a.vars b.vars)).length≤2097152:=by unfold zbn;rw [List.length_map];exact hlrb
   have hh1:=hh.1
   have hh2:=hh.2.1
   have hh3:=hh.2.2
   clear hh
   refine za6 (i:=0) (v:=.agg #[.slice pA a.vars.length kA,.slice qA a.rows.length lA]) rfl (by kernel_rfl) (by kernel_rfl) (by kernel_rfl) rfl (by kernel_rfl) (by kernel_rfl) (fun _ _ _ h=>h) (yieldsIf_load_mid (by rfl) 25 (.tmp 2) rfl (W.heap.size) 0 rfl [.slice pA a.vars.length kA,.slice qA a.rows.length lA] _ (fun W h=>zb7 h.1 0 _ (fun j v hv=>by match j,hv with | 0,e | 1,e=>simpa using e | j+2,e=>simp at e)) Tryz.underlying25 rfl zae) (⟨hh1,hh2,hh3⟩) ?_
   try simp only [putS]
   refine zb3 (i:=1) (v:=.pointer (some ⟨w2.heap.size,0,none⟩)) rfl (by kernel_rfl) (by kernel_rfl) (by kernel_rfl) rfl (fun _ _ _ h=>h) (Or.inl ⟨by rfl,fun W _=>by go_simp⟩) (fun _=>⟨hh1,hh2,hh3⟩) ?_
   try simp only [putS]
   refine za6 (i:=4) (v:=.agg #[.slice pB b.vars.length kB,.slice qB b.rows.length lB]) rfl (by kernel_rfl) (by kernel_rfl) (by kernel_rfl) rfl (by kernel_rfl) (by kernel_rfl) (fun _ _ _ h=>h) (yieldsIf_load_mid (by rfl) 25 (.tmp 3) rfl (W.heap.size+1) 0 rfl [.slice pB b.vars.length kB,.slice qB b.rows.length lB] _ (fun W h=>zb7 h.2.1 0 _ (fun j v hv=>by match j,hv with | 0,e | 1,e=>simpa using e | j+2,e=>simp at e)) Tryz.underlying25 rfl zae) (⟨hh1,hh2,hh3⟩) ?_
   try simp only [putS]
   refine zb3 (i:=5) (v:=.pointer (some ⟨w2.heap.size,0,none⟩)) rfl (by kernel_rfl) (by kernel_rfl) (by kernel_rfl) rfl (fun _ _ _ h=>h) (Or.inl ⟨by rfl,fun W _=>by go_simp⟩) (fun _=>⟨hh1,hh2,hh3⟩) ?_
   try simp only [putS]
   refine za6 (i:=2) (v:=.slice pV (zar a.vars b.vars).length kV) rfl (by kernel_rfl) (by kernel_rfl) (by kernel_rfl) rfl (by kernel_rfl) (by kernel_rfl) (fun _ _ _ h=>h) (Or.inl ⟨by rfl,fun W' h=>by have c0:=zac h.2.2 0 rfl;go_simp⟩) (⟨hh1,hh2,hh3⟩) ?_
   try simp only [putS]
   refine za6 (i:=6) (v:=.slice pV (zar a.vars b.vars).length kV) rfl (by kernel_rfl) (by kernel_rfl) (by kernel_rfl) rfl (by kernel_rfl) (by kernel_rfl) (fun _ _ _ h=>h) (Or.inl ⟨by rfl,fun W' h=>by have c0:=zac h.2.2 0 rfl;go_simp⟩) (⟨hh1,hh2,hh3⟩) ?_
   try simp only [putS]
   refine zas (rs:=[3]) (by kernel_rfl) (by simp) ?_
   refine zal.cons rfl (fun K hK=>?_) zal.nil
   try rw [if_pos (by rfl)]
   go_simp
   refine (HPA.out _ bq).mono ?_
   rintro e0 w5 ⟨V5,xs5,rfl,ho5,hr5,hb5⟩
   obtain ⟨p5,k5,rfl⟩:=zaq ho5
   have H5:=Lib.hid (And.intro (za0.slice ho5 hr5) (zca ho5))
   replace hh1:=(hb5.block _ (zaa hh1)).trans hh1
   replace hh2:=(hb5.block _ (zaa hh2)).trans hh2
   replace hh3:=(hb5.block _ (zaa hh3)).trans hh3
   have bqs:=bq.size
   replace bq:=zab bq hb5 bq.size
   have h5s:=hb5.size
   clear ho5 hr5 hb5
   refine hK.out _ _ (⟨hh1,hh2,hh3⟩) (fun _=>?_)
   clear hK K
   try simp only [putS]
   refine zas (rs:=[7]) (by kernel_rfl) (by simp) ?_
   refine zal.cons rfl (fun K hK=>?_) zal.nil
   try rw [if_pos (by rfl)]
   go_simp
   refine (HPB.out _ bq).mono ?_
   rintro e0 w7 ⟨V7,xs7,rfl,ho7,hr7,hb7⟩
   obtain ⟨p7,k7,rfl⟩:=zaq ho7
   have H7:=Lib.hid (And.intro (za0.slice ho7 hr7) (And.intro (zca ho7) hb7))
   replace hh1:=(hb7.block _ (zaa hh1)).trans hh1
   replace hh2:=(hb7.block _ (zaa hh2)).trans hh2
   replace hh3:=(hb7.block _ (zaa hh3)).trans hh3
   replace bq:=zab bq hb7 bq.size
   have h7s:=hb7.size
   clear ho7 hr7 hb7
   refine hK.out _ _ (⟨hh1,hh2,hh3⟩) (fun _=>?_)
   clear hK K
   try simp only [putS]
   refine zas (rs:=[8]) (by kernel_rfl) (by simp) ?_
   refine zal.cons rfl (fun K hK=>?_) zal.nil
   try rw [if_pos (by rfl)]
   go_simp
   have y8:(w7.alloc (.cells #[.slice p5 (zbn a (zar a.vars b.vars)).length k5,.slice p7 (zbn b (zar a.vars b.vars)).length k7] 23)).heap[w7.heap.size]?=some (.cells #[.slice p5 (zbn a (zar a.vars b.vars)).length k5,.slice p7 (zbn b (zar a.vars b.vars)).length k7] 23):=zag _ _ rfl
   have bz:Below w7.heap.size w7 (w7.alloc (.cells #[.slice p5 (zbn a (zar a.vars b.vars)).length k5,.slice p7 (zbn b (zar a.vars b.vars)).length k7] 23)):=zau _ _
   have hz8:w7.heap.size < (w7.alloc (.cells #[.slice p5 (zbn a (zar a.vars b.vars)).length k5,.slice p7 (zbn b (zar a.vars b.vars)).length k7] 23)).heap.size:=by simp
   replace hh1:=(bz.block _ (zaa hh1)).trans hh1
   replace hh2:=(bz.block _ (zaa hh2)).trans hh2
   replace hh3:=(bz.block _ (zaa hh3)).trans hh3
   replace bq:=zab bq bz bq.size
   have l1:zah rowE (w7.alloc (.cells #[.slice p5 (zbn a (zar a.vars b.vars)).length k5,.slice p7 (zbn b (zar a.vars b.vars)).length k7] 23)) (fun g=>wD.heap.size≤g∧g < w7.heap.size) _ _:=H5.out.1.stays (fun g hg=>⟨⟨hg.1,Nat.lt_of_lt_of_le hg.2 h7s⟩,(bz.block g (Nat.lt_of_lt_of_le hg.2 h7s)).trans (H7.out.2.2.block g hg.2)⟩)
   have l2:zah rowE (w7.alloc (.cells #[.slice p5 (zbn a (zar a.vars b.vars)).length k5,.slice p7 (zbn b (zar a.vars b.vars)).length k7] 23)) (fun g=>wD.heap.size≤g∧g < w7.heap.size) _ _:=H7.out.1.stays (fun g hg=>⟨⟨Nat.le_trans h5s hg.1,hg.2⟩,bz.block g hg.2⟩)
   have HCC:=Lib.hid (zvj (fun g=>wD.heap.size≤g∧g < w7.heap.size) _ _ _ _ w7.heap.size (w7.alloc (.cells #[.slice p5 (zbn a (zar a.vars b.vars)).length k5,.slice p7 (zbn b (zar a.vars b.vars)).length k7] 23)) (fun g hg=>Nat.lt_trans hg.2 hz8) y8 l1 l2 H5.out.2 H7.out.2.1 hpa hpb)
   clear l1 l2 bz
   generalize w7.alloc (.cells #[.slice p5 (zbn a (zar a.vars b.vars)).length k5,.slice p7 (zbn b (zar a.vars b.vars)).length k7] 23)=w8 at*
   refine hK.out _ _ (⟨hh1,hh2,hh3⟩) (fun _=>?_)
   clear hK K
   try simp only [putS]
   refine zas (rs:=[9]) (by kernel_rfl) (by simp) ?_
   refine zal.cons rfl (fun K hK=>?_) zal.nil
   try rw [if_pos (by rfl)]
   go_simp
   refine HCC.out.mono ?_
   rintro e0 w9 ⟨V9,xs9,rfl,ho9,hr9,hb9⟩
   have hr9k:=zca ho9
   obtain ⟨p9,n9,k9,rfl⟩:∃ p n k,V9=.slice p n k:=by
    obtain ⟨a,b,c⟩:=zaq ho9
    exact ⟨a,_,b,c⟩
   replace hh1:=(hb9.block _ (zaa hh1)).trans hh1
   replace hh2:=(hb9.block _ (zaa hh2)).trans hh2
   replace hh3:=(hb9.block _ (zaa hh3)).trans hh3
   have bq8s:=bq.size
   replace bq:=zab bq hb9 bq.size
   have h9s:=hb9.size
   have H9:=Lib.hid (And.intro ho9 (And.intro hr9 (And.intro hr9k hb9)))
   clear hr9k hr9 hb9 ho9
   refine hK.out _ _ (⟨hh1,hh2,hh3⟩) (fun _=>?_)
   clear hK K
   try simp only [putS]
   refine zb3 (i:=10) (v:=.pointer (some ⟨w2.heap.size,1,none⟩)) rfl (by kernel_rfl) (by kernel_rfl) (by kernel_rfl) rfl (fun _ _ _ h=>h) (Or.inl ⟨by rfl,fun W _=>by go_simp⟩) (fun _=>⟨hh1,hh2,hh3⟩) ?_
   try simp only [putS]
   refine zas (rs:=[11]) (by kernel_rfl) (by simp) ?_
   refine zal.late rfl (by kernel_rfl) (fun K hK=>?_) zal.nil
   try rw [if_pos (by rfl)]
   have c0:=zac hh3 1 rfl
   have f0:=zdt hh3 1
   go_simp
   clear c0 f0
   refine hK.out _ _ ?_
   clear hK K
   try simp only [putS]
   refine zdo (by kernel_rfl) ?_ _
   have vZ:(w9.setCell ⟨w2.heap.size,1,none⟩ (.slice p9 n9 k9)).heap[w2.heap.size]?=some (.cells #[.slice pV (zar a.vars b.vars).length kV,.slice p9 n9 k9] 25):=zcd hh3 1 (.slice p9 n9 k9)
   have u4Z:(w9.setCell ⟨w2.heap.size,1,none⟩ (.slice p9 n9 k9)).heap[W.heap.size+1+1]?=some (.cells #[.slice none 0 0,.slice none 0 0] 25):=(Below.heap_setCell _ _ _ _ (by show _≠w2.heap.size;omega)).trans (((zab HB2.out bq HB2.out.size).block _ (zaa HU.out.2.2)).trans HU.out.2.2)
   have hset:∀ g,g≠w2.heap.size→(w9.setCell ⟨w2.heap.size,1,none⟩ (.slice p9 n9 k9)).heap[g]?=w9.heap[g]?:=fun g h=>Below.heap_setCell _ _ _ _ h
   have bWZ:Below W.heap.size W (w9.setCell ⟨w2.heap.size,1,none⟩ (.slice p9 n9 k9)):=((HB1.out.trans ((zab HB2.out bq HB2.out.size).mono HB1.out.size))).setCell (p:=⟨w2.heap.size,1,none⟩) (show W.heap.size≤w2.heap.size by omega) _
   have hzz:(w9.setCell ⟨w2.heap.size,1,none⟩ (.slice p9 n9 k9)).heap.size=w9.heap.size:=World.size_setCell _ _ _
   have HZZ:=Lib.hid (And.intro hset (And.intro hzz (And.intro bWZ bq)))
   clear hset hzz bWZ hh1 hh2 hh3 bq
   generalize w9.setCell ⟨w2.heap.size,1,none⟩ (.slice p9 n9 k9)=wZ at*
   go_wp2_with (first
    |((with_reducible refine zaf (.tmp 5) w2.heap.size 25 25 [.slice pV (zar a.vars b.vars).length kV,.slice p9 n9 k9] 2 _ vZ rfl Tryz.underlying25 rfl zae ?_ ?_ ?_ ?_);rfl;rfl;rfl)
    |((with_reducible refine zap (.tmp 4) (.tmp 27) (W.heap.size+1+1) 25 25 _ [.slice pV (zar a.vars b.vars).length kV,.slice p9 n9 k9] 2 u4Z rfl ?_ ?_ ?_ ?_ zae rfl (zbz rfl rfl) ?_);rfl;rfl;rfl;rfl;intro wY oY vY))
   obtain ⟨hset,hzz,bWZ,bq⟩:=HZZ.out
   have hys:=oY.size
   have hqs:=bq.size
   have h9o:=H9.out.1
   have rows9:zah rowE w9 (fun g=>wD.heap.size≤g∧g < w9.heap.size) _ _:=zbp h9o H9.out.2.1 (fun g hg=>⟨hg.1,by have:=hg.2;omega⟩) (fun g e=>⟨by have:=(h9o.lt g e).1;omega,(h9o.lt g e).2⟩)
   refine bodyPost_ret (results_cell_row (p:=4) (ty:=25) Tryz.results26 _ _ (W.heap.size+1+1) 25 _ (0,0) _ rfl vY Tryz.underlying25 rfl zae) rfl ⟨_,[_,_],rfl,rfl,?_,zaj bWZ oY (by omega) bWZ.size⟩
   rw [HJ2.out]
   refine ⟨_,_,rfl,HVX.out.1.stays (fun g hg=>?_),rows9.stays (fun g hg=>?_),HVX.out.2,H9.out.2.2.1,by show (zar a.vars b.vars).length≤2097152;omega,HTOT.out⟩
   ·have a1:=hg.1
    have a2:=hg.2
    exact ⟨⟨by omega,by omega⟩,(oY.block g (by omega) (by omega)).trans ((hset g (by omega)).trans (bq.block g (by omega)))⟩
   ·have a1:=hg.1
    have a2:=hg.2
    exact ⟨⟨by omega,by omega⟩,(oY.block g (by omega) (by omega)).trans (hset g (by omega))⟩
  ·rw [decide_eq_false hle] at HO
   have HJ2:Hid (jt=⟨[],[]⟩):=Lib.hid (by rw [HJT.out];unfold zaw;rw [if_neg (fun h=>hle h.2)])
   clear HJT HUN hp hle
   go_enter Tryz.func26,Tryz.ntmps26
   go_upto_region 1 with fail
   rw [← HW.out]
   go_upto_region 3 with (first
    |((with_reducible refine zaf (.tmp 2) W.heap.size 25 25 [.slice pA a.vars.length kA,.slice qA a.rows.length lA] 2 _ u2 rfl Tryz.underlying25 rfl zae ?_ ?_ ?_ ?_);rfl;rfl;rfl)
    |((with_reducible refine zaf (.tmp 3) (W.heap.size+1) 25 25 [.slice pB b.vars.length kB,.slice qB b.rows.length lB] 2 _ u3 rfl Tryz.underlying25 rfl zae ?_ ?_ ?_ ?_);rfl;rfl;rfl)
    |(go_at_call 73;(with_reducible refine HO.out.mono ?_);rintro e w2 ⟨V,rfl,hsV,hkV,hoV,hb2⟩;obtain ⟨pV,kV,rfl⟩:=hsV.slice)
    |((with_reducible refine zap (.tmp 5) (.tmp 11) w2.heap.size 25 25 _ [.slice pV (zar a.vars b.vars).length kV,.slice none 0 0] 2 (zag _ _ rfl) rfl ?_ ?_ ?_ ?_ zae rfl (zbz rfl rfl) ?_);rfl;rfl;rfl;rfl;intro wX oX vX))
   have bX:Below w2.heap.size w2 wX:=zaj (zau w2 _) oX (Nat.le_refl _) (by simp)
   have b2:=zab hb2 bX hb2.size
   have u4X:=(b2.block _ (zaa HU.out.2.2)).trans HU.out.2.2
   have hB1:=HB1.out
   have bWX:=hB1.trans (b2.mono hB1.size)
   clear hb2 bX b2 oX vX u2 u3 hB1
   go_wp2_with (first
    |((with_reducible refine zap (.tmp 4) (.tmp 15) (W.heap.size+1+1) 25 25 _ [.slice none 0 0,.slice none 0 0] 2 u4X rfl ?_ ?_ ?_ ?_ zae rfl (zbz rfl rfl) ?_);rfl;rfl;rfl;rfl;intro wY oY vY))
   rw [HJ2.out]
   exact bodyPost_ret (results_cell_row (p:=4) (ty:=25) Tryz.results26 _ _ (W.heap.size+1+1) 25 _ (0,0) _ rfl vY Tryz.underlying25 rfl zae) rfl ⟨_,[_,_],rfl,rfl,zey _ _,zaj bWX oY (by omega) bWX.size⟩
 ·have hov:Calls Tryz.prog 73 #[.agg #[.slice pA a.vars.length kA,.slice qA a.rows.length lA],.agg #[.slice pB b.vars.length kB,.slice qB b.rows.length lB]] W1 fun e w'=>e=.returned (.tuple #[.agg #[.slice none 0 0,.slice none 0 0],.bool false])∧Below W1.heap.size W1 w':=HOV.out.mono fun e w' h=>by
   unfold zfu at h
   rwa [if_neg hp] at h
  have HO:=Lib.hid hov
  have HJ2:Hid (jt=⟨[],[]⟩):=Lib.hid (by rw [HJT.out];unfold zaw;rw [if_neg (fun h=>hp h.1)])
  clear hov HOV HJT HUN hp
  go_enter Tryz.func26,Tryz.ntmps26
  go_upto_region 1 with fail
  rw [← HW.out]
  go_upto_region 3 with (first
   |((with_reducible refine zaf (.tmp 2) W.heap.size 25 25 [.slice pA a.vars.length kA,.slice qA a.rows.length lA] 2 _ u2 rfl Tryz.underlying25 rfl zae ?_ ?_ ?_ ?_);rfl;rfl;rfl)
   |((with_reducible refine zaf (.tmp 3) (W.heap.size+1) 25 25 [.slice pB b.vars.length kB,.slice qB b.rows.length lB] 2 _ u3 rfl Tryz.underlying25 rfl zae ?_ ?_ ?_ ?_);rfl;rfl;rfl)
   |(go_at_call 73;(with_reducible refine HO.out.mono ?_);rintro e w2 ⟨rfl,hb2⟩)
   |((with_reducible refine zap (.tmp 5) (.tmp 11) w2.heap.size 25 25 _ [.slice none 0 0,.slice none 0 0] 2 (zag _ _ rfl) rfl ?_ ?_ ?_ ?_ zae rfl (zbz rfl rfl) ?_);rfl;rfl;rfl;rfl;intro wX oX vX))
  have bX:Below w2.heap.size w2 wX:=zaj (zau w2 _) oX (Nat.le_refl _) (by simp)
  have b2:=zab hb2 bX hb2.size
  have u4X:=(b2.block _ (zaa HU.out.2.2)).trans HU.out.2.2
  have hB1:=HB1.out
  have bWX:=hB1.trans (b2.mono hB1.size)
  clear hb2 bX b2 oX vX u2 u3 hB1
  go_wp2_with (first
   |((with_reducible refine zap (.tmp 4) (.tmp 15) (W.heap.size+1+1) 25 25 _ [.slice none 0 0,.slice none 0 0] 2 u4X rfl ?_ ?_ ?_ ?_ zae rfl (zbz rfl rfl) ?_);rfl;rfl;rfl;rfl;intro wY oY vY))
  rw [HJ2.out]
  exact bodyPost_ret (results_cell_row (p:=4) (ty:=25) Tryz.results26 _ _ (W.heap.size+1+1) 25 _ (0,0) _ rfl vY Tryz.underlying25 rfl zae) rfl ⟨_,[_,_],rfl,rfl,zey _ _,zaj bWX oY (by omega) bWX.size⟩
end Go.Proofs.YteclpnfckjfibaaGreatDoor

/- PJ -/
namespace Go.Proofs.YteclpnfckjfibaaGreatDoor
open Go.RowKit
def zct (t:TabL) (vars:List ByteArray):TabL:=if (tabP t && zdg vars)=true then ⟨vars,zbn t vars⟩ else ⟨[],[]⟩
set_option maxHeartbeats 6400000 in
set_option maxRecDepth 20000 in
theorem zhg (t:TabL) (vars:List ByteArray) (V R v:Value) (W:World) (hG:Gd W) (ht:tabE.rel W (Old W) [V,R] t) (hv:zah zax W (Old W) v vars) (hcap:capK v) (hvn:vars.length≤2097152):Calls Tryz.prog 24 #[.agg #[V,R],v] W (zbr tabE (zct t vars) W):=by
 have ht0:=ht
 obtain ⟨V',R',e,hvt,hrt,hcv,hcr,hlv,hlr⟩:=ht
 cases e
 obtain ⟨pV,kV,rfl⟩:=hvt.slice
 obtain ⟨qR,lR,rfl⟩:=hrt.slice
 obtain ⟨pU,kU,rfl⟩:=hv.slice
 obtain ⟨W1,hW1⟩:∃ W1,W1=(W.alloc (.cells #[.slice pV t.vars.length kV,.slice qR t.rows.length lR] 25)).alloc (.cells #[.slice none 0 0,.slice none 0 0] 25):=⟨_,rfl⟩
 have b1:Below W.heap.size W W1:=by rw [hW1];exact zc1 _ _ _
 have s1:W.heap.size+1 < W1.heap.size:=by rw [hW1];simp
 have u2:W1.heap[W.heap.size]?=some (.cells #[.slice pV t.vars.length kV,.slice qR t.rows.length lR] 25):=by rw [hW1];exact zao _ (zag _ _ rfl)
 have u4:W1.heap[W.heap.size+1]?=some (.cells #[.slice none 0 0,.slice none 0 0] 25):=by rw [hW1];exact zag _ _ (by simp)
 have h1:=zcx t _ _ W1 (hG.below b1) (tabE.stays (zad b1) ht0)
 have h2:∀ W',Below W1.heap.size W1 W'→Calls Tryz.prog 57 #[.slice pU vars.length kU] W' fun e w'=>e=.returned (.bool (zdg vars))∧Below W'.heap.size W' w':=fun W' h=>by
  have h':=zab b1 h b1.size
  exact zpg _ vars W' (hG.below h') (hv.stays (zad h')) hcap hvn
 have HOV:Hid (∀ W',Below W1.heap.size W1 W'→Calls Tryz.prog 71 #[.slice pU vars.length kU] W' (za0 zax 9 W' vars)):=Lib.hid fun W' h=>zld vars _ W' (hv.stays (zad (zab b1 h b1.size))) hvn
 have HPI:Hid (tabP t=true→∀ W',Below W1.heap.size W1 W'→Calls Tryz.prog 72 #[.agg #[.slice pV t.vars.length kV,.slice qR t.rows.length lR],.slice pU vars.length kU] W' (za0 rowE 43 W' (zbn t vars))):=Lib.hid fun hp W' h=>by
  have h':=zab b1 h b1.size
  exact znf t vars _ _ _ W' (tabE.stays (zad h') ht0) (zbi hp).1 (hv.stays (zad h')) hvn
 have hpn:(zbn t vars).length=t.rows.length:=by unfold zbn;rw [List.length_map]
 unfold zct
 generalize hpt:tabP t=pt at*
 generalize hpv:zdg vars=pv at*
 have H1:=Lib.hid h1
 have H2:=Lib.hid h2
 have HW:=Lib.hid hW1
 have HB1:=Lib.hid b1
 have HU:=Lib.hid (And.intro u2 u4)
 have HPN:=Lib.hid hpn
 clear h1 h2 ht0 hvt hrt hcv hcr hv hcap hG hW1 b1 hpt hpv hpn
 cases pt with
 | false=>
   simp only [Bool.false_and,Bool.false_eq_true,if_false]
   go_enter Tryz.func24,Tryz.ntmps24
   go_upto_region 1 with fail
   rw [← HW.out]
   go_upto_region 2 with (first
    |((with_reducible refine zaf (.tmp 2) W.heap.size 25 25 [.slice pV t.vars.length kV,.slice qR t.rows.length lR] 2 _ u2 rfl Tryz.underlying25 rfl zae ?_ ?_ ?_ ?_);rfl;rfl;rfl)
    |(go_at_call 14;(with_reducible refine H1.out.mono ?_);rintro e w2 ⟨rfl,hb2⟩))
   have u42:=(hb2.block _ (zaa u4)).trans u4
   have B2:=Lib.hid (HB1.out.trans (hb2.mono HB1.out.size))
   clear hb2 u2 u4
   go_wp2_with (first
    |((with_reducible refine zap (.tmp 4) (.tmp 13) (W.heap.size+1) 25 25 _ [.slice none 0 0,.slice none 0 0] 2 u42 rfl ?_ ?_ ?_ ?_ zae rfl (zbz rfl rfl) ?_);rfl;rfl;rfl;rfl;intro wX oX vX))
   exact bodyPost_ret (results_cell_row (p:=4) (ty:=25) Tryz.results24 _ _ (W.heap.size+1) 25 _ (0,0) _ rfl vX Tryz.underlying25 rfl zae) rfl ⟨_,[_,_],rfl,rfl,zey _ _,zaj B2.out oX (by omega) B2.out.size⟩
 | true=>
   cases pv with
   | false=>
     simp only [Bool.and_false,Bool.false_eq_true,if_false]
     go_enter Tryz.func24,Tryz.ntmps24
     go_upto_region 1 with fail
     rw [← HW.out]
     go_upto_region 2 with (first
      |((with_reducible refine zaf (.tmp 2) W.heap.size 25 25 [.slice pV t.vars.length kV,.slice qR t.rows.length lR] 2 _ u2 rfl Tryz.underlying25 rfl zae ?_ ?_ ?_ ?_);rfl;rfl;rfl)
      |(go_at_call 14;(with_reducible refine H1.out.mono ?_);rintro e w2 ⟨rfl,hb2⟩)
      |(go_at_call 57;(with_reducible refine (H2.out _ hb2).mono ?_);rintro e w3 ⟨rfl,hb3⟩))
     have b3:=zab hb2 hb3 hb2.size
     have u42:=(b3.block _ (zaa u4)).trans u4
     have B2:=Lib.hid (HB1.out.trans (b3.mono HB1.out.size))
     clear hb2 hb3 b3 u2 u4
     go_wp2_with (first
      |((with_reducible refine zap (.tmp 4) (.tmp 13) (W.heap.size+1) 25 25 _ [.slice none 0 0,.slice none 0 0] 2 u42 rfl ?_ ?_ ?_ ?_ zae rfl (zbz rfl rfl) ?_);rfl;rfl;rfl;rfl;intro wX oX vX))
     exact bodyPost_ret (results_cell_row (p:=4) (ty:=25) Tryz.results24 _ _ (W.heap.size+1) 25 _ (0,0) _ rfl vX Tryz.underlying25 rfl zae) rfl ⟨_,[_,_],rfl,rfl,zey _ _,zaj B2.out oX (by omega) B2.out.size⟩
   | true=>
     simp only [Bool.and_true,if_true]
     go_enter Tryz.func24,Tryz.ntmps24
     go_upto_region 1 with fail
     rw [← HW.out]
     go_upto_region 3 with (first
      |((with_reducible refine zaf (.tmp 2) W.heap.size 25 25 [.slice pV t.vars.length kV,.slice qR t.rows.length lR] 2 _ u2 rfl Tryz.underlying25 rfl zae ?_ ?_ ?_ ?_);rfl;rfl;rfl)
      |(go_at_call 14;(with_reducible refine H1.out.mono ?_);rintro e w2 ⟨rfl,hb2⟩)
      |(go_at_call 57;(with_reducible refine (H2.out _ hb2).mono ?_);rintro e w3 ⟨rfl,hb3⟩))
     have b3:=zab hb2 hb3 hb2.size
     have u23:=(b3.block _ (zaa u2)).trans u2
     have B3:=Lib.hid b3
     clear hb2 hb3 b3 u2 u4
     refine wp_region_held_drew (S:=fun W'=>W'.heap[W.heap.size]?=some (.cells #[.slice pV t.vars.length kV,.slice qR t.rows.length lR] 25)) (by kernel_rfl) u23 (fun hh=>?_)
     have bq:=zab B3.out ((Below.refl _ _).drew (w:=w3)) B3.out.size
     have v4:w3.drew.heap[W.heap.size+1]?=some (.cells #[.slice none 0 0,.slice none 0 0] 25):=(bq.block _ (zaa HU.out.2)).trans HU.out.2
     clear u23
     generalize w3.drew=wD at*
     refine tg (i:=0) (.slice pU vars.length kU) rfl (hh) ?_
     refine tk (i:=2) (v:=.agg #[.slice pV t.vars.length kV,.slice qR t.rows.length lR]) rfl (yieldsIf_load_mid (by rfl) 25 (.tmp 2) rfl W.heap.size 0 rfl [.slice pV t.vars.length kV,.slice qR t.rows.length lR] _ (fun W h=>zb7 h 0 _ (fun j v hv=>by match j,hv with | 0,e | 1,e=>simpa using e | j+2,e=>simp at e)) Tryz.underlying25 rfl zae) (hh) ?_
     refine tg (i:=3) (.slice pU vars.length kU) rfl (hh) ?_
     refine tr 1 rfl (fun K hK=>?_)
     try rw [if_pos (by rfl)]
     go_simp
     refine (HOV.out _ bq).mono ?_
     rintro e0 w5 ⟨V5,xs5,rfl,ho5,hr5,hb5⟩
     obtain ⟨p5,k5,rfl⟩:=zaq ho5
     have H5:=Lib.hid (And.intro (za0.slice ho5 hr5) (zca ho5))
     have bqs:=bq.size
     replace hh:=(hb5.block _ (zaa hh)).trans hh
     replace v4:=(hb5.block _ (zaa v4)).trans v4
     replace bq:=zab bq hb5 bq.size
     have h5s:=hb5.size
     clear ho5 hr5 hb5
     refine hK.out _ _ (hh) (fun _=>?_)
     clear hK K
     try simp only [putS]
     refine tr 4 rfl (fun K hK=>?_)
     try rw [if_pos (by rfl)]
     go_simp
     refine (HPI.out (by simp) _ bq).mono ?_
     rintro e0 w6 ⟨V6,xs6,rfl,ho6,hr6,hb6⟩
     obtain ⟨p6,k6,rfl⟩:=zaq ho6
     have H6:=Lib.hid (And.intro (za0.slice ho6 hr6) (And.intro (zca ho6) hb6))
     replace hh:=(hb6.block _ (zaa hh)).trans hh
     replace v4:=(hb6.block _ (zaa v4)).trans v4
     have bq6:=bq.size
     replace bq:=zab bq hb6 bq.size
     have h6s:=hb6.size
     clear ho6 hr6 hb6
     refine hK.out _ _ (hh) (fun _=>?_)
     clear hK K
     try simp only [putS]
     refine tg (i:=5) (.agg #[.slice p5 vars.length k5,.slice p6 (zbn t vars).length k6]) rfl (hh) ?_
     refine tr 6 rfl (fun K hK=>?_)
     try rw [if_pos (by rfl)]
     refine zco (.tmp 4) (.tmp 19) (W.heap.size+1) 25 25 _ [.slice p5 vars.length k5,.slice p6 (zbn t vars).length k6] 2 v4 rfl rfl rfl rfl zae rfl (zbz rfl rfl) ?_
     intro w7 o7 v7
     replace hh:=(o7.block _ (zaa hh) (by omega)).trans hh
     refine hK.out _ _ (hh) (fun _=>?_)
     clear hK K
     try simp only [putS]
     refine wpAnyH_done (by kernel_rfl) ?_ _
     go_wp2_with fail
     have bw:=HB1.out.trans (bq.mono HB1.out.size)
     refine bodyPost_ret (results_cell_row (p:=4) (ty:=25) Tryz.results24 _ _ (W.heap.size+1) 25 _ (0,0) _ rfl v7 Tryz.underlying25 rfl zae) rfl ⟨_,[_,_],rfl,rfl,⟨_,_,rfl,H5.out.1.stays (fun g hg=>?_),H6.out.1.stays (fun g hg=>?_),H5.out.2,H6.out.2.1,hvn,by show (zbn t vars).length≤2097152;rw [HPN.out];exact hlr⟩,zaj bw o7 (by omega) bw.size⟩
     ·have a1:=hg.1
      have a2:=hg.2
      have a3:=o7.size
      exact ⟨⟨by omega,by omega⟩,(o7.block g (by omega) (by omega)).trans (H6.out.2.2.block g a2)⟩
     ·have a1:=hg.1
      have a2:=hg.2
      have a3:=o7.size
      exact ⟨⟨by omega,by omega⟩,o7.block g a2 (by omega)⟩
end Go.Proofs.YteclpnfckjfibaaGreatDoor

/- WD -/
namespace Go.Proofs.YteclpnfckjfibaaGreatDoor
open Go.RowKit
def zck (q:List (List Val)→List Val→Bool) (l:List (List Val)):Nat→List (List Val)
 | 0=>[]
 | j+1=>if q (l.take j) (l.getD j [])=true then zck q l j++[l.getD j []] else zck q l j
theorem zh3 (q:List (List Val)→List Val→Bool) (l:List (List Val)):(j:Nat)→(zck q l j).length≤j
 | 0=>Nat.le_refl _
 | j+1=>by
   have:=zh3 q l j
   unfold zck
   split
   ·rw [List.length_append]
    simp
    omega
   ·omega
def zyo (P:Nat→Prop) (mb:Nat) (w:World) (bs:List (List Val)) (e:Ending) (w':World):Prop:=∃ V xs,e=.returned V∧w'.ownsRow w.heap.size 43 1 V bs.length xs∧RowE rowE w' P xs bs∧Kept (fun i=>i=mb) w w'
structure AccK (P:Nat→Prop) (mb:Nat) (w:World) (bs:List (List Val)) (A:Value) (wr:World):Prop where
 own:∃ xs,wr.ownsRow w.heap.size 43 1 A bs.length xs∧RowE rowE wr P xs bs
 kept:Kept (fun i=>i=mb) w wr
theorem Kept.trans' {F:Nat→Prop} {a b c:World} (h:Kept F a b) (k:Kept F b c):Kept F a c:=h.trans k
theorem zah.rowAt70 {w:World} {P:Nat→Prop} {p:Option Addr} {n cap:Nat} {rows:List (List Val)} (h:zah rowE w P (.slice p n cap) rows) (i:Nat) (hi:i < rows.length):∃ g off u,p=some ⟨g,off,none⟩∧n=rows.length∧w.cell? ⟨g,off+i,none⟩=some u∧zah valE w P u rows[i]∧capK u∧rows[i].length≤2097152:=by
 obtain ⟨g,off,cap',c,e,_,hr,ha⟩:=h.at_ i hi
 injection e with e1 e2 e3
 obtain ⟨v,rfl,hs,hc,hl⟩:=hr
 refine ⟨g,off,v,e1,e2,?_,hs,hc,hl⟩
 have:=ha 0 _ rfl
 simpa [rowE] using this
set_option maxHeartbeats 3200000 in
set_option maxRecDepth 20000 in
theorem zyp (B:Value) (q:List (List Val)→List Val→Bool) (Inv:List (List Val)→World→Prop) (P:Nat→Prop) (mb:Nat) (l:List (List Val)) (v:Value) (w:World) (hmb:mb < w.heap.size) (hP:∀ g,P g→g < w.heap.size∧g≠mb) (h:zah rowE w P v l) (hn:l.length≤2097152) (hI:Inv [] w)
 (hS:∀ pre A C,Inv pre A→(∀ i,i < w.heap.size→C.heap[i]?=A.heap[i]?)→Inv pre C)
 (each:∀ j x,x=l.getD j []→j < l.length→∀ W u,Kept (fun i=>i=mb) w W→Inv (l.take j) W→rowE.rel W P [u] x→Calls Tryz.prog 68 #[u,B] W fun e w'=>e=.returned (.bool (q (l.take j) x))∧Kept (fun i=>i=mb) W w'∧Inv (l.take (j+1)) w'):
 Calls Tryz.prog 70 #[v,.func (.func 68) #[] #[B]] w (zyo P mb w (zck q l l.length)):=by
 obtain ⟨n,hln⟩:∃ n,n=l.length:=⟨_,rfl⟩
 obtain ⟨p,cap,rfl⟩:=h.slice
 rw [← hln] at hn
 obtain ⟨i0,hi,hz0,hz1,hz2⟩:=info_parts zd5
 have HL:=Lib.hid hln
 have HH:=Lib.hid h
 have HE:=Lib.hid each
 have HS:=Lib.hid hS
 have HP:=Lib.hid hP
 have HI0:=Lib.hid hI
 rw [← hln]
 clear h hln each hS hP hI
 go_enter Tryz.func70,Tryz.ntmps70
 go_wp2_with fail
 go_loopg [5,10] n (fun gg s5 s10 wr=>∃ j:Nat,j+gg=n∧s10=.int .i64 j∧Hid (AccK P mb w (zck q l j) s5 wr∧Inv (l.take j) wr))
 case atStart=>exact ⟨0,by omega,rfl,Lib.hid ⟨⟨⟨[],World.ownsRow_nil _ _ _ _,RowE.nil⟩,Kept.refl _ _⟩,HI0.out⟩⟩
 case round=>
  clear HI0
  obtain ⟨j,hjg,rfl,HA⟩:=hrel
  by_cases hlt:(j:Int) < n
  ·have hj1:j < l.length:=by have:=HL.out;omega
   have hkp:=HA.out.1.kept
   have hks:=hkp.size
   have stP:zd3 P P w wr:=fun x hx=>⟨hx,hkp.block x (HP.out x hx).1 (HP.out x hx).2⟩
   obtain ⟨g,off,u,e1,_,c0,hs0,hc0',hl0⟩:=(HH.out.stays stP).rowAt70 j hj1
   subst e1
   have hjl:=zh3 q l j
   obtain ⟨x,hx,hrl⟩:∃ x,x=l.getD j []∧rowE.rel wr P [u] x:=⟨_,rfl,by rw [List.getD_eq_getElem?_getD,List.getElem?_eq_getElem hj1];exact ⟨u,rfl,hs0,hc0',hl0⟩⟩
   have hcall:=HE.out j x hx hj1 wr u hkp HA.out.2 hrl
   obtain ⟨pu,nu,ku,rfl⟩:∃ p n k,u=.slice p n k:=by
    obtain ⟨a,b,c⟩:=hs0.slice
    exact ⟨a,_,b,c⟩
   obtain ⟨r,hr⟩:∃ r,r=q (l.take j) x:=⟨_,rfl⟩
   rw [← hr] at hcall
   have HC:=Lib.hid hcall
   have HR:=Lib.hid (And.intro hr hx)
   have HD:=Lib.hid (And.intro hrl hkp)
   clear hcall hr hrl hs0 hc0' hl0 stP hkp hx
   cases r with
   | false=>
     go_wp2_with (first
      |(go_at_call 68;(with_reducible refine HC.out.mono ?_);rintro e w3 ⟨rfl,hb3,hI3⟩))
     have HA2:Hid (AccK P mb w (zck q l (j+1)) _ w3∧Inv (l.take (j+1)) w3):=Lib.hid (by
      have e:zck q l (j+1)=zck q l j:=by
       show (if _ then _ else _)=_
       rw [← HR.out.2,← HR.out.1]
       rfl
      rw [e]
      obtain ⟨⟨xs,h1,h2⟩,h3⟩:=HA.out.1
      exact ⟨⟨⟨xs,zbl h1 (fun g e=>hb3.block g (h1.lt g e).2 (by have:=(h1.lt g e).1;omega)),h2.stays (fun x hx=>⟨hx,hb3.block x (Nat.lt_of_lt_of_le (HP.out x hx).1 h3.size) (HP.out x hx).2⟩)⟩,h3.trans' hb3⟩,hI3⟩)
     clear hb3 HA hI3
     go_roundg (gk - 1)
     case measure=>omega
     case rel=>exact ⟨j+1,by omega,by go_num,HA2⟩
   | true=>
     go_wp2_with (first
      |(go_at_call 68;(with_reducible refine HC.out.mono ?_);rintro e w3 ⟨rfl,hb3,hI3⟩
        obtain ⟨⟨xs,hown,hrow⟩,hkp⟩:=HA.out.1
        have hown3:=zbl hown (w':=w3) (fun g e=>hb3.block g (hown.lt g e).2 (by have:=(hown.lt g e).1;omega))
        have hs3:=hb3.size
        have HY:=Lib.hid (And.intro hown (And.intro hrow (And.intro hkp (And.intro hb3 (And.intro hI3 hown3)))))
        clear hown hrow hkp hb3 HA hI3)
      |(at_builtin;refine wpList_append_own_at _ rfl _ _ 79 rfl w.heap.size 43 i0 (.slice none 0 0) 1 24 Tryz.underlying79 hi hz0 hz1 hz2 rfl (by decide) _ _ _ rfl (hown3.alloc _) ⟨w3.heap.size,0,none⟩ 1 1 [.slice pu nu ku] rfl rfl (zb6 _ _ _) (by simp [Value.oneCell']) ?_ ?_ ?_ ?_))
     all_goals (try (first |(unfold maxLen;omega) | omega |(simp;omega)))
     intro v' w5 hown' hgrow _ hloc
     have acc:AccK P mb w (zck q l (j+1)) v' w5∧Inv (l.take (j+1)) w5:=by
      have e:zck q l (j+1)=zck q l j++[x]:=by
       show (if _ then _ else _)=_
       rw [← HR.out.2,← HR.out.1]
       rfl
      obtain ⟨h1,h2,h3,h4,h5,h6⟩:=HY.out
      have k5:Kept (fun i=>i=mb) w w5:=(((h3.trans' h4).alloc _).grown hgrow (fun i e h=>absurd (h6.lt i e).1 (by omega)))
      have pst:∀ g,P g→w5.heap[g]?=w.heap[g]?:=fun g hg=>k5.block g (HP.out g hg).1 (HP.out g hg).2
      have pwr:∀ g,P g→wr.heap[g]?=w.heap[g]?:=fun g hg=>h3.block g (HP.out g hg).1 (HP.out g hg).2
      refine ⟨⟨⟨xs++[.slice pu nu ku],?_,?_⟩,k5⟩,HS.out _ w3 w5 h5 (fun i hi=>?_)⟩
      ·rw [e,List.length_append]
       exact hown'
      ·rw [e]
       exact RowE.append _ [x] (h2.stays (fun g hg=>⟨hg,(pst g hg).trans (pwr g hg).symm⟩) _) (RowE.single (rowE.stays (fun g hg=>⟨hg,(pst g hg).trans (pwr g hg).symm⟩) HD.out.1))
      ·exact (hgrow.block i (by simp;omega) (fun e=>by have:=(h6.lt i e.symm).1;omega)).trans (Below.heap_alloc _ _ _ (by omega))
     have ACC:=Lib.hid acc
     clear acc hown' hgrow hloc hown3 HY
     go_wp2_with fail
     go_roundg (gk - 1)
     case measure=>omega
     case rel=>exact ⟨j+1,by omega,by go_num,ACC⟩
  ·have e:j=n:=by omega
   have hA:=HA.out.1
   rw [e] at hA
   obtain ⟨⟨xs,hown,hrow⟩,hkp⟩:=hA
   have HX:=Lib.hid (And.intro hown (And.intro hrow hkp))
   clear hown hrow hkp HA
   go_wp2_with fail
   go_ret
   exact ⟨_,xs,rfl,HX.out.1,HX.out.2.1,HX.out.2.2⟩
end Go.Proofs.YteclpnfckjfibaaGreatDoor

/- DS -/
namespace Go.Proofs.YteclpnfckjfibaaGreatDoor
open Go.RowKit
def newQ (pre:List (List Val)) (x:List Val):Bool:=!(pre.any fun y=>decide (zan y=zan x))
def SeenD (sb mb:Nat) (pre:List (List Val)) (W:World):Prop:=
 W.heap[sb]?=some (.cells #[.map (some mb)] 75)∧∃ n f,n≤pre.length∧HMap W Tryz.prog 9 mb n f∧∀ x:List UInt8,(f (.string x)).isSome=(pre.any fun y=>decide (zan y=x))∧∀ v,f (.string x)=some v→v=.agg #[]
theorem zwo {f:Lit→Option Value} {pre:List (List Val)} {x:List Val} (h:∀ k:List UInt8,(f (.string k)).isSome=(pre.any fun y=>decide (zan y=k))∧∀ v,f (.string k)=some v→v=.agg #[]):
 ∀ k:List UInt8,(updH f (.string (zan x)) (.agg #[]) (.string k)).isSome=((pre++[x]).any fun y=>decide (zan y=k))∧∀ v,updH f (.string (zan x)) (.agg #[]) (.string k)=some v→v=.agg #[]:=by
 intro k
 by_cases e:zan x=k
 ·subst e
  rw [zea]
  refine ⟨?_,fun v hv=>by cases hv;rfl⟩
  rw [List.any_append]
  simp
 ·have ne:Lit.string k≠Lit.string (zan x):=fun q=>e (zfq _ _ q).symm
  rw [zc7 ne]
  refine ⟨?_,(h k).2⟩
  rw [(h k).1,List.any_append]
  simp [e]
set_option maxHeartbeats 3200000 in
set_option maxRecDepth 20000 in
theorem newAt (sb mb:Nat) (pre:List (List Val)) (x:List Val) (u:Value) (W:World) (hG:Gd W) (hs:SeenD sb mb pre W) (hsb:sb≠mb) (h:zah valE W (Old W) u x) (hm:∀ v∈x,mayP v 0=true) (hw:13*wAll x≤700000000) (hn:x.length≤2097152) (hpn:pre.length≤2097152):
 Calls Tryz.prog 68 #[u,.pointer (some ⟨sb,0,none⟩)] W fun e w'=>e=.returned (.bool (newQ pre x))∧Kept (fun i=>i=mb) W w'∧SeenD sb mb (pre++[x]) w':=by
 have HE:=Lib.hid (zfp x u W hG h hm hw hn)
 obtain ⟨p,k,rfl⟩:=h.slice
 obtain ⟨hsc,n,f,hnl,hmm,hf⟩:=hs
 have hkl:(zan x).length≤900000000:=by
  have:=zc5 x
  omega
 have hkey:=keyB hkl
 have hlit:WideAt.IsKeyLit (.string (zan x)):=trivial
 have hsn:=zwo (x:=x) hf
 obtain ⟨r,hr⟩:∃ r,r=(f (.string (zan x))).isSome:=⟨_,rfl⟩
 have hq:newQ pre x=!r:=by unfold newQ;rw [hr,(hf (zan x)).1]
 rw [hq]
 have hv:(f (.string (zan x))).getD (.agg #[])=.agg #[]:=by
  cases e:f (.string (zan x)) with
  | none=>rfl
  | some v=>exact (hf (zan x)).2 v e
 have HSN:=Lib.hid (And.intro hsn hnl)
 clear h hG hm hw hf hsn hq
 go_enter Tryz.func68,Tryz.ntmps68
 go_upto_region 2 with (first
  |(go_at_call 69;(with_reducible refine HE.out.mono ?_);rintro e w1 ⟨rfl,hb1⟩))
 have hm1:HMap w1 Tryz.prog 9 mb n f:=hmm.keep (hb1.block _ hmm.lt)
 have hs1:=(hb1.block _ (zaa hsc)).trans hsc
 have c1:=zac hs1 0 rfl
 have HB:=Lib.hid hb1
 clear hmm hb1 hsc
 generalize hek:zan x=ek at*
 go_upto_region 3 with (first
  |((with_reducible refine zgb ?_ (.tmp 10) (.tmp 11) 75 ?_ 9 77 (Go.Maps.string_keyed Tryz.underlying9) Tryz.underlying75 (Tryz.zeroValue77 _) mb n ?_ hm1 (.string (bsB ek)) (.string ek) ?_ hkey hlit ?_);rfl;rfl;rfl;rfl;rw [hv,← hr]))
 have bz:Below w1.heap.size w1 (w1.alloc (.cells #[] 77)):=zau _ _
 generalize w1.alloc (.cells #[] 77)=w2 at*
 have hm2:HMap w2 Tryz.prog 9 mb n f:=hm1.keep (bz.block _ hm1.lt)
 have hs2:=(bz.block _ (zaa hs1)).trans hs1
 have c2:=zac hs2 0 rfl
 have hb2:=zab HB.out bz HB.out.size
 have hbnd:n < maxLen:=by unfold maxLen;omega
 clear c1 hs1 hm1 bz hek
 go_wp2_with (first
  |((with_reducible refine zdj ?_ (.tmp 15) (.tmp 16) (.tmp 17) 75 ?_ 9 77 (Go.Maps.string_keyed Tryz.underlying9) Tryz.underlying75 mb n ?_ hm2 hbnd (.string (bsB ek)) (.agg #[]) (.string ek) ?_ ?_ hkey hlit ?_);rfl;rfl;rfl;rfl;rfl;intro w3 hm3 hg3))
 go_ret
 have k2:Kept (fun i=>i=mb) W w2:=(Kept.refl _ W).below hb2
 exact ⟨by subst hr;cases f (.string ek) <;> rfl,k2.grown hg3 (fun i e _=>(Option.some.inj e).symm),(hg3.block sb (zaa hs2) (fun e=>hsb (Option.some.inj e))).trans hs2,n+1,_,by rw [List.length_append];simp;omega,hm3,HSN.out.1⟩
end Go.Proofs.YteclpnfckjfibaaGreatDoor
