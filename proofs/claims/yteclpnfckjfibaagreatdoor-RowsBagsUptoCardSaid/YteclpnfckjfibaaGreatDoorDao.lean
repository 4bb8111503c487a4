/- Texts of one kind, one behind the other: each says ahead of itself what it shows. -/
import Derived.Test.YteclpnfckjfibaaGreatDoorDam
import Derived.Test.YteclpnfckjfibaaGreatDoorDah
import Derived.Test.YteclpnfckjfibaaGreatDoorDaf
import Derived.Test.YteclpnfckjfibaaGreatDoorDak
namespace Go.Proofs.YteclpnfckjfibaaGreatDoor
open Go.RowKit
set_option maxHeartbeats 12800000
set_option maxRecDepth 20000
def zb9 (a b:TabL):TabL:=
 if (tabP a && tabP b)=true∧(za0 a.vars b.vars).length≤64 then ⟨za0 a.vars b.vars,zcg a (za0 a.vars b.vars)++zcg b (za0 a.vars b.vars)⟩ else ⟨[],[]⟩
theorem zth (a b:TabL) (VA RA VB RB:Value) (W:World) (hG:Gd W) (ha:tabE.rel W (Old W) [VA,RA] a) (hb:tabE.rel W (Old W) [VB,RB] b) (hun:(zb9 a b).rows.length≤2097152):Calls Tryz.prog 26 #[.agg #[VA,RA],.agg #[VB,RB]] W (zbs tabE (zb9 a b) W):=by
 have ha0:=ha
 have hb0:=hb
 obtain ⟨V',R',e,hva,hra,hcva,hcra,hlva,hlra⟩:=ha
 cases e
 obtain ⟨V',R',e,hvb,hrb,hcvb,hcrb,hlvb,hlrb⟩:=hb
 cases e
 obtain ⟨pA,kA,rfl⟩:=hva.slice
 obtain ⟨qA,lA,rfl⟩:=hra.slice
 obtain ⟨pB,kB,rfl⟩:=hvb.slice
 obtain ⟨qB,lB,rfl⟩:=hrb.slice
 obtain ⟨W1,hW1⟩:∃ W1,W1=((W.alloc (.cells #[.slice pA a.vars.length kA,.slice qA a.rows.length lA] 25)).alloc (.cells #[.slice pB b.vars.length kB,.slice qB b.rows.length lB] 25)).alloc (.cells #[.slice none 0 0,.slice none 0 0] 25):=⟨_,rfl⟩
 have b1:Below W.heap.size W W1:=by rw [hW1];exact (zcr _ _ _).alloc (by simp;omega) _
 have s1:W.heap.size+1+1 < W1.heap.size:=by rw [hW1];simp
 have u2:W1.heap[W.heap.size]?=some (.cells #[.slice pA a.vars.length kA,.slice qA a.rows.length lA] 25):=by rw [hW1];exact zaq _ (zaq _ (zaf _ _ rfl))
 have u3:W1.heap[W.heap.size+1]?=some (.cells #[.slice pB b.vars.length kB,.slice qB b.rows.length lB] 25):=by rw [hW1];exact zaq _ (zaf _ _ (by simp))
 have u4:W1.heap[W.heap.size+1+1]?=some (.cells #[.slice none 0 0,.slice none 0 0] 25):=by rw [hW1];exact zaf _ _ (by simp)
 have HOV:=Lib.hid (z33 a b _ _ _ _ W1 (hG.below b1) (tabE.stays (zae b1) ha0) (tabE.stays (zae b1) hb0))
 have HTBA:Hid (∀ W',Below W1.heap.size W1 W'→tabE.rel W' (Old W') [.slice pA a.vars.length kA,.slice qA a.rows.length lA] a):=Lib.hid fun W' h=>tabE.stays (zae (zab b1 h b1.size)) ha0
 have HTBB:Hid (∀ W',Below W1.heap.size W1 W'→tabE.rel W' (Old W') [.slice pB b.vars.length kB,.slice qB b.rows.length lB] b):=Lib.hid fun W' h=>tabE.stays (zae (zab b1 h b1.size)) hb0
 have HW:=Lib.hid hW1
 have HB1:=Lib.hid b1
 have HU:=Lib.hid (And.intro u2 (And.intro u3 u4))
 have HUN:=Lib.hid hun
 obtain ⟨jt,hjt⟩:∃ jt,jt=zb9 a b:=⟨_,rfl⟩
 rw [← hjt]
 have HJT:=Lib.hid hjt
 clear ha0 hb0 hva hra hcva hcra hvb hrb hcvb hcrb hG hW1 b1 u4 hun hjt
 by_cases hp:(tabP a && tabP b)=true
 ·have hov:Calls Tryz.prog 73 #[.agg #[.slice pA a.vars.length kA,.slice qA a.rows.length lA],.agg #[.slice pB b.vars.length kB,.slice qB b.rows.length lB]] W1 fun e w'=>∃ V,e=.returned (.tuple #[.agg #[V,.slice none 0 0],.bool (decide ((za0 a.vars b.vars).length≤64))])∧zai zaz w' (New W1 w') V (za0 a.vars b.vars)∧capK V∧V.oneCell'=true∧Below W1.heap.size W1 w':=HOV.out.mono fun e w' h=>by
   unfold zim at h
   rwa [if_pos hp] at h
  have HO:=Lib.hid hov
  clear hov HOV
  by_cases hle:(za0 a.vars b.vars).length≤64
  ·rw [decide_eq_true hle] at HO
   have HJ2:Hid (jt=⟨za0 a.vars b.vars,zcg a (za0 a.vars b.vars)++zcg b (za0 a.vars b.vars)⟩):=Lib.hid (by rw [HJT.out];unfold zb9;rw [if_pos ⟨hp,hle⟩])
   have HTOT:Hid ((zcg a (za0 a.vars b.vars)++zcg b (za0 a.vars b.vars)).length≤2097152):=Lib.hid (by
    have h:=HUN.out
    rw [← HJT.out,HJ2.out] at h
    exact h)
   have HTA:=Lib.hid (zbk (t:=a) (by simp only [Bool.and_eq_true] at hp;exact hp.1))
   have HTB:=Lib.hid (zbk (t:=b) (by simp only [Bool.and_eq_true] at hp;exact hp.2))
   go_enter Tryz.func26,Tryz.ntmps26
   go_upto_region 1 with fail
   rw [← HW.out]
   go_upto_region 4 with (first
    |((with_reducible refine zah (.tmp 2) W.heap.size 25 25 [.slice pA a.vars.length kA,.slice qA a.rows.length lA] 2 _ u2 rfl Tryz.underlying25 rfl zag ?_ ?_ ?_ ?_);rfl;rfl;rfl)
    |((with_reducible refine zah (.tmp 3) (W.heap.size+1) 25 25 [.slice pB b.vars.length kB,.slice qB b.rows.length lB] 2 _ u3 rfl Tryz.underlying25 rfl zag ?_ ?_ ?_ ?_);rfl;rfl;rfl)
    |(go_at_call 73;(with_reducible refine HO.out.mono ?_);rintro e w2 ⟨V,rfl,hsV,hkV,hoV,hb2⟩;obtain ⟨pV,kV,rfl⟩:=hsV.slice)
    |((with_reducible refine zar (.tmp 5) (.tmp 11) w2.heap.size 25 25 _ [.slice pV (za0 a.vars b.vars).length kV,.slice none 0 0] 2 (zaf _ _ rfl) rfl ?_ ?_ ?_ ?_ zag rfl (zbv rfl rfl) ?_);rfl;rfl;rfl;rfl;intro wX oX vX))
   have bX:Below w2.heap.size w2 wX:=zam (zav w2 _) oX (Nat.le_refl _) (by simp)
   have b2:=zab hb2 bX hb2.size
   have hs2:=hb2.size
   have hjX:=zaa vX
   have u2X:=(b2.block _ (zaa HU.out.1)).trans HU.out.1
   have u3X:=(b2.block _ (zaa HU.out.2.1)).trans HU.out.2.1
   have hVX:=hsV.stays (P':=fun g=>W1.heap.size≤g∧g < w2.heap.size) (w':=wX) fun g hg=>⟨⟨hg.1,hg.2⟩,bX.block g hg.2⟩
   have HVX:=Lib.hid (And.intro hVX hkV)
   have HB2:=Lib.hid b2
   clear hsV hkV hoV hb2 bX oX b2 HO u2 u3 hVX
   refine zew (S:=fun W'=>W'.heap[W.heap.size]?=some (.cells #[.slice pA a.vars.length kA,.slice qA a.rows.length lA] 25)∧W'.heap[W.heap.size+1]?=some (.cells #[.slice pB b.vars.length kB,.slice qB b.rows.length lB] 25)∧W'.heap[w2.heap.size]?=some (.cells #[.slice pV (za0 a.vars b.vars).length kV,.slice none 0 0] 25)) (fun i=>i == 11) (by kernel_rfl) ⟨u2X,u3X,vX⟩ (fun hh=>?_)
   have bq:Below wX.heap.size wX wX.drew:=(Below.refl _ _).drew
   clear u2X u3X vX
   generalize wX.drew=wD at*
   have HVS:Hid (∀ w',Below wX.heap.size wX w'→zai zaz w' (Old w') (.slice pV (za0 a.vars b.vars).length kV) (za0 a.vars b.vars)):=Lib.hid fun w' h=>HVX.out.1.stays fun g hg=>⟨by show g < w'.heap.size;have:=hg.2;have:=h.size;omega,h.block g (by have:=hg.2;omega)⟩
   have HPA:Hid (∀ w',Below wX.heap.size wX w'→Calls Tryz.prog 72 #[.agg #[.slice pA a.vars.length kA,.slice qA a.rows.length lA],.slice pV (za0 a.vars b.vars).length kV] w' (za1 rowE 43 w' (zcg a (za0 a.vars b.vars)))):=Lib.hid fun w' h=>zqc a _ _ _ _ w' (HTBA.out _ (zab HB2.out h HB2.out.size)) HTA.out.1 (HVS.out _ h) (by omega)
   have HPB:Hid (∀ w',Below wX.heap.size wX w'→Calls Tryz.prog 72 #[.agg #[.slice pB b.vars.length kB,.slice qB b.rows.length lB],.slice pV (za0 a.vars b.vars).length kV] w' (za1 rowE 43 w' (zcg b (za0 a.vars b.vars)))):=Lib.hid fun w' h=>zqc b _ _ _ _ w' (HTBB.out _ (zab HB2.out h HB2.out.size)) HTB.out.1 (HVS.out _ h) (by omega)
   have hpa:(zcg a (za0 a.vars b.vars)).length≤2097152:=by unfold zcg;rw [List.length_map];exact hlra
   have hpb:(zcg b (za0 a.vars b.vars)).length≤2097152:=by unfold zcg;rw [List.length_map];exact hlrb
   have hh1:=hh.1
   have hh2:=hh.2.1
   have hh3:=hh.2.2
   clear hh
   refine za9 (i:=0) (v:=.agg #[.slice pA a.vars.length kA,.slice qA a.rows.length lA]) rfl (by kernel_rfl) (by kernel_rfl) (by kernel_rfl) rfl (by kernel_rfl) (by kernel_rfl) (fun _ _ _ h=>h) (yieldsIf_load_mid (by rfl) 25 (.tmp 2) rfl (W.heap.size) 0 rfl [.slice pA a.vars.length kA,.slice qA a.rows.length lA] _ (fun W h=>zce h.1 0 _ (fun j v hv=>by match j,hv with | 0,e | 1,e=>simpa using e | j+2,e=>simp at e)) Tryz.underlying25 rfl zag) (⟨hh1,hh2,hh3⟩) ?_
   try simp only [putS]
   refine zb6 (i:=1) (v:=.pointer (some ⟨w2.heap.size,0,none⟩)) rfl (by kernel_rfl) (by kernel_rfl) (by kernel_rfl) rfl (fun _ _ _ h=>h) (Or.inl ⟨by rfl,fun W _=>by go_simp⟩) (fun _=>⟨hh1,hh2,hh3⟩) ?_
   try simp only [putS]
   refine za9 (i:=4) (v:=.agg #[.slice pB b.vars.length kB,.slice qB b.rows.length lB]) rfl (by kernel_rfl) (by kernel_rfl) (by kernel_rfl) rfl (by kernel_rfl) (by kernel_rfl) (fun _ _ _ h=>h) (yieldsIf_load_mid (by rfl) 25 (.tmp 3) rfl (W.heap.size+1) 0 rfl [.slice pB b.vars.length kB,.slice qB b.rows.length lB] _ (fun W h=>zce h.2.1 0 _ (fun j v hv=>by match j,hv with | 0,e | 1,e=>simpa using e | j+2,e=>simp at e)) Tryz.underlying25 rfl zag) (⟨hh1,hh2,hh3⟩) ?_
   try simp only [putS]
   refine zb6 (i:=5) (v:=.pointer (some ⟨w2.heap.size,0,none⟩)) rfl (by kernel_rfl) (by kernel_rfl) (by kernel_rfl) rfl (fun _ _ _ h=>h) (Or.inl ⟨by rfl,fun W _=>by go_simp⟩) (fun _=>⟨hh1,hh2,hh3⟩) ?_
   try simp only [putS]
   refine za9 (i:=2) (v:=.slice pV (za0 a.vars b.vars).length kV) rfl (by kernel_rfl) (by kernel_rfl) (by kernel_rfl) rfl (by kernel_rfl) (by kernel_rfl) (fun _ _ _ h=>h) (Or.inl ⟨by rfl,fun W' h=>by have c0:=zad h.2.2 0 rfl;go_simp⟩) (⟨hh1,hh2,hh3⟩) ?_
   try simp only [putS]
   refine za9 (i:=6) (v:=.slice pV (za0 a.vars b.vars).length kV) rfl (by kernel_rfl) (by kernel_rfl) (by kernel_rfl) rfl (by kernel_rfl) (by kernel_rfl) (fun _ _ _ h=>h) (Or.inl ⟨by rfl,fun W' h=>by have c0:=zad h.2.2 0 rfl;go_simp⟩) (⟨hh1,hh2,hh3⟩) ?_
   try simp only [putS]
   refine zaw (rs:=[3]) (by kernel_rfl) (by simp) ?_
   refine zan.cons rfl (fun K hK=>?_) zan.nil
   try rw [if_pos (by rfl)]
   go_simp
   refine (HPA.out _ bq).mono ?_
   rintro e0 w5 ⟨V5,xs5,rfl,ho5,hr5,hb5⟩
   obtain ⟨p5,k5,rfl⟩:=zat ho5
   have H5:=Lib.hid (And.intro (za1.slice ho5 hr5) (zb0 ho5))
   replace hh1:=(hb5.block _ (zaa hh1)).trans hh1
   replace hh2:=(hb5.block _ (zaa hh2)).trans hh2
   replace hh3:=(hb5.block _ (zaa hh3)).trans hh3
   have bqs:=bq.size
   replace bq:=zab bq hb5 bq.size
   have h5s:=hb5.size
   clear ho5 hr5 hb5
   refine hK.out _ _ (⟨hh1,hh2,hh3⟩) (fun _=>?_)
   clear hK K
   try simp only [putS]
   refine zaw (rs:=[7]) (by kernel_rfl) (by simp) ?_
   refine zan.cons rfl (fun K hK=>?_) zan.nil
   try rw [if_pos (by rfl)]
   go_simp
   refine (HPB.out _ bq).mono ?_
   rintro e0 w7 ⟨V7,xs7,rfl,ho7,hr7,hb7⟩
   obtain ⟨p7,k7,rfl⟩:=zat ho7
   have H7:=Lib.hid (And.intro (za1.slice ho7 hr7) (And.intro (zb0 ho7) hb7))
   replace hh1:=(hb7.block _ (zaa hh1)).trans hh1
   replace hh2:=(hb7.block _ (zaa hh2)).trans hh2
   replace hh3:=(hb7.block _ (zaa hh3)).trans hh3
   replace bq:=zab bq hb7 bq.size
   have h7s:=hb7.size
   clear ho7 hr7 hb7
   refine hK.out _ _ (⟨hh1,hh2,hh3⟩) (fun _=>?_)
   clear hK K
   try simp only [putS]
   refine zaw (rs:=[8]) (by kernel_rfl) (by simp) ?_
   refine zan.cons rfl (fun K hK=>?_) zan.nil
   try rw [if_pos (by rfl)]
   go_simp
   have y8:(w7.alloc (.cells #[.slice p5 (zcg a (za0 a.vars b.vars)).length k5,.slice p7 (zcg b (za0 a.vars b.vars)).length k7] 23)).heap[w7.heap.size]?=some (.cells #[.slice p5 (zcg a (za0 a.vars b.vars)).length k5,.slice p7 (zcg b (za0 a.vars b.vars)).length k7] 23):=zaf _ _ rfl
   have bz:Below w7.heap.size w7 (w7.alloc (.cells #[.slice p5 (zcg a (za0 a.vars b.vars)).length k5,.slice p7 (zcg b (za0 a.vars b.vars)).length k7] 23)):=zav _ _
   have hz8:w7.heap.size < (w7.alloc (.cells #[.slice p5 (zcg a (za0 a.vars b.vars)).length k5,.slice p7 (zcg b (za0 a.vars b.vars)).length k7] 23)).heap.size:=by simp
   replace hh1:=(bz.block _ (zaa hh1)).trans hh1
   replace hh2:=(bz.block _ (zaa hh2)).trans hh2
   replace hh3:=(bz.block _ (zaa hh3)).trans hh3
   replace bq:=zab bq bz bq.size
   have l1:zai rowE (w7.alloc (.cells #[.slice p5 (zcg a (za0 a.vars b.vars)).length k5,.slice p7 (zcg b (za0 a.vars b.vars)).length k7] 23)) (fun g=>wD.heap.size≤g∧g < w7.heap.size) _ _:=H5.out.1.stays (fun g hg=>⟨⟨hg.1,Nat.lt_of_lt_of_le hg.2 h7s⟩,(bz.block g (Nat.lt_of_lt_of_le hg.2 h7s)).trans (H7.out.2.2.block g hg.2)⟩)
   have l2:zai rowE (w7.alloc (.cells #[.slice p5 (zcg a (za0 a.vars b.vars)).length k5,.slice p7 (zcg b (za0 a.vars b.vars)).length k7] 23)) (fun g=>wD.heap.size≤g∧g < w7.heap.size) _ _:=H7.out.1.stays (fun g hg=>⟨⟨Nat.le_trans h5s hg.1,hg.2⟩,bz.block g hg.2⟩)
   have HCC:=Lib.hid (zyj (fun g=>wD.heap.size≤g∧g < w7.heap.size) _ _ _ _ w7.heap.size (w7.alloc (.cells #[.slice p5 (zcg a (za0 a.vars b.vars)).length k5,.slice p7 (zcg b (za0 a.vars b.vars)).length k7] 23)) (fun g hg=>Nat.lt_trans hg.2 hz8) y8 l1 l2 H5.out.2 H7.out.2.1 hpa hpb)
   clear l1 l2 bz
   generalize w7.alloc (.cells #[.slice p5 (zcg a (za0 a.vars b.vars)).length k5,.slice p7 (zcg b (za0 a.vars b.vars)).length k7] 23)=w8 at*
   refine hK.out _ _ (⟨hh1,hh2,hh3⟩) (fun _=>?_)
   clear hK K
   try simp only [putS]
   refine zaw (rs:=[9]) (by kernel_rfl) (by simp) ?_
   refine zan.cons rfl (fun K hK=>?_) zan.nil
   try rw [if_pos (by rfl)]
   go_simp
   refine HCC.out.mono ?_
   rintro e0 w9 ⟨V9,xs9,rfl,ho9,hr9,hb9⟩
   have hr9k:=zb0 ho9
   obtain ⟨p9,n9,k9,rfl⟩:∃ p n k,V9=.slice p n k:=by
    obtain ⟨a,b,c⟩:=zat ho9
    exact ⟨a,_,b,c⟩
   replace hh1:=(hb9.block _ (zaa hh1)).trans hh1
   replace hh2:=(hb9.block _ (zaa hh2)).trans hh2
   replace hh3:=(hb9.block _ (zaa hh3)).trans hh3
   have bq8s:=bq.size
   replace bq:=zab bq hb9 bq.size
   have h9s:=hb9.size
   have H9:=Lib.hid (And.intro ho9 (And.intro hr9 (And.intro hr9k hb9)))
   clear hr9k hr9 hb9 ho9
   refine hK.out _ _ (⟨hh1,hh2,hh3⟩) (fun _=>?_)
   clear hK K
   try simp only [putS]
   refine zb6 (i:=10) (v:=.pointer (some ⟨w2.heap.size,1,none⟩)) rfl (by kernel_rfl) (by kernel_rfl) (by kernel_rfl) rfl (fun _ _ _ h=>h) (Or.inl ⟨by rfl,fun W _=>by go_simp⟩) (fun _=>⟨hh1,hh2,hh3⟩) ?_
   try simp only [putS]
   refine zaw (rs:=[11]) (by kernel_rfl) (by simp) ?_
   refine zan.late rfl (by kernel_rfl) (fun K hK=>?_) zan.nil
   try rw [if_pos (by rfl)]
   have c0:=zad hh3 1 rfl
   have f0:=zdl hh3 1
   go_simp
   clear c0 f0
   refine hK.out _ _ ?_
   clear hK K
   try simp only [putS]
   refine zd0 (by kernel_rfl) ?_ _
   have vZ:(w9.setCell ⟨w2.heap.size,1,none⟩ (.slice p9 n9 k9)).heap[w2.heap.size]?=some (.cells #[.slice pV (za0 a.vars b.vars).length kV,.slice p9 n9 k9] 25):=zb8 hh3 1 (.slice p9 n9 k9)
   have u4Z:(w9.setCell ⟨w2.heap.size,1,none⟩ (.slice p9 n9 k9)).heap[W.heap.size+1+1]?=some (.cells #[.slice none 0 0,.slice none 0 0] 25):=(Below.heap_setCell _ _ _ _ (by show _≠w2.heap.size;omega)).trans (((zab HB2.out bq HB2.out.size).block _ (zaa HU.out.2.2)).trans HU.out.2.2)
   have hset:∀ g,g≠w2.heap.size→(w9.setCell ⟨w2.heap.size,1,none⟩ (.slice p9 n9 k9)).heap[g]?=w9.heap[g]?:=fun g h=>Below.heap_setCell _ _ _ _ h
   have bWZ:Below W.heap.size W (w9.setCell ⟨w2.heap.size,1,none⟩ (.slice p9 n9 k9)):=((HB1.out.trans ((zab HB2.out bq HB2.out.size).mono HB1.out.size))).setCell (p:=⟨w2.heap.size,1,none⟩) (show W.heap.size≤w2.heap.size by omega) _
   have hzz:(w9.setCell ⟨w2.heap.size,1,none⟩ (.slice p9 n9 k9)).heap.size=w9.heap.size:=World.size_setCell _ _ _
   have HZZ:=Lib.hid (And.intro hset (And.intro hzz (And.intro bWZ bq)))
   clear hset hzz bWZ hh1 hh2 hh3 bq
   generalize w9.setCell ⟨w2.heap.size,1,none⟩ (.slice p9 n9 k9)=wZ at*
   go_wp2_with (first
    |((with_reducible refine zah (.tmp 5) w2.heap.size 25 25 [.slice pV (za0 a.vars b.vars).length kV,.slice p9 n9 k9] 2 _ vZ rfl Tryz.underlying25 rfl zag ?_ ?_ ?_ ?_);rfl;rfl;rfl)
    |((with_reducible refine zar (.tmp 4) (.tmp 27) (W.heap.size+1+1) 25 25 _ [.slice pV (za0 a.vars b.vars).length kV,.slice p9 n9 k9] 2 u4Z rfl ?_ ?_ ?_ ?_ zag rfl (zbv rfl rfl) ?_);rfl;rfl;rfl;rfl;intro wY oY vY))
   obtain ⟨hset,hzz,bWZ,bq⟩:=HZZ.out
   have hys:=oY.size
   have hqs:=bq.size
   have h9o:=H9.out.1
   have rows9:zai rowE w9 (fun g=>wD.heap.size≤g∧g < w9.heap.size) _ _:=zbm h9o H9.out.2.1 (fun g hg=>⟨hg.1,by have:=hg.2;omega⟩) (fun g e=>⟨by have:=(h9o.lt g e).1;omega,(h9o.lt g e).2⟩)
   refine bodyPost_ret (results_cell_row (p:=4) (ty:=25) Tryz.results26 _ _ (W.heap.size+1+1) 25 _ (0,0) _ rfl vY Tryz.underlying25 rfl zag) rfl ⟨_,[_,_],rfl,rfl,?_,zam bWZ oY (by omega) bWZ.size⟩
   rw [HJ2.out]
   refine ⟨_,_,rfl,HVX.out.1.stays (fun g hg=>?_),rows9.stays (fun g hg=>?_),HVX.out.2,H9.out.2.2.1,by show (za0 a.vars b.vars).length≤2097152;omega,HTOT.out⟩
   ·have a1:=hg.1
    have a2:=hg.2
    exact ⟨⟨by omega,by omega⟩,(oY.block g (by omega) (by omega)).trans ((hset g (by omega)).trans (bq.block g (by omega)))⟩
   ·have a1:=hg.1
    have a2:=hg.2
    exact ⟨⟨by omega,by omega⟩,(oY.block g (by omega) (by omega)).trans (hset g (by omega))⟩
  ·rw [decide_eq_false hle] at HO
   have HJ2:Hid (jt=⟨[],[]⟩):=Lib.hid (by rw [HJT.out];unfold zb9;rw [if_neg (fun h=>hle h.2)])
   clear HJT HUN hp hle
   go_enter Tryz.func26,Tryz.ntmps26
   go_upto_region 1 with fail
   rw [← HW.out]
   go_upto_region 3 with (first
    |((with_reducible refine zah (.tmp 2) W.heap.size 25 25 [.slice pA a.vars.length kA,.slice qA a.rows.length lA] 2 _ u2 rfl Tryz.underlying25 rfl zag ?_ ?_ ?_ ?_);rfl;rfl;rfl)
    |((with_reducible refine zah (.tmp 3) (W.heap.size+1) 25 25 [.slice pB b.vars.length kB,.slice qB b.rows.length lB] 2 _ u3 rfl Tryz.underlying25 rfl zag ?_ ?_ ?_ ?_);rfl;rfl;rfl)
    |(go_at_call 73;(with_reducible refine HO.out.mono ?_);rintro e w2 ⟨V,rfl,hsV,hkV,hoV,hb2⟩;obtain ⟨pV,kV,rfl⟩:=hsV.slice)
    |((with_reducible refine zar (.tmp 5) (.tmp 11) w2.heap.size 25 25 _ [.slice pV (za0 a.vars b.vars).length kV,.slice none 0 0] 2 (zaf _ _ rfl) rfl ?_ ?_ ?_ ?_ zag rfl (zbv rfl rfl) ?_);rfl;rfl;rfl;rfl;intro wX oX vX))
   have bX:Below w2.heap.size w2 wX:=zam (zav w2 _) oX (Nat.le_refl _) (by simp)
   have b2:=zab hb2 bX hb2.size
   have u4X:=(b2.block _ (zaa HU.out.2.2)).trans HU.out.2.2
   have hB1:=HB1.out
   have bWX:=hB1.trans (b2.mono hB1.size)
   clear hb2 bX b2 oX vX u2 u3 hB1
   go_wp2_with (first
    |((with_reducible refine zar (.tmp 4) (.tmp 15) (W.heap.size+1+1) 25 25 _ [.slice none 0 0,.slice none 0 0] 2 u4X rfl ?_ ?_ ?_ ?_ zag rfl (zbv rfl rfl) ?_);rfl;rfl;rfl;rfl;intro wY oY vY))
   rw [HJ2.out]
   exact bodyPost_ret (results_cell_row (p:=4) (ty:=25) Tryz.results26 _ _ (W.heap.size+1+1) 25 _ (0,0) _ rfl vY Tryz.underlying25 rfl zag) rfl ⟨_,[_,_],rfl,rfl,zex _ _,zam bWX oY (by omega) bWX.size⟩
 ·have hov:Calls Tryz.prog 73 #[.agg #[.slice pA a.vars.length kA,.slice qA a.rows.length lA],.agg #[.slice pB b.vars.length kB,.slice qB b.rows.length lB]] W1 fun e w'=>e=.returned (.tuple #[.agg #[.slice none 0 0,.slice none 0 0],.bool false])∧Below W1.heap.size W1 w':=HOV.out.mono fun e w' h=>by
   unfold zim at h
   rwa [if_neg hp] at h
  have HO:=Lib.hid hov
  have HJ2:Hid (jt=⟨[],[]⟩):=Lib.hid (by rw [HJT.out];unfold zb9;rw [if_neg (fun h=>hp h.1)])
  clear hov HOV HJT HUN hp
  go_enter Tryz.func26,Tryz.ntmps26
  go_upto_region 1 with fail
  rw [← HW.out]
  go_upto_region 3 with (first
   |((with_reducible refine zah (.tmp 2) W.heap.size 25 25 [.slice pA a.vars.length kA,.slice qA a.rows.length lA] 2 _ u2 rfl Tryz.underlying25 rfl zag ?_ ?_ ?_ ?_);rfl;rfl;rfl)
   |((with_reducible refine zah (.tmp 3) (W.heap.size+1) 25 25 [.slice pB b.vars.length kB,.slice qB b.rows.length lB] 2 _ u3 rfl Tryz.underlying25 rfl zag ?_ ?_ ?_ ?_);rfl;rfl;rfl)
   |(go_at_call 73;(with_reducible refine HO.out.mono ?_);rintro e w2 ⟨rfl,hb2⟩)
   |((with_reducible refine zar (.tmp 5) (.tmp 11) w2.heap.size 25 25 _ [.slice none 0 0,.slice none 0 0] 2 (zaf _ _ rfl) rfl ?_ ?_ ?_ ?_ zag rfl (zbv rfl rfl) ?_);rfl;rfl;rfl;rfl;intro wX oX vX))
  have bX:Below w2.heap.size w2 wX:=zam (zav w2 _) oX (Nat.le_refl _) (by simp)
  have b2:=zab hb2 bX hb2.size
  have u4X:=(b2.block _ (zaa HU.out.2.2)).trans HU.out.2.2
  have hB1:=HB1.out
  have bWX:=hB1.trans (b2.mono hB1.size)
  clear hb2 bX b2 oX vX u2 u3 hB1
  go_wp2_with (first
   |((with_reducible refine zar (.tmp 4) (.tmp 15) (W.heap.size+1+1) 25 25 _ [.slice none 0 0,.slice none 0 0] 2 u4X rfl ?_ ?_ ?_ ?_ zag rfl (zbv rfl rfl) ?_);rfl;rfl;rfl;rfl;intro wY oY vY))
  rw [HJ2.out]
  exact bodyPost_ret (results_cell_row (p:=4) (ty:=25) Tryz.results26 _ _ (W.heap.size+1+1) 25 _ (0,0) _ rfl vY Tryz.underlying25 rfl zag) rfl ⟨_,[_,_],rfl,rfl,zex _ _,zam bWX oY (by omega) bWX.size⟩
def zin (t:TabL) (vars:List ByteArray):TabL:=if (tabP t && zeb vars)=true then ⟨vars,zcg t vars⟩ else ⟨[],[]⟩
theorem zzr (t:TabL) (vars:List ByteArray) (V R v:Value) (W:World) (hG:Gd W) (ht:tabE.rel W (Old W) [V,R] t) (hv:zai zaz W (Old W) v vars) (hcap:capK v) (hvn:vars.length≤2097152):Calls Tryz.prog 24 #[.agg #[V,R],v] W (zbs tabE (zin t vars) W):=by
 have ht0:=ht
 obtain ⟨V',R',e,hvt,hrt,hcv,hcr,hlv,hlr⟩:=ht
 cases e
 obtain ⟨pV,kV,rfl⟩:=hvt.slice
 obtain ⟨qR,lR,rfl⟩:=hrt.slice
 obtain ⟨pU,kU,rfl⟩:=hv.slice
 obtain ⟨W1,hW1⟩:∃ W1,W1=(W.alloc (.cells #[.slice pV t.vars.length kV,.slice qR t.rows.length lR] 25)).alloc (.cells #[.slice none 0 0,.slice none 0 0] 25):=⟨_,rfl⟩
 have b1:Below W.heap.size W W1:=by rw [hW1];exact zcr _ _ _
 have s1:W.heap.size+1 < W1.heap.size:=by rw [hW1];simp
 have u2:W1.heap[W.heap.size]?=some (.cells #[.slice pV t.vars.length kV,.slice qR t.rows.length lR] 25):=by rw [hW1];exact zaq _ (zaf _ _ rfl)
 have u4:W1.heap[W.heap.size+1]?=some (.cells #[.slice none 0 0,.slice none 0 0] 25):=by rw [hW1];exact zaf _ _ (by simp)
 have h1:=zct t _ _ W1 (hG.below b1) (tabE.stays (zae b1) ht0)
 have h2:∀ W',Below W1.heap.size W1 W'→Calls Tryz.prog 57 #[.slice pU vars.length kU] W' fun e w'=>e=.returned (.bool (zeb vars))∧Below W'.heap.size W' w':=fun W' h=>by
  have h':=zab b1 h b1.size
  exact zq7 _ vars W' (hG.below h') (hv.stays (zae h')) hcap hvn
 have HOV:Hid (∀ W',Below W1.heap.size W1 W'→Calls Tryz.prog 71 #[.slice pU vars.length kU] W' (za1 zaz 9 W' vars)):=Lib.hid fun W' h=>zkw vars _ W' (hv.stays (zae (zab b1 h b1.size))) hvn
 have HPI:Hid (tabP t=true→∀ W',Below W1.heap.size W1 W'→Calls Tryz.prog 72 #[.agg #[.slice pV t.vars.length kV,.slice qR t.rows.length lR],.slice pU vars.length kU] W' (za1 rowE 43 W' (zcg t vars))):=Lib.hid fun hp W' h=>by
  have h':=zab b1 h b1.size
  exact zqc t vars _ _ _ W' (tabE.stays (zae h') ht0) (zbk hp).1 (hv.stays (zae h')) hvn
 have hpn:(zcg t vars).length=t.rows.length:=by unfold zcg;rw [List.length_map]
 unfold zin
 generalize hpt:tabP t=pt at*
 generalize hpv:zeb vars=pv at*
 have H1:=Lib.hid h1
 have H2:=Lib.hid h2
 have HW:=Lib.hid hW1
 have HB1:=Lib.hid b1
 have HU:=Lib.hid (And.intro u2 u4)
 have HPN:=Lib.hid hpn
 clear h1 h2 ht0 hvt hrt hcv hcr hv hcap hG hW1 b1 hpt hpv hpn
 cases pt with
 | false=>
   simp only [Bool.false_and,Bool.false_eq_true,if_false]
   go_enter Tryz.func24,Tryz.ntmps24
   go_upto_region 1 with fail
   rw [← HW.out]
   go_upto_region 2 with (first
    |((with_reducible refine zah (.tmp 2) W.heap.size 25 25 [.slice pV t.vars.length kV,.slice qR t.rows.length lR] 2 _ u2 rfl Tryz.underlying25 rfl zag ?_ ?_ ?_ ?_);rfl;rfl;rfl)
    |(go_at_call 14;(with_reducible refine H1.out.mono ?_);rintro e w2 ⟨rfl,hb2⟩))
   have u42:=(hb2.block _ (zaa u4)).trans u4
   have B2:=Lib.hid (HB1.out.trans (hb2.mono HB1.out.size))
   clear hb2 u2 u4
   go_wp2_with (first
    |((with_reducible refine zar (.tmp 4) (.tmp 13) (W.heap.size+1) 25 25 _ [.slice none 0 0,.slice none 0 0] 2 u42 rfl ?_ ?_ ?_ ?_ zag rfl (zbv rfl rfl) ?_);rfl;rfl;rfl;rfl;intro wX oX vX))
   exact bodyPost_ret (results_cell_row (p:=4) (ty:=25) Tryz.results24 _ _ (W.heap.size+1) 25 _ (0,0) _ rfl vX Tryz.underlying25 rfl zag) rfl ⟨_,[_,_],rfl,rfl,zex _ _,zam B2.out oX (by omega) B2.out.size⟩
 | true=>
   cases pv with
   | false=>
     simp only [Bool.and_false,Bool.false_eq_true,if_false]
     go_enter Tryz.func24,Tryz.ntmps24
     go_upto_region 1 with fail
     rw [← HW.out]
     go_upto_region 2 with (first
      |((with_reducible refine zah (.tmp 2) W.heap.size 25 25 [.slice pV t.vars.length kV,.slice qR t.rows.length lR] 2 _ u2 rfl Tryz.underlying25 rfl zag ?_ ?_ ?_ ?_);rfl;rfl;rfl)
      |(go_at_call 14;(with_reducible refine H1.out.mono ?_);rintro e w2 ⟨rfl,hb2⟩)
      |(go_at_call 57;(with_reducible refine (H2.out _ hb2).mono ?_);rintro e w3 ⟨rfl,hb3⟩))
     have b3:=zab hb2 hb3 hb2.size
     have u42:=(b3.block _ (zaa u4)).trans u4
     have B2:=Lib.hid (HB1.out.trans (b3.mono HB1.out.size))
     clear hb2 hb3 b3 u2 u4
     go_wp2_with (first
      |((with_reducible refine zar (.tmp 4) (.tmp 13) (W.heap.size+1) 25 25 _ [.slice none 0 0,.slice none 0 0] 2 u42 rfl ?_ ?_ ?_ ?_ zag rfl (zbv rfl rfl) ?_);rfl;rfl;rfl;rfl;intro wX oX vX))
     exact bodyPost_ret (results_cell_row (p:=4) (ty:=25) Tryz.results24 _ _ (W.heap.size+1) 25 _ (0,0) _ rfl vX Tryz.underlying25 rfl zag) rfl ⟨_,[_,_],rfl,rfl,zex _ _,zam B2.out oX (by omega) B2.out.size⟩
   | true=>
     simp only [Bool.and_true,if_true]
     go_enter Tryz.func24,Tryz.ntmps24
     go_upto_region 1 with fail
     rw [← HW.out]
     go_upto_region 3 with (first
      |((with_reducible refine zah (.tmp 2) W.heap.size 25 25 [.slice pV t.vars.length kV,.slice qR t.rows.length lR] 2 _ u2 rfl Tryz.underlying25 rfl zag ?_ ?_ ?_ ?_);rfl;rfl;rfl)
      |(go_at_call 14;(with_reducible refine H1.out.mono ?_);rintro e w2 ⟨rfl,hb2⟩)
      |(go_at_call 57;(with_reducible refine (H2.out _ hb2).mono ?_);rintro e w3 ⟨rfl,hb3⟩))
     have b3:=zab hb2 hb3 hb2.size
     have u23:=(b3.block _ (zaa u2)).trans u2
     have B3:=Lib.hid b3
     clear hb2 hb3 b3 u2 u4
     refine wp_region_held_drew (S:=fun W'=>W'.heap[W.heap.size]?=some (.cells #[.slice pV t.vars.length kV,.slice qR t.rows.length lR] 25)) (by kernel_rfl) u23 (fun hh=>?_)
     have bq:=zab B3.out ((Below.refl _ _).drew (w:=w3)) B3.out.size
     have v4:w3.drew.heap[W.heap.size+1]?=some (.cells #[.slice none 0 0,.slice none 0 0] 25):=(bq.block _ (zaa HU.out.2)).trans HU.out.2
     clear u23
     generalize w3.drew=wD at*
     refine tg (i:=0) (.slice pU vars.length kU) rfl (hh) ?_
     refine tk (i:=2) (v:=.agg #[.slice pV t.vars.length kV,.slice qR t.rows.length lR]) rfl (yieldsIf_load_mid (by rfl) 25 (.tmp 2) rfl W.heap.size 0 rfl [.slice pV t.vars.length kV,.slice qR t.rows.length lR] _ (fun W h=>zce h 0 _ (fun j v hv=>by match j,hv with | 0,e | 1,e=>simpa using e | j+2,e=>simp at e)) Tryz.underlying25 rfl zag) (hh) ?_
     refine tg (i:=3) (.slice pU vars.length kU) rfl (hh) ?_
     refine tr 1 rfl (fun K hK=>?_)
     try rw [if_pos (by rfl)]
     go_simp
     refine (HOV.out _ bq).mono ?_
     rintro e0 w5 ⟨V5,xs5,rfl,ho5,hr5,hb5⟩
     obtain ⟨p5,k5,rfl⟩:=zat ho5
     have H5:=Lib.hid (And.intro (za1.slice ho5 hr5) (zb0 ho5))
     have bqs:=bq.size
     replace hh:=(hb5.block _ (zaa hh)).trans hh
     replace v4:=(hb5.block _ (zaa v4)).trans v4
     replace bq:=zab bq hb5 bq.size
     have h5s:=hb5.size
     clear ho5 hr5 hb5
     refine hK.out _ _ (hh) (fun _=>?_)
     clear hK K
     try simp only [putS]
     refine tr 4 rfl (fun K hK=>?_)
     try rw [if_pos (by rfl)]
     go_simp
     refine (HPI.out (by simp) _ bq).mono ?_
     rintro e0 w6 ⟨V6,xs6,rfl,ho6,hr6,hb6⟩
     obtain ⟨p6,k6,rfl⟩:=zat ho6
     have H6:=Lib.hid (And.intro (za1.slice ho6 hr6) (And.intro (zb0 ho6) hb6))
     replace hh:=(hb6.block _ (zaa hh)).trans hh
     replace v4:=(hb6.block _ (zaa v4)).trans v4
     have bq6:=bq.size
     replace bq:=zab bq hb6 bq.size
     have h6s:=hb6.size
     clear ho6 hr6 hb6
     refine hK.out _ _ (hh) (fun _=>?_)
     clear hK K
     try simp only [putS]
     refine tg (i:=5) (.agg #[.slice p5 vars.length k5,.slice p6 (zcg t vars).length k6]) rfl (hh) ?_
     refine tr 6 rfl (fun K hK=>?_)
     try rw [if_pos (by rfl)]
     refine zcl (.tmp 4) (.tmp 19) (W.heap.size+1) 25 25 _ [.slice p5 vars.length k5,.slice p6 (zcg t vars).length k6] 2 v4 rfl rfl rfl rfl zag rfl (zbv rfl rfl) ?_
     intro w7 o7 v7
     replace hh:=(o7.block _ (zaa hh) (by omega)).trans hh
     refine hK.out _ _ (hh) (fun _=>?_)
     clear hK K
     try simp only [putS]
     refine wpAnyH_done (by kernel_rfl) ?_ _
     go_wp2_with fail
     have bw:=HB1.out.trans (bq.mono HB1.out.size)
     refine bodyPost_ret (results_cell_row (p:=4) (ty:=25) Tryz.results24 _ _ (W.heap.size+1) 25 _ (0,0) _ rfl v7 Tryz.underlying25 rfl zag) rfl ⟨_,[_,_],rfl,rfl,⟨_,_,rfl,H5.out.1.stays (fun g hg=>?_),H6.out.1.stays (fun g hg=>?_),H5.out.2,H6.out.2.1,hvn,by show (zcg t vars).length≤2097152;rw [HPN.out];exact hlr⟩,zam bw o7 (by omega) bw.size⟩
     ·have a1:=hg.1
      have a2:=hg.2
      have a3:=o7.size
      exact ⟨⟨by omega,by omega⟩,(o7.block g (by omega) (by omega)).trans (H6.out.2.2.block g a2)⟩
     ·have a1:=hg.1
      have a2:=hg.2
      have a3:=o7.size
      exact ⟨⟨by omega,by omega⟩,o7.block g a2 (by omega)⟩
def zch (q:List (List Val)→List Val→Bool) (l:List (List Val)):Nat→List (List Val)
 | 0=>[]
 | j+1=>if q (l.take j) (l.getD j [])=true then zch q l j++[l.getD j []] else zch q l j
theorem zio (q:List (List Val)→List Val→Bool) (l:List (List Val)):(j:Nat)→(zch q l j).length≤j
 | 0=>Nat.le_refl _
 | j+1=>by
   have:=zio q l j
   unfold zch
   split
   ·rw [List.length_append]
    simp
    omega
   ·omega
def z2d (P:Nat→Prop) (mb:Nat) (w:World) (bs:List (List Val)) (e:Ending) (w':World):Prop:=∃ V xs,e=.returned V∧w'.ownsRow w.heap.size 43 1 V bs.length xs∧RowE rowE w' P xs bs∧Kept (fun i=>i=mb) w w'
structure AccK (P:Nat→Prop) (mb:Nat) (w:World) (bs:List (List Val)) (A:Value) (wr:World):Prop where
 own:∃ xs,wr.ownsRow w.heap.size 43 1 A bs.length xs∧RowE rowE wr P xs bs
 kept:Kept (fun i=>i=mb) w wr
theorem Kept.trans' {F:Nat→Prop} {a b c:World} (h:Kept F a b) (k:Kept F b c):Kept F a c:=h.trans k
theorem zai.rowAt70 {w:World} {P:Nat→Prop} {p:Option Addr} {n cap:Nat} {rows:List (List Val)} (h:zai rowE w P (.slice p n cap) rows) (i:Nat) (hi:i < rows.length):∃ g off u,p=some ⟨g,off,none⟩∧n=rows.length∧w.cell? ⟨g,off+i,none⟩=some u∧zai valE w P u rows[i]∧capK u∧rows[i].length≤2097152:=by
 obtain ⟨g,off,cap',c,e,_,hr,ha⟩:=h.at_ i hi
 injection e with e1 e2 e3
 obtain ⟨v,rfl,hs,hc,hl⟩:=hr
 refine ⟨g,off,v,e1,e2,?_,hs,hc,hl⟩
 have:=ha 0 _ rfl
 simpa [rowE] using this
theorem z2e (B:Value) (q:List (List Val)→List Val→Bool) (Inv:List (List Val)→World→Prop) (P:Nat→Prop) (mb:Nat) (l:List (List Val)) (v:Value) (w:World) (hmb:mb < w.heap.size) (hP:∀ g,P g→g < w.heap.size∧g≠mb) (h:zai rowE w P v l) (hn:l.length≤2097152) (hI:Inv [] w)
 (hS:∀ pre A C,Inv pre A→(∀ i,i < w.heap.size→C.heap[i]?=A.heap[i]?)→Inv pre C)
 (each:∀ j x,x=l.getD j []→j < l.length→∀ W u,Kept (fun i=>i=mb) w W→Inv (l.take j) W→rowE.rel W P [u] x→Calls Tryz.prog 68 #[u,B] W fun e w'=>e=.returned (.bool (q (l.take j) x))∧Kept (fun i=>i=mb) W w'∧Inv (l.take (j+1)) w'):
 Calls Tryz.prog 70 #[v,.func (.func 68) #[] #[B]] w (z2d P mb w (zch q l l.length)):=by
 obtain ⟨n,hln⟩:∃ n,n=l.length:=⟨_,rfl⟩
 obtain ⟨p,cap,rfl⟩:=h.slice
 rw [← hln] at hn
 obtain ⟨i0,hi,hz0,hz1,hz2⟩:=info_parts zen
 have HL:=Lib.hid hln
 have HH:=Lib.hid h
 have HE:=Lib.hid each
 have HS:=Lib.hid hS
 have HP:=Lib.hid hP
 have HI0:=Lib.hid hI
 rw [← hln]
 clear h hln each hS hP hI
 go_enter Tryz.func70,Tryz.ntmps70
 go_wp2_with fail
 go_loopg [5,10] n (fun gg s5 s10 wr=>∃ j:Nat,j+gg=n∧s10=.int .i64 j∧Hid (AccK P mb w (zch q l j) s5 wr∧Inv (l.take j) wr))
 case atStart=>exact ⟨0,by omega,rfl,Lib.hid ⟨⟨⟨[],World.ownsRow_nil _ _ _ _,RowE.nil⟩,Kept.refl _ _⟩,HI0.out⟩⟩
 case round=>
  clear HI0
  obtain ⟨j,hjg,rfl,HA⟩:=hrel
  by_cases hlt:(j:Int) < n
  ·have hj1:j < l.length:=by have:=HL.out;omega
   have hkp:=HA.out.1.kept
   have hks:=hkp.size
   have stP:zel P P w wr:=fun x hx=>⟨hx,hkp.block x (HP.out x hx).1 (HP.out x hx).2⟩
   obtain ⟨g,off,u,e1,_,c0,hs0,hc0',hl0⟩:=(HH.out.stays stP).rowAt70 j hj1
   subst e1
   have hjl:=zio q l j
   obtain ⟨x,hx,hrl⟩:∃ x,x=l.getD j []∧rowE.rel wr P [u] x:=⟨_,rfl,by rw [List.getD_eq_getElem?_getD,List.getElem?_eq_getElem hj1];exact ⟨u,rfl,hs0,hc0',hl0⟩⟩
   have hcall:=HE.out j x hx hj1 wr u hkp HA.out.2 hrl
   obtain ⟨pu,nu,ku,rfl⟩:∃ p n k,u=.slice p n k:=by
    obtain ⟨a,b,c⟩:=hs0.slice
    exact ⟨a,_,b,c⟩
   obtain ⟨r,hr⟩:∃ r,r=q (l.take j) x:=⟨_,rfl⟩
   rw [← hr] at hcall
   have HC:=Lib.hid hcall
   have HR:=Lib.hid (And.intro hr hx)
   have HD:=Lib.hid (And.intro hrl hkp)
   clear hcall hr hrl hs0 hc0' hl0 stP hkp hx
   cases r with
   | false=>
     go_wp2_with (first
      |(go_at_call 68;(with_reducible refine HC.out.mono ?_);rintro e w3 ⟨rfl,hb3,hI3⟩))
     have HA2:Hid (AccK P mb w (zch q l (j+1)) _ w3∧Inv (l.take (j+1)) w3):=Lib.hid (by
      have e:zch q l (j+1)=zch q l j:=by
       show (if _ then _ else _)=_
       rw [← HR.out.2,← HR.out.1]
       rfl
      rw [e]
      obtain ⟨⟨xs,h1,h2⟩,h3⟩:=HA.out.1
      exact ⟨⟨⟨xs,zbf h1 (fun g e=>hb3.block g (h1.lt g e).2 (by have:=(h1.lt g e).1;omega)),h2.stays (fun x hx=>⟨hx,hb3.block x (Nat.lt_of_lt_of_le (HP.out x hx).1 h3.size) (HP.out x hx).2⟩)⟩,h3.trans' hb3⟩,hI3⟩)
     clear hb3 HA hI3
     go_roundg (gk - 1)
     case measure=>omega
     case rel=>exact ⟨j+1,by omega,by go_num,HA2⟩
   | true=>
     go_wp2_with (first
      |(go_at_call 68;(with_reducible refine HC.out.mono ?_);rintro e w3 ⟨rfl,hb3,hI3⟩
        obtain ⟨⟨xs,hown,hrow⟩,hkp⟩:=HA.out.1
        have hown3:=zbf hown (w':=w3) (fun g e=>hb3.block g (hown.lt g e).2 (by have:=(hown.lt g e).1;omega))
        have hs3:=hb3.size
        have HY:=Lib.hid (And.intro hown (And.intro hrow (And.intro hkp (And.intro hb3 (And.intro hI3 hown3)))))
        clear hown hrow hkp hb3 HA hI3)
      |(at_builtin;refine wpList_append_own_at _ rfl _ _ 79 rfl w.heap.size 43 i0 (.slice none 0 0) 1 24 Tryz.underlying79 hi hz0 hz1 hz2 rfl (by decide) _ _ _ rfl (hown3.alloc _) ⟨w3.heap.size,0,none⟩ 1 1 [.slice pu nu ku] rfl rfl (zb3 _ _ _) (by simp [Value.oneCell']) ?_ ?_ ?_ ?_))
     all_goals (try (first |(unfold maxLen;omega) | omega |(simp;omega)))
     intro v' w5 hown' hgrow _ hloc
     have acc:AccK P mb w (zch q l (j+1)) v' w5∧Inv (l.take (j+1)) w5:=by
      have e:zch q l (j+1)=zch q l j++[x]:=by
       show (if _ then _ else _)=_
       rw [← HR.out.2,← HR.out.1]
       rfl
      obtain ⟨h1,h2,h3,h4,h5,h6⟩:=HY.out
      have k5:Kept (fun i=>i=mb) w w5:=(((h3.trans' h4).alloc _).grown hgrow (fun i e h=>absurd (h6.lt i e).1 (by omega)))
      have pst:∀ g,P g→w5.heap[g]?=w.heap[g]?:=fun g hg=>k5.block g (HP.out g hg).1 (HP.out g hg).2
      have pwr:∀ g,P g→wr.heap[g]?=w.heap[g]?:=fun g hg=>h3.block g (HP.out g hg).1 (HP.out g hg).2
      refine ⟨⟨⟨xs++[.slice pu nu ku],?_,?_⟩,k5⟩,HS.out _ w3 w5 h5 (fun i hi=>?_)⟩
      ·rw [e,List.length_append]
       exact hown'
      ·rw [e]
       exact RowE.append _ [x] (h2.stays (fun g hg=>⟨hg,(pst g hg).trans (pwr g hg).symm⟩) _) (RowE.single (rowE.stays (fun g hg=>⟨hg,(pst g hg).trans (pwr g hg).symm⟩) HD.out.1))
      ·exact (hgrow.block i (by simp;omega) (fun e=>by have:=(h6.lt i e.symm).1;omega)).trans (Below.heap_alloc _ _ _ (by omega))
     have ACC:=Lib.hid acc
     clear acc hown' hgrow hloc hown3 HY
     go_wp2_with fail
     go_roundg (gk - 1)
     case measure=>omega
     case rel=>exact ⟨j+1,by omega,by go_num,ACC⟩
  ·have e:j=n:=by omega
   have hA:=HA.out.1
   rw [e] at hA
   obtain ⟨⟨xs,hown,hrow⟩,hkp⟩:=hA
   have HX:=Lib.hid (And.intro hown (And.intro hrow hkp))
   clear hown hrow hkp HA
   go_wp2_with fail
   go_ret
   exact ⟨_,xs,rfl,HX.out.1,HX.out.2.1,HX.out.2.2⟩
def newQ (pre:List (List Val)) (x:List Val):Bool:=!(pre.any fun y=>decide (zao y=zao x))
def SeenD (sb mb:Nat) (pre:List (List Val)) (W:World):Prop:=
 W.heap[sb]?=some (.cells #[.map (some mb)] 75)∧∃ n f,n≤pre.length∧HMap W Tryz.prog 9 mb n f∧∀ x:List UInt8,(f (.string x)).isSome=(pre.any fun y=>decide (zao y=x))∧∀ v,f (.string x)=some v→v=.agg #[]
theorem zzs {f:Lit→Option Value} {pre:List (List Val)} {x:List Val} (h:∀ k:List UInt8,(f (.string k)).isSome=(pre.any fun y=>decide (zao y=k))∧∀ v,f (.string k)=some v→v=.agg #[]):
 ∀ k:List UInt8,(updH f (.string (zao x)) (.agg #[]) (.string k)).isSome=((pre++[x]).any fun y=>decide (zao y=k))∧∀ v,updH f (.string (zao x)) (.agg #[]) (.string k)=some v→v=.agg #[]:=by
 intro k
 by_cases e:zao x=k
 ·subst e
  rw [zer]
  refine ⟨?_,fun v hv=>by cases hv;rfl⟩
  rw [List.any_append]
  simp
 ·have ne:Lit.string k≠Lit.string (zao x):=fun q=>e (zih _ _ q).symm
  rw [zdi ne]
  refine ⟨?_,(h k).2⟩
  rw [(h k).1,List.any_append]
  simp [e]
theorem newAt (sb mb:Nat) (pre:List (List Val)) (x:List Val) (u:Value) (W:World) (hG:Gd W) (hs:SeenD sb mb pre W) (hsb:sb≠mb) (h:zai valE W (Old W) u x) (hm:∀ v∈x,mayP v 0=true) (hw:13*wAll x≤700000000) (hn:x.length≤2097152) (hpn:pre.length≤2097152):
 Calls Tryz.prog 68 #[u,.pointer (some ⟨sb,0,none⟩)] W fun e w'=>e=.returned (.bool (newQ pre x))∧Kept (fun i=>i=mb) W w'∧SeenD sb mb (pre++[x]) w':=by
 have HE:=Lib.hid (zig x u W hG h hm hw hn)
 obtain ⟨p,k,rfl⟩:=h.slice
 obtain ⟨hsc,n,f,hnl,hmm,hf⟩:=hs
 have hkl:(zao x).length≤900000000:=by
  have:=zdg x
  omega
 have hkey:=keyB hkl
 have hlit:WideAt.IsKeyLit (.string (zao x)):=trivial
 have hsn:=zzs (x:=x) hf
 obtain ⟨r,hr⟩:∃ r,r=(f (.string (zao x))).isSome:=⟨_,rfl⟩
 have hq:newQ pre x=!r:=by unfold newQ;rw [hr,(hf (zao x)).1]
 rw [hq]
 have hv:(f (.string (zao x))).getD (.agg #[])=.agg #[]:=by
  cases e:f (.string (zao x)) with
  | none=>rfl
  | some v=>exact (hf (zao x)).2 v e
 have HSN:=Lib.hid (And.intro hsn hnl)
 clear h hG hm hw hf hsn hq
 go_enter Tryz.func68,Tryz.ntmps68
 go_upto_region 2 with (first
  |(go_at_call 69;(with_reducible refine HE.out.mono ?_);rintro e w1 ⟨rfl,hb1⟩))
 have hm1:HMap w1 Tryz.prog 9 mb n f:=hmm.keep (hb1.block _ hmm.lt)
 have hs1:=(hb1.block _ (zaa hsc)).trans hsc
 have c1:=zad hs1 0 rfl
 have HB:=Lib.hid hb1
 clear hmm hb1 hsc
 generalize hek:zao x=ek at*
 go_upto_region 3 with (first
  |((with_reducible refine zi6 ?_ (.tmp 10) (.tmp 11) 75 ?_ 9 77 (Go.Maps.string_keyed Tryz.underlying9) Tryz.underlying75 (Tryz.zeroValue77 _) mb n ?_ hm1 (.string (bsB ek)) (.string ek) ?_ hkey hlit ?_);rfl;rfl;rfl;rfl;rw [hv,← hr]))
 have bz:Below w1.heap.size w1 (w1.alloc (.cells #[] 77)):=zav _ _
 generalize w1.alloc (.cells #[] 77)=w2 at*
 have hm2:HMap w2 Tryz.prog 9 mb n f:=hm1.keep (bz.block _ hm1.lt)
 have hs2:=(bz.block _ (zaa hs1)).trans hs1
 have c2:=zad hs2 0 rfl
 have hb2:=zab HB.out bz HB.out.size
 have hbnd:n < maxLen:=by unfold maxLen;omega
 clear c1 hs1 hm1 bz hek
 go_wp2_with (first
  |((with_reducible refine zdt ?_ (.tmp 15) (.tmp 16) (.tmp 17) 75 ?_ 9 77 (Go.Maps.string_keyed Tryz.underlying9) Tryz.underlying75 mb n ?_ hm2 hbnd (.string (bsB ek)) (.agg #[]) (.string ek) ?_ ?_ hkey hlit ?_);rfl;rfl;rfl;rfl;rfl;intro w3 hm3 hg3))
 go_ret
 have k2:Kept (fun i=>i=mb) W w2:=(Kept.refl _ W).below hb2
 exact ⟨by subst hr;cases f (.string ek) <;> rfl,k2.grown hg3 (fun i e _=>(Option.some.inj e).symm),(hg3.block sb (zaa hs2) (fun e=>hsb (Option.some.inj e))).trans hs2,n+1,_,by rw [List.length_append];simp;omega,hm3,HSN.out.1⟩
def zc7 (t:TabL):TabL:=if tabP t=true then ⟨t.vars,zch newQ t.rows t.rows.length⟩ else ⟨[],[]⟩
theorem zpf (t:TabL) (VA RA:Value) (W:World) (hG:Gd W) (ht:tabE.rel W (Old W) [VA,RA] t) (hwt:∀ r∈t.rows,13*wAll r≤700000000):Calls Tryz.prog 23 #[.agg #[VA,RA]] W (zbs tabE (zc7 t) W):=by
 have ht0:=ht
 obtain ⟨V',R',e,hva,hra,hcva,hcra,hlva,hlra⟩:=ht
 cases e
 obtain ⟨pA,kA,rfl⟩:=hva.slice
 obtain ⟨qA,lA,rfl⟩:=hra.slice
 obtain ⟨W1,hW1⟩:∃ W1,W1=(W.alloc (.cells #[.slice pA t.vars.length kA,.slice qA t.rows.length lA] 25)).alloc (.cells #[.slice none 0 0,.slice none 0 0] 25):=⟨_,rfl⟩
 have b1:Below W.heap.size W W1:=by rw [hW1];exact zcr _ _ _
 have s1:W.heap.size+1 < W1.heap.size:=by rw [hW1];simp
 have u2:W1.heap[W.heap.size]?=some (.cells #[.slice pA t.vars.length kA,.slice qA t.rows.length lA] 25):=by rw [hW1];exact zaq _ (zaf _ _ rfl)
 have u4:W1.heap[W.heap.size+1]?=some (.cells #[.slice none 0 0,.slice none 0 0] 25):=by rw [hW1];exact zaf _ _ (by simp)
 have h1:=zct t _ _ W1 (hG.below b1) (tabE.stays (zae b1) ht0)
 have HRA:Hid (zai rowE W1 (Old W) (.slice qA t.rows.length lA) t.rows):=Lib.hid (hra.stays fun g hg=>⟨hg,b1.block g hg⟩)
 have HVA:Hid (zai zaz W1 (Old W) (.slice pA t.vars.length kA) t.vars):=Lib.hid (hva.stays fun g hg=>⟨hg,b1.block g hg⟩)
 have HGD:Hid (Gd W1):=Lib.hid (hG.below b1)
 have HTA:Hid (tabP t=true→∀ r∈t.rows,∀ v∈r,mayP v 0=true):=Lib.hid fun h=>(zbk h).2
 have HWT:=Lib.hid hwt
 unfold zc7
 generalize hpt:tabP t=pt at*
 have H1:=Lib.hid h1
 have HW:=Lib.hid hW1
 have HB1:=Lib.hid b1
 have HU:=Lib.hid (And.intro u2 u4)
 have HK:=Lib.hid hcva
 clear h1 ht0 hva hra hcva hcra hG hW1 b1 hpt hwt
 cases pt with
 | false=>
   simp only [Bool.false_eq_true,if_false]
   go_enter Tryz.func23,Tryz.ntmps23
   go_upto_region 1 with fail
   rw [← HW.out]
   go_upto_region 2 with (first
    |((with_reducible refine zah (.tmp 1) W.heap.size 25 25 [.slice pA t.vars.length kA,.slice qA t.rows.length lA] 2 _ u2 rfl Tryz.underlying25 rfl zag ?_ ?_ ?_ ?_);rfl;rfl;rfl)
    |(go_at_call 14;(with_reducible refine H1.out.mono ?_);rintro e w2 ⟨rfl,hb2⟩))
   have u42:=(hb2.block _ (zaa u4)).trans u4
   have B2:=Lib.hid (HB1.out.trans (hb2.mono HB1.out.size))
   clear hb2 u2 u4
   go_wp2_with (first
    |((with_reducible refine zar (.tmp 2) (.tmp 8) (W.heap.size+1) 25 25 _ [.slice none 0 0,.slice none 0 0] 2 u42 rfl ?_ ?_ ?_ ?_ zag rfl (zbv rfl rfl) ?_);rfl;rfl;rfl;rfl;intro wX oX vX))
   exact bodyPost_ret (results_cell_row (p:=2) (ty:=25) Tryz.results23 _ _ (W.heap.size+1) 25 _ (0,0) _ rfl vX Tryz.underlying25 rfl zag) rfl ⟨_,[_,_],rfl,rfl,zex _ _,zam B2.out oX (by omega) B2.out.size⟩
 | true=>
   simp only [if_true]
   go_enter Tryz.func23,Tryz.ntmps23
   go_upto_region 1 with fail
   rw [← HW.out]
   go_upto_region 3 with (first
    |((with_reducible refine zah (.tmp 1) W.heap.size 25 25 [.slice pA t.vars.length kA,.slice qA t.rows.length lA] 2 _ u2 rfl Tryz.underlying25 rfl zag ?_ ?_ ?_ ?_);rfl;rfl;rfl)
    |(go_at_call 14;(with_reducible refine H1.out.mono ?_);rintro e w2 ⟨rfl,hb2⟩))
   have hmm:=@run_makeMap Tryz.prog
   have hs2:=hb2.size
   go_upto_region 5 with fail
   have bM:Below w2.heap.size w2 ((w2.alloc (.map #[] 0)).alloc (.cells #[.map (some w2.heap.size)] 75)):=zcr _ _ _
   have hm0:HMap ((w2.alloc (.map #[] 0)).alloc (.cells #[.map (some w2.heap.size)] 75)) Tryz.prog 9 w2.heap.size 0 (fun _=>none):=(HMap.made w2 Tryz.prog 9).keep (zaq _ (zaf _ _ rfl) |>.trans (zaf _ _ rfl).symm)
   have hs0:((w2.alloc (.map #[] 0)).alloc (.cells #[.map (some w2.heap.size)] 75)).heap[w2.heap.size+1]?=some (.cells #[.map (some w2.heap.size)] 75):=zaf _ _ (by simp)
   have hz0:w2.heap.size+1 < ((w2.alloc (.map #[] 0)).alloc (.cells #[.map (some w2.heap.size)] 75)).heap.size:=by simp
   clear hmm
   generalize (w2.alloc (.map #[] 0)).alloc (.cells #[.map (some w2.heap.size)] 75)=wM at*
   have b1M:=zab hb2 bM hb2.size
   have v2M:=(b1M.block _ (zaa HU.out.1)).trans HU.out.1
   have v4M:=(b1M.block _ (zaa HU.out.2)).trans HU.out.2
   refine wp_region_held_drew (S:=fun W'=>W'.heap[W.heap.size]?=some (.cells #[.slice pA t.vars.length kA,.slice qA t.rows.length lA] 25)) (by kernel_rfl) v2M (fun hh=>?_)
   have bq:=zab b1M ((Below.refl _ _).drew (w:=wM)) b1M.size
   have v4q:wM.drew.heap[W.heap.size+1]?=some (.cells #[.slice none 0 0,.slice none 0 0] 25):=v4M
   have hm1:HMap wM.drew Tryz.prog 9 w2.heap.size 0 (fun _=>none):=hm0.keep rfl
   have hs1:wM.drew.heap[w2.heap.size+1]?=some (.cells #[.map (some w2.heap.size)] 75):=hs0
   have hz1:w2.heap.size+1 < wM.drew.heap.size:=hz0
   clear v2M v4M b1M hb2 bM hm0 hs0 hz0 u2 u4
   generalize wM.drew=wD at*
   have hW1:=HB1.out.size
   have HWH:=Lib.hid (z2e (.pointer (some ⟨w2.heap.size+1,0,none⟩)) newQ (SeenD (w2.heap.size+1) w2.heap.size) (Old W) w2.heap.size t.rows _ wD (by omega) (fun g hg=>by have h:g < W.heap.size:=hg;exact ⟨by omega,by omega⟩) (HRA.out.stays fun g hg=>⟨hg,bq.block g (Nat.lt_of_lt_of_le hg hW1)⟩) hlra
    ⟨hs1,0,_,Nat.le_refl _,hm1,fun x=>⟨rfl,fun v hv=>by cases hv⟩⟩
    (fun pre A C h hc=>⟨(hc _ hz1).trans h.1,by
      obtain ⟨n,f,h1,h2,h3⟩:=h.2
      exact ⟨n,f,h1,h2.keep (hc _ (by omega)),h3⟩⟩)
    (fun j x hx hj W' u hk hi hr=>by
      obtain ⟨v,e,hsx,_,hxl⟩:=hr
      cases e
      have hxm:x∈t.rows:=by rw [hx,List.getD_eq_getElem?_getD,List.getElem?_eq_getElem hj];exact List.getElem_mem hj
      have hks:=hk.size
      have htk:t.rows.take (j+1)=t.rows.take j++[x]:=by rw [List.take_succ_eq_append_getElem hj,hx,List.getD_eq_getElem?_getD,List.getElem?_eq_getElem hj];rfl
      refine (newAt (w2.heap.size+1) w2.heap.size (t.rows.take j) x u W' (HGD.out.below (bq.trans (hk.low (B:=W1.heap.size) bq.size (fun i h=>by omega)))) hi (by omega) (hsx.stays fun g hg=>⟨by show g < W'.heap.size;have h:g < W.heap.size:=hg;omega,rfl⟩) (HTA.out (by simp) x hxm) (HWT.out x hxm) hxl (by rw [List.length_take];omega)).mono ?_
      rintro e w' ⟨rfl,hk',hi'⟩
      exact ⟨rfl,hk',by rw [htk];exact hi'⟩))
   obtain ⟨ft,hft⟩:∃ ft,ft=zch newQ t.rows t.rows.length:=⟨_,rfl⟩
   rw [← hft] at HWH
   have hfn:ft.length≤2097152:=by rw [hft];exact Nat.le_trans (zio _ _ _) hlra
   have HFT:=Lib.hid hft
   clear hft hm1 hs1
   refine tg (i:=0) (.pointer (some ⟨W.heap.size,0,none⟩)) rfl (hh) ?_
   refine tg (i:=2) (.pointer (some ⟨W.heap.size,1,none⟩)) rfl (hh) ?_
   refine tg (i:=4) (.func (.func 68) #[] #[.pointer (some ⟨w2.heap.size+1,0,none⟩)]) rfl (hh) ?_
   refine tk (i:=1) (v:=.slice pA t.vars.length kA) rfl (Or.inl ⟨by rfl,fun W' h=>by have c0:=zad h 0 rfl;go_simp⟩) (hh) ?_
   refine tk (i:=3) (v:=.slice qA t.rows.length lA) rfl (Or.inl ⟨by rfl,fun W' h=>by have c0:=zad h 1 rfl;go_simp⟩) (hh) ?_
   refine tr 5 rfl (fun K hK=>?_)
   try rw [if_pos (by rfl)]
   go_simp
   refine HWH.out.mono ?_
   rintro e0 w7 ⟨VF,xsF,rfl,hoF,hrF,hkF⟩
   obtain ⟨pF,kF,rfl⟩:=zat hoF
   have h7s:=hkF.size
   have hsF:zai rowE w7 (Old w7) (.slice pF ft.length kF) ft:=zbm hoF hrF (fun g hg=>by show g < w7.heap.size;have h:g < W.heap.size:=hg;omega) (fun g e=>(hoF.lt g e).2)
   have hV7:zai zaz w7 (Old w7) (.slice pA t.vars.length kA) t.vars:=HVA.out.stays fun g hg=>by
    have h:g < W.heap.size:=hg
    exact ⟨by show g < w7.heap.size;omega,(hkF.block g (by omega) (by omega)).trans (bq.block g (by omega))⟩
   have HOT:=Lib.hid (zo4 ⟨t.vars,ft⟩ _ _ w7 ⟨_,_,rfl,hV7,hsF,HK.out,zb0 hoF,hlva,hfn⟩)
   replace hh:=(hkF.block _ (by omega) (by omega)).trans hh
   replace v4q:=(hkF.block _ (by omega) (by omega)).trans v4q
   have bw7:Below W.heap.size W w7:=(HB1.out.trans (bq.mono HB1.out.size)).trans (hkF.low (B:=W.heap.size) (by omega) (fun i h=>by omega))
   clear hoF hrF hsF hkF hV7
   refine hK.out _ _ (hh) (fun _=>?_)
   clear hK K
   try simp only [putS]
   refine tg (i:=6) (.agg #[.slice pA t.vars.length kA,.slice pF ft.length kF]) rfl (hh) ?_
   refine tr 7 rfl (fun K hK=>?_)
   try rw [if_pos (by rfl)]
   go_simp
   refine HOT.out.mono ?_
   rintro e0 w8 ⟨u8,c8,rfl,hc8,hr8,hb8⟩
   obtain ⟨V8,R8,rfl,hr8'⟩:=id hr8
   obtain rfl:=zzp (hc8.trans rfl)
   have hone8:=tabE.one hr8
   replace hh:=(hb8.block _ (zaa hh)).trans hh
   replace v4q:=(hb8.block _ (zaa v4q)).trans v4q
   have H8:=Lib.hid hr8
   have b8:=zab bw7 hb8 bw7.size
   have h8s:=hb8.size
   clear hc8 hr8 hr8' hb8 HOT
   refine hK.out _ _ (hh) (fun _=>?_)
   clear hK K
   try simp only [putS]
   refine tr 8 rfl (fun K hK=>?_)
   try rw [if_pos (by rfl)]
   refine zcl (.tmp 2) (.tmp 18) (W.heap.size+1) 25 25 _ [V8,R8] 2 v4q rfl rfl rfl rfl zag rfl hone8 ?_
   intro w9 o9 v9
   replace hh:=(o9.block _ (zaa hh) (by omega)).trans hh
   refine hK.out _ _ (hh) (fun _=>?_)
   clear hK K
   try simp only [putS]
   refine wpAnyH_done (by kernel_rfl) ?_ _
   go_wp2_with fail
   have b9:=zam b8 o9 (by omega) b8.size
   have hft:=HFT.out
   refine bodyPost_ret (results_cell_row (p:=2) (ty:=25) Tryz.results23 _ _ (W.heap.size+1) 25 _ (0,0) _ rfl v9 Tryz.underlying25 rfl zag) rfl ⟨_,[V8,R8],rfl,rfl,?_,b9⟩
   rw [← hft]
   exact tabE.stays (fun g hg=>⟨⟨by have:=hg.1;omega,Nat.lt_of_lt_of_le hg.2 o9.size⟩,o9.block g hg.2 (by have:=hg.1;omega)⟩) H8.out
structure BagI (W:World) (mb m:Nat) (c:List UInt8→Int) (wr:World):Prop where
 bel:Below W.heap.size W wr
 map:∃ n f,n≤m∧HMap wr Tryz.prog 9 mb n f∧∀ k:List UInt8,(f (.string k)).getD (.int .i64 0)=.int .i64 (c k)
theorem BagI.below {W wr w':World} {mb m:Nat} {c:List UInt8→Int} (h:BagI W mb m c wr) (b:Below wr.heap.size wr w'):BagI W mb m c w':=by
 obtain ⟨h1,n,f,h2,h3,h4⟩:=h
 exact ⟨h1.trans (b.mono h1.size),n,f,h2,h3.keep (b.block _ h3.lt),h4⟩
theorem BagI.put {W wr w':World} {mb m n:Nat} {c c':List UInt8→Int} {f:Lit→Option Value} {x:List UInt8} {v:Int} (hb:Below W.heap.size W wr) (hn:n≤m) (h4:∀ k:List UInt8,(f (.string k)).getD (.int .i64 0)=.int .i64 (c k)) (hmb:W.heap.size≤mb) (h:HMap w' Tryz.prog 9 mb (n+1) (updH f (.string x) (.int .i64 v))) (g:wr.grownBy w' (some mb))
 (hx:c' x=v) (ho:∀ k,k≠x→c' k=c k):BagI W mb (m+1) c' w':=by
 refine ⟨hb.grown g hb.size (fun i e=>by cases e;exact hmb),n+1,_,by omega,h,fun k=>?_⟩
 by_cases e:k=x
 ·subst e
  rw [zer,hx]
  rfl
 ·rw [zdi (fun q=>e (zih _ _ q)),ho k e]
  exact h4 k
def cntA (a:List (List Val)) (j:Nat) (k:List UInt8):Int:=(((a.take j).map zao).count k:Nat)
theorem zla {a:List (List Val)} {j:Nat} {x:List Val} (hj:j < a.length) (hx:x=a.getD j []):cntA a (j+1) (zao x)=cntA a j (zao x)+1:=by
 have e:a[j]'hj=x:=by rw [hx,List.getD_eq_getElem?_getD,List.getElem?_eq_getElem hj];rfl
 unfold cntA
 rw [List.take_succ_eq_append_getElem hj,e,List.map_append,List.count_append]
 simp
theorem zl3 {a:List (List Val)} {j:Nat} {x:List Val} (hj:j < a.length) (hx:x=a.getD j []) {k:List UInt8} (hk:k≠zao x):cntA a (j+1) k=cntA a j k:=by
 have e:a[j]'hj=x:=by rw [hx,List.getD_eq_getElem?_getD,List.getElem?_eq_getElem hj];rfl
 unfold cntA
 rw [List.take_succ_eq_append_getElem hj,e,List.map_append,List.count_append]
 have:List.count k [zao x]=0:=by rw [List.count_eq_zero];simpa using hk
 rw [List.map_cons,List.map_nil,this]
 simp
theorem zqq (a:List (List Val)) (j:Nat) (k:List UInt8):0≤cntA a j k∧cntA a j k≤j:=by
 unfold cntA
 have:=List.count_le_length (a:=k) (l:=(a.take j).map zao)
 rw [List.length_map,List.length_take] at this
 omega
theorem bag_no {a b:List (List Val)} {j:Nat} (hj:j < b.length) {x:List Val} (hx:x=b.getD j []) (h:cntA a a.length (zao x) - cntA b j (zao x)=0):¬ (a.map zao).Perm (b.map zao):=fun p=>by
 have h1:=p.count_eq (zao x)
 have h2:=zla hj hx
 have h3:cntA b (j+1) (zao x)≤((b.map zao).count (zao x):Nat):=by
  unfold cntA
  have:((b.take (j+1)).map zao).count (zao x)≤(b.map zao).count (zao x):=((List.take_sublist (j+1) b).map zao).count_le _
  omega
 have h4:cntA a a.length (zao x)=((a.map zao).count (zao x):Nat):=by unfold cntA;rw [List.take_length]
 omega
theorem zfz {α:Type} [BEq α] [LawfulBEq α]:(m l:List α)→m.length=l.length→(∀ k,m.count k≤l.count k)→l.Perm m
 | [],l,hl,_=>by
   obtain rfl:=List.length_eq_zero_iff.1 hl.symm
   exact List.Perm.refl _
 | x::m,l,hl,h=>by
   have hx:x∈l:=by
    have:=h x
    rw [List.count_cons_self] at this
    exact List.count_pos_iff.1 (by omega)
   have hp:=List.perm_cons_erase hx
   refine hp.trans (List.Perm.cons x (zfz m (l.erase x) ?_ fun k=>?_))
   ·have:=hp.length_eq
    simp only [List.length_cons] at this hl
    omega
   ·have h1:=h k
    have h2:=hp.count_eq k
    rw [List.count_cons] at h1 h2
    omega
theorem bag_yes {a b:List (List Val)} (hl:a.length=b.length) (h:∀ k,cntA b b.length k≤cntA a a.length k):(a.map zao).Perm (b.map zao):=by
 refine zfz _ _ (by rw [List.length_map,List.length_map,hl]) fun k=>?_
 have:=h k
 unfold cntA at this
 rw [List.take_length,List.take_length] at this
 omega
theorem zzt (a b:List (List Val)) (VA VB:Value) (W:World) (hG:Gd W) (ha:zai rowE W (Old W) VA a) (hb:zai rowE W (Old W) VB b) (hma:∀ r∈a,∀ v∈r,mayP v 0=true) (hmb:∀ r∈b,∀ v∈r,mayP v 0=true) (hwa:∀ r∈a,13*wAll r≤700000000) (hwb:∀ r∈b,13*wAll r≤700000000) (hna:a.length≤2097152) (hnb:b.length≤2097152):
 Calls Tryz.prog 88 #[VA,VB] W fun e w'=>e=.returned (.bool (decide ((a.map zao).Perm (b.map zao))))∧Below W.heap.size W w':=by
 obtain ⟨pA,kA,rfl⟩:=ha.slice
 obtain ⟨pB,kB,rfl⟩:=hb.slice
 have row:∀ (l:List (List Val)) (p:Option Addr) (n k:Nat),zai rowE W (Old W) (.slice p n k) l→(∀ r∈l,∀ v∈r,mayP v 0=true)→(∀ r∈l,13*wAll r≤700000000)→∀ wr,Below W.heap.size W wr→∀ j,j < l.length→∃ g o pu nu ku x,p=some ⟨g,o,none⟩∧wr.cell? ⟨g,o+j,none⟩=some (.slice pu nu ku)∧x=l.getD j []∧(zao x).length≤900000000∧∀ w',Below wr.heap.size wr w'→Calls Tryz.prog 69 #[.slice pu nu ku] w' fun e w2=>e=.returned (.string (bsB (zao x)))∧Below w'.heap.size w' w2:=fun l p n k h hm hw wr hbl j hj=>by
  obtain ⟨g,o,u,e,_,hc,hs,_,hl⟩:=(h.stays (P':=Old W) (w':=wr) fun g hg=>⟨hg,hbl.block g hg⟩).rowAt70 j hj
  obtain ⟨pu,nu,ku,rfl⟩:∃ p n k,u=.slice p n k:=by
   obtain ⟨a,b,c⟩:=hs.slice
   exact ⟨a,_,b,c⟩
  have hx:l.getD j []=l[j]'hj:=by rw [List.getD_eq_getElem?_getD,List.getElem?_eq_getElem hj];rfl
  have hxm:l.getD j []∈l:=by rw [hx];exact List.getElem_mem hj
  have hw1:=hw _ hxm
  refine ⟨g,o,pu,nu,ku,l.getD j [],e,hc,rfl,by have:=zdg (l.getD j []);omega,fun w' hb'=>?_⟩
  have hbb:=zab hbl hb' hbl.size
  refine zig _ _ w' (hG.below hbb) (zai.stays (E:=valE) (P:=Old W) (w:=wr) (fun g hg=>⟨Nat.lt_of_lt_of_le hg hbb.size,hb'.block g (Nat.lt_of_lt_of_le hg hbl.size)⟩) (by rw [hx];exact hs)) (hm _ hxm) hw1 (by rw [hx];exact hl)
 have HRA:=Lib.hid (row a pA a.length kA ha hma hwa)
 have HRB:=Lib.hid (row b pB b.length kB hb hmb hwb)
 obtain ⟨ans,hans⟩:∃ ans,ans=decide ((a.map zao).Perm (b.map zao)):=⟨_,rfl⟩
 rw [← hans]
 have HANS:=Lib.hid hans
 have hmm:=@run_makeMap Tryz.prog
 clear row ha hb hma hmb hwa hwb hG hans
 have hm0:=HMap.made W Tryz.prog 9
 have bM:Below W.heap.size W (W.alloc (.map #[] 0)):=zav _ _
 have st0:Hid (BagI W W.heap.size 0 (cntA a 0) (W.alloc (.map #[] 0))):=Lib.hid ⟨bM,0,_,Nat.le_refl _,hm0,fun k=>rfl⟩
 go_enter Tryz.func88,Tryz.ntmps88
 go_upto_region 2 with fail
 generalize W.alloc (.map #[] 0)=wM at*
 clear hmm hm0 bM
 go_wp2_with fail
 go_loopg [14] a.length (fun gg s14 wr=>∃ j:Nat,j+gg=a.length∧s14=.int .i64 j∧Hid (BagI W W.heap.size j (cntA a j) wr))
 case atStart=>exact ⟨0,by omega,rfl,st0⟩
 case round=>
  clear st0
  obtain ⟨j,hjg,rfl,HX⟩:=hrel
  by_cases hlt:(j:Int) < a.length
  ·have hj:j < a.length:=by omega
   obtain ⟨g,o,pu,nu,ku,x,rfl,ck,hx,hkl,hen⟩:=HRA.out wr HX.out.bel j hj
   have HEN:=Lib.hid hen
   have HXX:=Lib.hid hx
   have hkey:=keyB hkl
   have hlit:WideAt.IsKeyLit (.string (zao x)):=trivial
   clear hen hx hkl
   go_upto_region 5 with fail
   go_wp2_with (first
    |(go_at_call 69;(with_reducible refine (HEN.out _ (Below.refl _ _)).mono ?_);rintro e w3 ⟨rfl,hb3⟩;refine Hid.out ?_))
   refine Lib.hid ?_
   obtain ⟨hbl,n,f,hnl,hm,hf⟩:=HX.out.below hb3
   have hv:=hf (zao x)
   have hc:=zqq a j (zao x)
   have HF:=Lib.hid (And.intro hbl (And.intro hnl hf))
   have hbnd:n < maxLen:=by unfold maxLen;omega
   clear hb3 hf hbl HX
   obtain ⟨cx,hcx⟩:∃ cx,cx=cntA a j (zao x):=⟨_,rfl⟩
   rw [← hcx] at hv hc
   have HCX:=Lib.hid hcx
   clear hcx
   go_wp2_with (first
    |((with_reducible refine zcs ?_ (.tmp 18) (.tmp 20) 149 ?_ 9 3 (Go.Maps.string_keyed Tryz.underlying9) Tryz.underlying149 (Tryz.zeroValue3 _) W.heap.size n ?_ hm (.string (bsB (zao x))) (.string (zao x)) ?_ hkey hlit ?_);rfl;rfl;rfl;rfl;rw [hv])
    |((with_reducible refine zdt ?_ (.tmp 18) (.tmp 20) (.tmp 22) 149 ?_ 9 3 (Go.Maps.string_keyed Tryz.underlying9) Tryz.underlying149 W.heap.size n ?_ hm hbnd (.string (bsB (zao x))) (.int .i64 (cx+1)) (.string (zao x)) ?_ ?_ hkey hlit ?_);rfl;rfl;rfl;rfl;rfl;intro w4 hm4 hg4))
   have HN:Hid (BagI W W.heap.size (j+1) (cntA a (j+1)) w4):=Lib.hid (BagI.put HF.out.1 HF.out.2.1 HF.out.2.2 (Nat.le_refl _) hm4 hg4 (by rw [zla hj HXX.out,← HCX.out]) fun k hk=>zl3 hj HXX.out hk)
   clear hm4 hg4 hm ck
   go_wp2_with fail
   go_roundg (gk - 1)
   case measure=>omega
   case rel=>exact ⟨j+1,by omega,by go_num,HN⟩
  ·have e:j=a.length:=by omega
   have hX:=HX.out
   rw [e] at hX
   have HX2:=Lib.hid hX
   clear HX hX e
   go_wp2_with fail
   have st1:Hid (BagI W W.heap.size (a.length+0) (fun k=>cntA a a.length k - cntA b 0 k) wr∧∀ k,cntA b 0 k≤cntA a a.length k):=Lib.hid ⟨by
    have h0:(fun k=>cntA a a.length k - cntA b 0 k)=cntA a a.length:=by
     funext k
     show cntA a a.length k - cntA b 0 k=cntA a a.length k
     have:cntA b 0 k=0:=rfl
     omega
    rw [h0]
    exact HX2.out,fun k=>by
    have:cntA b 0 k=0:=rfl
    have:=(zqq a a.length k).1
    omega⟩
   go_loopg [26] b.length (fun gg s26 wx=>∃ i:Nat,i+gg=b.length∧s26=.int .i64 i∧Hid (BagI W W.heap.size (a.length+i) (fun k=>cntA a a.length k - cntA b i k) wx∧∀ k,cntA b i k≤cntA a a.length k))
   case atStart=>exact ⟨0,by omega,rfl,st1⟩
   case round=>
    clear st1 HX2
    obtain ⟨i,hig,rfl,HY⟩:=hrel
    rename World=>wx
    by_cases hlt2:(i:Int) < b.length
    ·have hi:i < b.length:=by omega
     obtain ⟨g,o,pu,nu,ku,x,rfl,ck,hx,hkl,hen⟩:=HRB.out wx HY.out.1.bel i hi
     have HEN:=Lib.hid hen
     have HXX:=Lib.hid hx
     have hkey:=keyB hkl
     have hlit:WideAt.IsKeyLit (.string (zao x)):=trivial
     clear hen hx hkl
     go_wp2_with (first
      |(go_at_call 69;(with_reducible refine (HEN.out _ (Below.refl _ _)).mono ?_);rintro e w3 ⟨rfl,hb3⟩;refine Hid.out ?_))
     refine Lib.hid ?_
     obtain ⟨hbl,n,f,hnl,hm,hf⟩:=HY.out.1.below hb3
     have hv:=hf (zao x)
     have hle:=HY.out.2 (zao x)
     have hc:=zqq a a.length (zao x)
     have hc2:=zqq b i (zao x)
     have HF:=Lib.hid (And.intro hbl (And.intro hnl (And.intro hf HY.out.2)))
     have hbnd:n < maxLen:=by unfold maxLen;omega
     clear hb3 hf hbl HY
     obtain ⟨cx,hcx⟩:∃ cx,cx=cntA a a.length (zao x) - cntA b i (zao x):=⟨_,rfl⟩
     have hcx0:0≤cx:=by omega
     have hcx1:cx≤2097152:=by omega
     rw [← hcx] at hv
     have HCX:=Lib.hid hcx
     clear hcx hle hc hc2
     by_cases hz:cx=0
     ·subst hz
      have hno:ans=false:=by rw [HANS.out,decide_eq_false_iff_not];exact bag_no hi HXX.out HCX.out.symm
      have HNO:=Lib.hid hno
      clear hno
      go_wp2_with (first
       |((with_reducible refine zcs ?_ (.tmp 32) (.tmp 33) 149 ?_ 9 3 (Go.Maps.string_keyed Tryz.underlying9) Tryz.underlying149 (Tryz.zeroValue3 _) W.heap.size n ?_ hm (.string (bsB (zao x))) (.string (zao x)) ?_ hkey hlit ?_);rfl;rfl;rfl;rfl;rw [hv]))
      go_ret
      exact ⟨by rw [HNO.out];rfl,HF.out.1⟩
     ·have hzb:(cx == 0)=false:=by rw [beq_eq_false_iff_ne];exact hz
      go_wp2_with (first
       |((with_reducible refine zcs ?_ (.tmp 32) (.tmp 33) 149 ?_ 9 3 (Go.Maps.string_keyed Tryz.underlying9) Tryz.underlying149 (Tryz.zeroValue3 _) W.heap.size n ?_ hm (.string (bsB (zao x))) (.string (zao x)) ?_ hkey hlit ?_);rfl;rfl;rfl;rfl;rw [hv])
       |((with_reducible refine zcs ?_ (.tmp 36) (.tmp 37) 149 ?_ 9 3 (Go.Maps.string_keyed Tryz.underlying9) Tryz.underlying149 (Tryz.zeroValue3 _) W.heap.size n ?_ hm (.string (bsB (zao x))) (.string (zao x)) ?_ hkey hlit ?_);rfl;rfl;rfl;rfl;rw [hv])
       |((with_reducible refine zdt ?_ (.tmp 36) (.tmp 37) (.tmp 39) 149 ?_ 9 3 (Go.Maps.string_keyed Tryz.underlying9) Tryz.underlying149 W.heap.size n ?_ hm hbnd (.string (bsB (zao x))) (.int .i64 (cx - 1)) (.string (zao x)) ?_ ?_ hkey hlit ?_);rfl;rfl;rfl;rfl;rfl;intro w4 hm4 hg4))
      have HN:Hid (BagI W W.heap.size (a.length+(i+1)) (fun k=>cntA a a.length k - cntA b (i+1) k) w4∧∀ k,cntA b (i+1) k≤cntA a a.length k):=Lib.hid ⟨BagI.put HF.out.1 HF.out.2.1 HF.out.2.2.1 (Nat.le_refl _) hm4 hg4 (by
       show cntA a a.length (zao x) - cntA b (i+1) (zao x)=cx - 1
       rw [zla hi HXX.out,HCX.out]
       omega) fun k hk=>by
       show cntA a a.length k - cntA b (i+1) k=cntA a a.length k - cntA b i k
       rw [zl3 hi HXX.out hk],fun k=>by
       by_cases e:k=zao x
       ·subst e
        rw [zla hi HXX.out]
        have:=HCX.out
        omega
       ·rw [zl3 hi HXX.out e]
        exact HF.out.2.2.2 k⟩
      clear hm4 hg4 hm ck
      go_wp2_with fail
      go_roundg (gk - 1)
      case measure=>omega
      case rel=>exact ⟨i+1,by omega,by go_num,HN⟩
    ·have e:i=b.length:=by omega
     have hY:=HY.out
     rw [e] at hY
     have HY2:=Lib.hid hY
     have HB2:=Lib.hid HY.out.1.bel
     clear HY hY e
     by_cases hl:a.length=b.length
     ·have hyes:ans=true:=by rw [HANS.out,decide_eq_true_iff];exact bag_yes hl HY2.out.2
      have HYES:=Lib.hid hyes
      clear hyes
      go_wp2_with fail
      go_ret
      exact ⟨by rw [HYES.out];first | rfl | simp [hl],HB2.out⟩
     ·have hno:ans=false:=by
       rw [HANS.out,decide_eq_false_iff_not]
       intro p
       have:=p.length_eq
       rw [List.length_map,List.length_map] at this
       exact hl this
      have HNO:=Lib.hid hno
      have q:((a.length:Int) == b.length)=false:=by rw [beq_eq_false_iff_ne];omega
      clear hno
      go_wp2_with fail
      go_ret
      exact ⟨by rw [HNO.out];first | rfl | simp [q],HB2.out⟩
theorem equal87 (l1 l2:List ByteArray) (V1 V2:Value) (w:World) (h1:zai zaz w (Old w) V1 l1) (h2:zai zaz w (Old w) V2 l2) (hn1:l1.length≤2097152) (hn2:l2.length≤2097152):Calls Tryz.prog 87 #[V1,V2] w fun e w'=>e=.returned (.bool (decide (l1=l2)))∧Below w.heap.size w w':=by
 obtain ⟨p1,k1,rfl⟩:=h1.slice
 obtain ⟨p2,k2,rfl⟩:=h2.slice
 obtain ⟨n,hn⟩:∃ n,n=l1.length:=⟨_,rfl⟩
 obtain ⟨m,hm⟩:∃ m,m=l2.length:=⟨_,rfl⟩
 obtain ⟨ans,hans⟩:∃ ans,ans=decide (l1=l2):=⟨_,rfl⟩
 rw [← hans,← hn,← hm]
 rw [← hn] at hn1
 rw [← hm] at hn2
 have HN:=Lib.hid hn
 have HM:=Lib.hid hm
 have HA:=Lib.hid hans
 have H1:=Lib.hid h1
 have H2:=Lib.hid h2
 clear h1 h2 hn hm hans
 by_cases hnm:n=m
 ·subst hnm
  go_enter Tryz.func87,Tryz.ntmps87
  go_wp2_with fail
  go_loopg [13] n (fun gg s13 wr=>∃ j:Nat,j+gg=n∧s13=.int .i64 j∧Hid (Below w.heap.size w wr)∧Hid (∀ i (a:i < l1.length) (b:i < l2.length),i < j→l1[i]=l2[i]))
  case atStart=>exact ⟨0,by omega,rfl,Lib.hid (Below.refl _ _),Lib.hid (fun i _ _ h=>absurd h (by omega))⟩
  case round=>
   obtain ⟨j,hjg,rfl,HB,HE⟩:=hrel
   by_cases hlt:(j:Int) < n
   ·have hj1:j < l1.length:=by have:=HN.out;omega
    have hj2:j < l2.length:=by have:=HM.out;omega
    obtain ⟨g1,o1,c1,d1,e1,_,hr1,ha1⟩:=(H1.out.stays (zae HB.out)).at_ j hj1
    obtain ⟨g2,o2,c2,d2,e2,_,hr2,ha2⟩:=(H2.out.stays (zae HB.out)).at_ j hj2
    injection e1 with e11 e12 e13
    injection e2 with e21 e22 e23
    subst e11
    subst e21
    obtain ⟨x,hx⟩:∃ x,x=l1[j]'hj1:=⟨_,rfl⟩
    obtain ⟨y,hy⟩:∃ y,y=l2[j]'hj2:=⟨_,rfl⟩
    have cx:wr.cell? ⟨g1,o1+j,none⟩=some (.string x):=by
     obtain ⟨rfl,_⟩:=hr1
     have:=ha1 0 _ rfl
     rw [hx]
     simpa [zaz] using this
    have cy:wr.cell? ⟨g2,o2+j,none⟩=some (.string y):=by
     obtain ⟨rfl,_⟩:=hr2
     have:=ha2 0 _ rfl
     rw [hy]
     simpa [zaz] using this
    have HXY:=Lib.hid (And.intro hx hy)
    clear hr1 hr2 ha1 ha2 hx hy e12 e13 e22 e23
    go_upto_region 6 with fail
    by_cases q:x=y
    ·subst q
     refine wp_region_held_drew (S:=fun W'=>W'.cell? ⟨g1,o1+j,none⟩=some (.string x)∧W'.cell? ⟨g2,o2+j,none⟩=some (.string x)) (by kernel_rfl) ⟨cx,cy⟩ (fun hh=>?_)
     have bq:Below w.heap.size w wr.drew:=HB.out.drew
     have HB2:=Lib.hid bq
     clear cx cy bq
     generalize wr.drew=wD at*
     refine tg (i:=0) (.slice (some ⟨g1,o1,none⟩) n k1) rfl (hh) ?_
     refine tg (i:=1) (.int .i64 (j:Int)) rfl (hh) ?_
     refine tg (i:=4) (.slice (some ⟨g2,o2,none⟩) n k2) rfl (hh) ?_
     refine tg (i:=5) (.int .i64 (j:Int)) rfl (hh) ?_
     refine tg (i:=2) (.pointer (some ⟨g1,o1+j,none⟩)) rfl (hh) ?_
     refine tg (i:=6) (.pointer (some ⟨g2,o2+j,none⟩)) rfl (hh) ?_
     refine tk (i:=3) (v:=.string x) rfl (Or.inl ⟨by rfl,fun W' h=>by have c0:=h.1;go_simp⟩) (hh) ?_
     refine tk (i:=7) (v:=.string x) rfl (Or.inl ⟨by rfl,fun W' h=>by have c0:=h.2;go_simp⟩) (hh) ?_
     refine tg (i:=8) (.bool false) rfl (hh) ?_
     refine wpAnyH_done (by kernel_rfl) ?_ _
     have HE2:Hid (∀ i (a:i < l1.length) (b:i < l2.length),i < j+1→l1[i]=l2[i]):=Lib.hid fun i a b h=>by
      by_cases e:i=j
      ·subst e;exact HXY.out.1.symm.trans HXY.out.2
      ·exact HE.out i a b (by omega)
     clear hh
     go_wp2_with fail
     go_roundg (gk - 1)
     case measure=>omega
     case rel=>exact ⟨j+1,by omega,by go_num,HB2,HE2⟩
    ·have q2:(x.toList == y.toList)=false:=zsy q
     refine wp_region_held_drew (S:=fun W'=>W'.cell? ⟨g1,o1+j,none⟩=some (.string x)∧W'.cell? ⟨g2,o2+j,none⟩=some (.string y)) (by kernel_rfl) ⟨cx,cy⟩ (fun hh=>?_)
     have bq:Below w.heap.size w wr.drew:=HB.out.drew
     have HB2:=Lib.hid bq
     have HQ:=Lib.hid q
     clear cx cy bq q
     generalize wr.drew=wD at*
     refine tg (i:=0) (.slice (some ⟨g1,o1,none⟩) n k1) rfl (hh) ?_
     refine tg (i:=1) (.int .i64 (j:Int)) rfl (hh) ?_
     refine tg (i:=4) (.slice (some ⟨g2,o2,none⟩) n k2) rfl (hh) ?_
     refine tg (i:=5) (.int .i64 (j:Int)) rfl (hh) ?_
     refine tg (i:=2) (.pointer (some ⟨g1,o1+j,none⟩)) rfl (hh) ?_
     refine tg (i:=6) (.pointer (some ⟨g2,o2+j,none⟩)) rfl (hh) ?_
     refine tk (i:=3) (v:=.string x) rfl (Or.inl ⟨by rfl,fun W' h=>by have c0:=h.1;go_simp⟩) (hh) ?_
     refine tk (i:=7) (v:=.string y) rfl (Or.inl ⟨by rfl,fun W' h=>by have c0:=h.2;go_simp⟩) (hh) ?_
     refine tg (i:=8) (.bool true) rfl (hh) ?_
     refine wpAnyH_done (by kernel_rfl) ?_ _
     have hne:ans=false:=by
      rw [HA.out,decide_eq_false_iff_not]
      intro e
      refine HQ.out ?_
      rw [HXY.out.1,HXY.out.2]
      subst e
      rfl
     have HAN:=Lib.hid hne
     clear hne hh
     go_wp2_with fail
     go_ret
     exact ⟨by rw [HAN.out];rfl,HB2.out⟩
   ·have hall:ans=true:=by
     rw [HA.out,decide_eq_true_iff]
     refine List.ext_getElem (by rw [← HN.out,← HM.out]) fun i a b=>HE.out i a b (by have:=HN.out;omega)
    have HAN:=Lib.hid hall
    clear hall
    go_wp2_with fail
    go_ret
    exact ⟨by rw [HAN.out];rfl,HB.out⟩
 ·have hne:ans=false:=by
   rw [HA.out,decide_eq_false_iff_not]
   intro e
   exact hnm (by rw [HN.out,HM.out,e])
  have HAN:=Lib.hid hne
  have q:((n:Int) == m)=false:=by rw [beq_eq_false_iff_ne];omega
  clear hne
  go_enter Tryz.func87,Tryz.ntmps87
  go_wp2_with fail
  go_ret
  exact ⟨by rw [HAN.out];rfl,Below.refl _ _⟩
end Go.Proofs.YteclpnfckjfibaaGreatDoor
