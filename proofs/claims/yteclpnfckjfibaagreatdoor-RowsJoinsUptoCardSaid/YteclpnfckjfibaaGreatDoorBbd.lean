/- Texts of one kind, one behind the other: each says ahead of itself what it shows. -/
import Derived.Test.YteclpnfckjfibaaGreatDoorBbc
/- LJ -/
namespace Go.Proofs.YteclpnfckjfibaaGreatDoor
open Go.RowKit
set_option maxHeartbeats 25600000 in
set_option maxRecDepth 20000 in
theorem zy2 (a b:TabL) (VA RA VB RB VV NN:Value) (lang:Int) (W:World) (hG:Gd W) (h:zq9 W a b VA RA VB RB) (hV:VV.oneCell'=true) (hN:NN.oneCell'=true):Calls Tryz.prog 5 #[.agg #[VA,RA,VB,RB,VV,.int .i64 lang,NN]] W fun e w'=>e=.returned (.bool true)∧Below W.heap.size W w':=by
 have HMAY:Hid (∀ w',Below W.heap.size W w'→Calls Tryz.prog 37 #[.agg #[VA,RA,VB,RB,VV,.int .i64 lang,NN]] w' fun e w2=>e=.returned (.bool (mayB a b))∧Below w'.heap.size w' w2):=Lib.hid fun w' k=>mayAt a b _ _ _ _ _ _ lang w' (h.below k) hV hN
 have HWK:Hid (∀ w',Below W.heap.size W w'→Calls Tryz.prog 11 #[] w' fun e w2=>e=.returned (.bool true)∧Below w'.heap.size w' w2):=Lib.hid fun w' k=>wakesAt w' (hG.below k)
 have HP:Hid (mayB a b=true→zwz a b∧a.rows.length≤60∧b.rows.length≤60∧a.vars.length≤64∧b.vars.length≤64):=Lib.hid fun q=>by
  obtain ⟨h1,h2,h3,h4,h5,h6,h7,h8⟩:=zwo q h.wa h.wb
  exact ⟨zyy h1 h2 h3 h4 h5 h6 h7 h8,h7,h8,by omega,by omega⟩
 have TA0:=zdj.of h.ha
 have TB0:=zdj.of h.hb
 obtain ⟨pA,kA,qA,lA,e1,e2⟩:=TA0.slices
 subst e1 e2
 obtain ⟨pB,kB,qB,lB,e1,e2⟩:=TB0.slices
 subst e1 e2
 obtain ⟨W1,hW1⟩:∃ W1,W1=W.alloc (.cells #[.slice pA a.vars.length kA,.slice qA a.rows.length lA,.slice pB b.vars.length kB,.slice qB b.rows.length lB,VV,.int .i64 lang,NN] 28):=⟨_,rfl⟩
 have b1:Below W.heap.size W W1:=by rw [hW1];exact zaz _ _
 obtain ⟨g0,hg0⟩:∃ g0,g0=W.heap.size:=⟨_,rfl⟩
 have u1:W1.heap[g0]?=some (.cells #[.slice pA a.vars.length kA,.slice qA a.rows.length lA,.slice pB b.vars.length kB,.slice qB b.rows.length lB,VV,.int .i64 lang,NN] 28):=by rw [hW1,hg0];exact zah _ _ rfl
 have HW:=Lib.hid hW1
 have HG0:=Lib.hid hg0
 replace TA0:=TA0.below b1
 replace TB0:=TB0.below b1
 replace hG:=hG.below b1
 obtain ⟨c0,hc0⟩:∃ c0,c0=mayB a b:=⟨_,rfl⟩
 rw [← hc0] at HMAY HP
 clear hW1 hg0 h hc0 hV hN
 cases c0 with
 | false=>
   go_enter Tryz.func5,Tryz.ntmps5
   go_upto_region 1 with fail
   rw [← HW.out,← HG0.out]
   go_wp2_with (first
    |((with_reducible refine zag (.tmp 1) g0 28 28 [.slice pA a.vars.length kA,.slice qA a.rows.length lA,.slice pB b.vars.length kB,.slice qB b.rows.length lB,VV,.int .i64 lang,NN] 7 _ u1 rfl Tryz.underlying28 rfl zee ?_ ?_ ?_ ?_);rfl;rfl;rfl)
    |(go_at_call 37;(with_reducible refine (HMAY.out _ b1).mono ?_);rintro e w2 ⟨rfl,hb2⟩;replace b1:=zab b1 hb2 b1.size)
    |(go_at_call 11;(with_reducible refine (HWK.out _ b1).mono ?_);rintro e w3 ⟨rfl,hb3⟩;replace b1:=zab b1 hb3 b1.size))
   go_ret
   exact ⟨rfl,b1⟩
 | true=>
   obtain ⟨P,hna,hnb,hma,hmb⟩:=HP.out rfl
   have HPO:=Lib.hid P
   clear P HP
   go_enter Tryz.func5,Tryz.ntmps5
   go_upto_region 1 with fail
   rw [← HW.out,← HG0.out]
   go_upto_region 3 with (first
    |((with_reducible refine zag (.tmp 1) g0 28 28 [.slice pA a.vars.length kA,.slice qA a.rows.length lA,.slice pB b.vars.length kB,.slice qB b.rows.length lB,VV,.int .i64 lang,NN] 7 _ u1 rfl Tryz.underlying28 rfl zee ?_ ?_ ?_ ?_);rfl;rfl;rfl)
    |(go_at_call 37;(with_reducible refine (HMAY.out _ b1).mono ?_);rintro e w2 ⟨rfl,hb2⟩))
   replace b1:=zab b1 hb2 b1.size
   replace TA0:=TA0.below hb2
   replace TB0:=TB0.below hb2
   replace hG:=hG.below hb2
   replace u1:=(hb2.block _ (zaa u1)).trans u1
   clear hb2 HMAY HW HG0
   have rA:w2.rangeAt g0 0 [.slice pA a.vars.length kA,.slice qA a.rows.length lA]:=zbs u1 [] [.slice pB b.vars.length kB,.slice qB b.rows.length lB,VV,.int .i64 lang,NN] rfl
   have rB:w2.rangeAt g0 2 [.slice pB b.vars.length kB,.slice qB b.rows.length lB]:=zbs u1 [.slice pA a.vars.length kA,.slice qA a.rows.length lA] [VV,.int .i64 lang,NN] rfl
   have HU:=Lib.hid (zmm a b _ _ _ _ w2 hG TA0.here TB0.here HPO.out.w1 HPO.out.n1)
   go_upto_region 4 with (first
    |((with_reducible refine zax (.tmp 17) g0 0 25 [.slice pA a.vars.length kA,.slice qA a.rows.length lA] 2 _ rA rfl Tryz.underlying25 rfl zae ?_ ?_ ?_ ?_);rfl;rfl;rfl)
    |((with_reducible refine zax (.tmp 19) g0 2 25 [.slice pB b.vars.length kB,.slice qB b.rows.length lB] 2 _ rB rfl Tryz.underlying25 rfl zae ?_ ?_ ?_ ?_);rfl;rfl;rfl)
    |(go_at_call 25;(with_reducible refine HU.out.mono ?_);rintro e w3 hu;go_loud (obtain ⟨Va,Ra,rfl,hb3,TJ⟩:=zef hu;obtain ⟨pj,kj,qj,lj,ej,fj⟩:=TJ.slices;subst ej fj;clear hu)))
   obtain ⟨ga,hga⟩:∃ ga,ga=w3.heap.size:=⟨_,rfl⟩
   obtain ⟨w4,hw4⟩:∃ w4,w4=w3.alloc (.cells #[.slice pj (za4 a b).vars.length kj,.slice qj (za4 a b).rows.length lj] 25):=⟨_,rfl⟩
   rw [← hw4,← hga]
   have b34:Below w3.heap.size w3 w4:=by rw [hw4];exact zaz _ _
   have v1:w4.heap[ga]?=some (.cells #[.slice pj (za4 a b).vars.length kj,.slice qj (za4 a b).rows.length lj] 25):=by rw [hw4,hga];exact zah _ _ rfl
   have bz:=zab hb3 b34 hb3.size
   replace TJ:=TJ.below b34
   replace u1:=(bz.block _ (zaa u1)).trans u1
   replace b1:=zab b1 bz b1.size
   replace hG:=hG.below bz
   replace TA0:=TA0.below bz
   replace TB0:=TB0.below bz
   clear bz
   clear b34 hb3 hw4 hga HU rA rB
   have rA:w4.rangeAt g0 0 [.slice pA a.vars.length kA,.slice qA a.rows.length lA]:=zbs u1 [] [.slice pB b.vars.length kB,.slice qB b.rows.length lB,VV,.int .i64 lang,NN] rfl
   have rB:w4.rangeAt g0 2 [.slice pB b.vars.length kB,.slice qB b.rows.length lB]:=zbs u1 [.slice pA a.vars.length kA,.slice qA a.rows.length lA] [VV,.int .i64 lang,NN] rfl
   have HU:=Lib.hid (zmm b a _ _ _ _ w4 hG TB0.here TA0.here HPO.out.w2 HPO.out.n2)
   go_upto_region 5 with (first
    |((with_reducible refine zax (.tmp 24) g0 0 25 [.slice pA a.vars.length kA,.slice qA a.rows.length lA] 2 _ rA rfl Tryz.underlying25 rfl zae ?_ ?_ ?_ ?_);rfl;rfl;rfl)
    |((with_reducible refine zax (.tmp 22) g0 2 25 [.slice pB b.vars.length kB,.slice qB b.rows.length lB] 2 _ rB rfl Tryz.underlying25 rfl zae ?_ ?_ ?_ ?_);rfl;rfl;rfl)
    |(go_at_call 25;(with_reducible refine HU.out.mono ?_);rintro e w5 hu;go_loud (obtain ⟨Vb,Rb,rfl,hb5,TK⟩:=zef hu;obtain ⟨pk,kk,qk,lk,ek,fk⟩:=TK.slices;subst ek fk;clear hu)))
   obtain ⟨gb,hgb⟩:∃ gb,gb=w5.heap.size:=⟨_,rfl⟩
   obtain ⟨w6,hw6⟩:∃ w6,w6=w5.alloc (.cells #[.slice pk (za4 b a).vars.length kk,.slice qk (za4 b a).rows.length lk] 25):=⟨_,rfl⟩
   rw [← hw6,← hgb]
   have b34:Below w5.heap.size w5 w6:=by rw [hw6];exact zaz _ _
   have v2:w6.heap[gb]?=some (.cells #[.slice pk (za4 b a).vars.length kk,.slice qk (za4 b a).rows.length lk] 25):=by rw [hw6,hgb];exact zah _ _ rfl
   have bz:=zab hb5 b34 hb5.size
   replace TK:=TK.below b34
   replace u1:=(bz.block _ (zaa u1)).trans u1
   replace v1:=(bz.block _ (zaa v1)).trans v1
   replace b1:=zab b1 bz b1.size
   replace hG:=hG.below bz
   replace TA0:=TA0.below bz
   replace TB0:=TB0.below bz
   replace TJ:=TJ.below bz
   clear bz
   clear b34 hb5 hw6 hgb HU rA rB
   go_upto_region 6 with fail
   obtain ⟨w7,hw7⟩:∃ w7,w7=(w6.alloc (.cells #[.slice none 0 0] 43)).alloc (.cells #[.slice none 0 0,.slice (some ⟨w6.heap.size,0,none⟩) 1 1] 25):=⟨_,rfl⟩
   rw [← hw7]
   have bz:Below w6.heap.size w6 w7:=by rw [hw7];exact zc6 _ _ _
   have x1:w7.heap[w6.heap.size]?=some (.cells #[.slice none 0 0] 43):=by rw [hw7];exact zaq _ (zah _ _ rfl)
   obtain ⟨gu,hgu⟩:∃ gu,gu=w6.heap.size+1:=⟨_,rfl⟩
   have v3:w7.heap[gu]?=some (.cells #[.slice none 0 0,.slice (some ⟨w6.heap.size,0,none⟩) 1 1] 25):=by rw [hw7,hgu];exact zah _ _ (by simp)
   rw [← hgu]
   have TU:zdj w7 (.slice none 0 0) (.slice (some ⟨w6.heap.size,0,none⟩) 1 1) zfk:=zdj.of ⟨_,_,rfl,zaf.nil _ _,zcn (P:=Old w7) x1 (show _ < _ from zaa x1) (RowE.single (E:=rowE) (a:=[]) ⟨_,rfl,zaf.nil _ _,zgx,by simp⟩) 1 rfl,zgx,zfl _ _,by decide,by decide⟩
   obtain ⟨gw,hgw⟩:∃ gw,gw=w6.heap.size:=⟨_,rfl⟩
   rw [← hgw] at v3 TU
   replace u1:=(bz.block _ (zaa u1)).trans u1
   replace v1:=(bz.block _ (zaa v1)).trans v1
   replace v2:=(bz.block _ (zaa v2)).trans v2
   replace b1:=zab b1 bz b1.size
   replace hG:=hG.below bz
   replace TA0:=TA0.below bz
   replace TB0:=TB0.below bz
   replace TJ:=TJ.below bz
   replace TK:=TK.below bz
   clear bz
   clear hw7 x1 hgu hgw
   refine wp_region_held_drew (S:=fun W'=>W'.heap[g0]?=some (.cells #[.slice pA a.vars.length kA,.slice qA a.rows.length lA,.slice pB b.vars.length kB,.slice qB b.rows.length lB,VV,.int .i64 lang,NN] 28)∧W'.heap[ga]?=some (.cells #[.slice pj (za4 a b).vars.length kj,.slice qj (za4 a b).rows.length lj] 25)∧W'.heap[gb]?=some (.cells #[.slice pk (za4 b a).vars.length kk,.slice qk (za4 b a).rows.length lk] 25)∧W'.heap[gu]?=some (.cells #[.slice none 0 0,.slice (some ⟨gw,0,none⟩) 1 1] 25)) (by kernel_rfl) ⟨u1,v1,v2,v3⟩ (fun hh=>?_)
   have hh1:=hh.1
   have hh2:=hh.2.1
   have hh3:=hh.2.2.1
   have hh4:=hh.2.2.2
   clear hh
   have bq:Below w7.heap.size w7 w7.drew:=(Below.refl _ _).drew
   replace b1:=zab b1 bq b1.size
   replace hG:=hG.below bq
   replace TA0:=TA0.below bq
   replace TB0:=TB0.below bq
   replace TJ:=TJ.below bq
   replace TK:=TK.below bq
   replace TU:=TU.below bq
   clear bq u1 v1 v2 v3
   generalize w7.drew=wD at*
   refine tk (i:=0) (v:=.agg #[.slice pj (za4 a b).vars.length kj,.slice qj (za4 a b).rows.length lj]) rfl (yieldsIf_load_mid (by rfl) 25 (.tmp 3) rfl ga 0 rfl [.slice pj (za4 a b).vars.length kj,.slice qj (za4 a b).rows.length lj] _ (fun W h=>zb5 h.2.1 0 _ (fun j v hv=>by match j,hv with | 0,e | 1,e=>simpa using e | j+2,e=>simp at e)) Tryz.underlying25 rfl zae) (⟨hh1,hh2,hh3,hh4⟩) ?_
   try simp only [Act.put,List.getElem_toArray,List.getElem_cons_zero,List.setIfInBounds_toArray,List.set_cons_zero,List.set_cons_succ]
   refine tk (i:=1) (v:=.agg #[.slice pk (za4 b a).vars.length kk,.slice qk (za4 b a).rows.length lk]) rfl (yieldsIf_load_mid (by rfl) 25 (.tmp 4) rfl gb 0 rfl [.slice pk (za4 b a).vars.length kk,.slice qk (za4 b a).rows.length lk] _ (fun W h=>zb5 h.2.2.1 0 _ (fun j v hv=>by match j,hv with | 0,e | 1,e=>simpa using e | j+2,e=>simp at e)) Tryz.underlying25 rfl zae) (⟨hh1,hh2,hh3,hh4⟩) ?_
   refine tg (i:=2) (.pointer (some ⟨ga,0,none⟩)) rfl (⟨hh1,hh2,hh3,hh4⟩) ?_
   refine tk (i:=3) (v:=.slice pj (za4 a b).vars.length kj) rfl (Or.inl ⟨by rfl,fun W' h=>by have c0:=zac h.2.1 0 rfl;go_simp⟩) (⟨hh1,hh2,hh3,hh4⟩) ?_
   refine tr 4 rfl (fun K hK=>?_)
   try rw [if_pos (by rfl)]
   go_simp
   refine (zwh (za4 b a) (za4 a b).vars _ _ _ wD hG TK.here TJ.vars TJ.cap.1 HPO.out.nv).mono ?_
   rintro e4 w4_ h4
   obtain ⟨V4,R4,rfl,hb4,PX⟩:=zef h4
   clear h4
   replace hh1:=(hb4.block _ (zaa hh1)).trans hh1
   replace hh2:=(hb4.block _ (zaa hh2)).trans hh2
   replace hh3:=(hb4.block _ (zaa hh3)).trans hh3
   replace hh4:=(hb4.block _ (zaa hh4)).trans hh4
   replace b1:=zab b1 hb4 b1.size
   replace hG:=hG.below hb4
   replace TA0:=TA0.below hb4
   replace TB0:=TB0.below hb4
   replace TJ:=TJ.below hb4
   replace TK:=TK.below hb4
   replace TU:=TU.below hb4
   clear hb4
   refine hK.out _ _ (⟨hh1,hh2,hh3,hh4⟩) (fun _=>?_)
   clear hK K
   try simp only [putS]
   refine tr 5 rfl (fun K hK=>?_)
   try rw [if_pos (by rfl)]
   go_simp
   refine (zln _ _ _ _ _ _ w4_ hG TJ.here PX.here HPO.out.v1 HPO.out.v2).mono ?_
   rintro e5 w5_ ⟨rfl,hb5⟩
   rw [HPO.out.h1]
   replace hh1:=(hb5.block _ (zaa hh1)).trans hh1
   replace hh2:=(hb5.block _ (zaa hh2)).trans hh2
   replace hh3:=(hb5.block _ (zaa hh3)).trans hh3
   replace hh4:=(hb5.block _ (zaa hh4)).trans hh4
   replace b1:=zab b1 hb5 b1.size
   replace hG:=hG.below hb5
   replace TA0:=TA0.below hb5
   replace TB0:=TB0.below hb5
   replace TJ:=TJ.below hb5
   replace TK:=TK.below hb5
   replace TU:=TU.below hb5
   replace PX:=PX.below hb5
   clear hb5
   clear PX TK
   refine hK.out _ _ (⟨hh1,hh2,hh3,hh4⟩) (fun _=>?_)
   clear hK K
   try simp only [putS]
   refine tg (i:=6) (.bool false) rfl (⟨hh1,hh2,hh3,hh4⟩) ?_
   refine tg (i:=7) (.bool false) rfl (⟨hh1,hh2,hh3,hh4⟩) ?_
   refine tg (i:=8) (.pointer (some ⟨g0,0,none⟩)) rfl (⟨hh1,hh2,hh3,hh4⟩) ?_
   refine tk (i:=10) (v:=.agg #[.slice none 0 0,.slice (some ⟨gw,0,none⟩) 1 1]) rfl (yieldsIf_load_mid (by rfl) 25 (.tmp 5) rfl gu 0 rfl [.slice none 0 0,.slice (some ⟨gw,0,none⟩) 1 1] _ (fun W h=>zb5 h.2.2.2 0 _ (fun j v hv=>by match j,hv with | 0,e | 1,e=>simpa using e | j+2,e=>simp at e)) Tryz.underlying25 rfl zae) (⟨hh1,hh2,hh3,hh4⟩) ?_
   refine tg (i:=12) (.pointer (some ⟨g0,0,none⟩)) rfl (⟨hh1,hh2,hh3,hh4⟩) ?_
   refine tk (i:=9) (v:=.agg #[.slice pA a.vars.length kA,.slice qA a.rows.length lA]) rfl (yieldsIf_load_mid (by rfl) 25 (.tmp 37) rfl g0 0 rfl [.slice pA a.vars.length kA,.slice qA a.rows.length lA] _ (fun W h=>zbs h.1 [] ([.slice pB b.vars.length kB,.slice qB b.rows.length lB]++[VV,.int .i64 lang,NN]) rfl) Tryz.underlying25 rfl zae) (⟨hh1,hh2,hh3,hh4⟩) ?_
   refine tk (i:=13) (v:=.agg #[.slice pA a.vars.length kA,.slice qA a.rows.length lA]) rfl (yieldsIf_load_mid (by rfl) 25 (.tmp 41) rfl g0 0 rfl [.slice pA a.vars.length kA,.slice qA a.rows.length lA] _ (fun W h=>zbs h.1 [] ([.slice pB b.vars.length kB,.slice qB b.rows.length lB]++[VV,.int .i64 lang,NN]) rfl) Tryz.underlying25 rfl zae) (⟨hh1,hh2,hh3,hh4⟩) ?_
   refine tr 11 rfl (fun K hK=>?_)
   try rw [if_pos (by rfl)]
   go_simp
   refine (zmm a zfk _ _ _ _ w5_ hG TA0.here TU.here HPO.out.w3 HPO.out.n3).mono ?_
   rintro e11 w11_ h11
   obtain ⟨V11,R11,rfl,hb11,Q1⟩:=zef h11
   clear h11
   rw [HPO.out.hju] at Q1
   replace hh1:=(hb11.block _ (zaa hh1)).trans hh1
   replace hh2:=(hb11.block _ (zaa hh2)).trans hh2
   replace hh3:=(hb11.block _ (zaa hh3)).trans hh3
   replace hh4:=(hb11.block _ (zaa hh4)).trans hh4
   replace b1:=zab b1 hb11 b1.size
   replace hG:=hG.below hb11
   replace TA0:=TA0.below hb11
   replace TB0:=TB0.below hb11
   replace TJ:=TJ.below hb11
   replace TU:=TU.below hb11
   clear hb11
   refine hK.out _ _ (⟨hh1,hh2,hh3,hh4⟩) (fun _=>?_)
   clear hK K
   try simp only [putS]
   refine tr 14 rfl (fun K hK=>?_)
   try rw [if_pos (by rfl)]
   go_simp
   refine (zln a a _ _ _ _ w11_ hG Q1.here TA0.here HPO.out.va HPO.out.va).mono ?_
   rintro e14 w14_ ⟨rfl,hb14⟩
   rw [HPO.out.haa]
   replace hh1:=(hb14.block _ (zaa hh1)).trans hh1
   replace hh2:=(hb14.block _ (zaa hh2)).trans hh2
   replace hh3:=(hb14.block _ (zaa hh3)).trans hh3
   replace hh4:=(hb14.block _ (zaa hh4)).trans hh4
   replace b1:=zab b1 hb14 b1.size
   replace hG:=hG.below hb14
   replace TA0:=TA0.below hb14
   replace TB0:=TB0.below hb14
   replace TJ:=TJ.below hb14
   replace TU:=TU.below hb14
   replace Q1:=Q1.below hb14
   clear hb14
   clear Q1
   refine hK.out _ _ (⟨hh1,hh2,hh3,hh4⟩) (fun _=>?_)
   clear hK K
   try simp only [putS]
   refine tg (i:=15) (.bool false) rfl (⟨hh1,hh2,hh3,hh4⟩) ?_
   refine tg (i:=16) (.bool false) rfl (⟨hh1,hh2,hh3,hh4⟩) ?_
   refine tg (i:=17) (.bool false) rfl (⟨hh1,hh2,hh3,hh4⟩) ?_
   refine tk (i:=18) (v:=.agg #[.slice none 0 0,.slice (some ⟨gw,0,none⟩) 1 1]) rfl (yieldsIf_load_mid (by rfl) 25 (.tmp 5) rfl gu 0 rfl [.slice none 0 0,.slice (some ⟨gw,0,none⟩) 1 1] _ (fun W h=>zb5 h.2.2.2 0 _ (fun j v hv=>by match j,hv with | 0,e | 1,e=>simpa using e | j+2,e=>simp at e)) Tryz.underlying25 rfl zae) (⟨hh1,hh2,hh3,hh4⟩) ?_
   refine tg (i:=19) (.pointer (some ⟨g0,0,none⟩)) rfl (⟨hh1,hh2,hh3,hh4⟩) ?_
   refine tg (i:=22) (.pointer (some ⟨g0,0,none⟩)) rfl (⟨hh1,hh2,hh3,hh4⟩) ?_
   refine tk (i:=20) (v:=.agg #[.slice pA a.vars.length kA,.slice qA a.rows.length lA]) rfl (yieldsIf_load_mid (by rfl) 25 (.tmp 48) rfl g0 0 rfl [.slice pA a.vars.length kA,.slice qA a.rows.length lA] _ (fun W h=>zbs h.1 [] ([.slice pB b.vars.length kB,.slice qB b.rows.length lB]++[VV,.int .i64 lang,NN]) rfl) Tryz.underlying25 rfl zae) (⟨hh1,hh2,hh3,hh4⟩) ?_
   refine tk (i:=23) (v:=.agg #[.slice pA a.vars.length kA,.slice qA a.rows.length lA]) rfl (yieldsIf_load_mid (by rfl) 25 (.tmp 51) rfl g0 0 rfl [.slice pA a.vars.length kA,.slice qA a.rows.length lA] _ (fun W h=>zbs h.1 [] ([.slice pB b.vars.length kB,.slice qB b.rows.length lB]++[VV,.int .i64 lang,NN]) rfl) Tryz.underlying25 rfl zae) (⟨hh1,hh2,hh3,hh4⟩) ?_
   refine tr 21 rfl (fun K hK=>?_)
   try rw [if_pos (by rfl)]
   go_simp
   refine (zmm zfk a _ _ _ _ w14_ hG TU.here TA0.here HPO.out.w4 HPO.out.n4).mono ?_
   rintro e21 w21_ h21
   obtain ⟨V21,R21,rfl,hb21,Q2⟩:=zef h21
   clear h21
   rw [HPO.out.huj] at Q2
   replace hh1:=(hb21.block _ (zaa hh1)).trans hh1
   replace hh2:=(hb21.block _ (zaa hh2)).trans hh2
   replace hh3:=(hb21.block _ (zaa hh3)).trans hh3
   replace hh4:=(hb21.block _ (zaa hh4)).trans hh4
   replace b1:=zab b1 hb21 b1.size
   replace hG:=hG.below hb21
   replace TA0:=TA0.below hb21
   replace TB0:=TB0.below hb21
   replace TJ:=TJ.below hb21
   replace TU:=TU.below hb21
   clear hb21
   refine hK.out _ _ (⟨hh1,hh2,hh3,hh4⟩) (fun _=>?_)
   clear hK K
   try simp only [putS]
   refine tr 24 rfl (fun K hK=>?_)
   try rw [if_pos (by rfl)]
   go_simp
   refine (zln a a _ _ _ _ w21_ hG Q2.here TA0.here HPO.out.va HPO.out.va).mono ?_
   rintro e24 w24_ ⟨rfl,hb24⟩
   rw [HPO.out.haa]
   replace hh1:=(hb24.block _ (zaa hh1)).trans hh1
   replace hh2:=(hb24.block _ (zaa hh2)).trans hh2
   replace hh3:=(hb24.block _ (zaa hh3)).trans hh3
   replace hh4:=(hb24.block _ (zaa hh4)).trans hh4
   replace b1:=zab b1 hb24 b1.size
   replace hG:=hG.below hb24
   replace TA0:=TA0.below hb24
   replace TB0:=TB0.below hb24
   replace TJ:=TJ.below hb24
   replace TU:=TU.below hb24
   replace Q2:=Q2.below hb24
   clear hb24
   clear Q2
   refine hK.out _ _ (⟨hh1,hh2,hh3,hh4⟩) (fun _=>?_)
   clear hK K
   try simp only [putS]
   refine tg (i:=25) (.bool false) rfl (⟨hh1,hh2,hh3,hh4⟩) ?_
   refine tg (i:=26) (.bool false) rfl (⟨hh1,hh2,hh3,hh4⟩) ?_
   refine tg (i:=27) (.bool false) rfl (⟨hh1,hh2,hh3,hh4⟩) ?_
   refine tg (i:=28) (.pointer (some ⟨g0,0,none⟩)) rfl (⟨hh1,hh2,hh3,hh4⟩) ?_
   refine tk (i:=30) (v:=.agg #[.slice none 0 0,.slice none 0 0]) rfl (Or.inl ⟨by rfl,fun W _=>by first |(go_simp;done) |(go_simp;rfl) | rfl⟩) (⟨hh1,hh2,hh3,hh4⟩) ?_
   refine tk (i:=29) (v:=.agg #[.slice pA a.vars.length kA,.slice qA a.rows.length lA]) rfl (yieldsIf_load_mid (by rfl) 25 (.tmp 57) rfl g0 0 rfl [.slice pA a.vars.length kA,.slice qA a.rows.length lA] _ (fun W h=>zbs h.1 [] ([.slice pB b.vars.length kB,.slice qB b.rows.length lB]++[VV,.int .i64 lang,NN]) rfl) Tryz.underlying25 rfl zae) (⟨hh1,hh2,hh3,hh4⟩) ?_
   refine tr 31 rfl (fun K hK=>?_)
   try rw [if_pos (by rfl)]
   go_simp
   refine (zmm a zl1 _ _ _ _ w24_ hG TA0.here (zf2 _ _) HPO.out.w5 HPO.out.n5).mono ?_
   rintro e31 w31_ h31
   obtain ⟨V31,R31,rfl,hb31,TZ⟩:=zef h31
   clear h31
   obtain ⟨pz,kz,qz,lz,ez,fz⟩:=TZ.slices
   rw [HPO.out.hz] at fz
   subst ez fz
   replace hh1:=(hb31.block _ (zaa hh1)).trans hh1
   replace hh2:=(hb31.block _ (zaa hh2)).trans hh2
   replace hh3:=(hb31.block _ (zaa hh3)).trans hh3
   replace hh4:=(hb31.block _ (zaa hh4)).trans hh4
   replace b1:=zab b1 hb31 b1.size
   replace hG:=hG.below hb31
   replace TA0:=TA0.below hb31
   replace TB0:=TB0.below hb31
   replace TJ:=TJ.below hb31
   replace TU:=TU.below hb31
   clear hb31
   clear TZ
   refine hK.out _ _ (⟨hh1,hh2,hh3,hh4⟩) (fun _=>?_)
   clear hK K
   try simp only [putS]
   refine tk (i:=32) (v:=.slice qz 0 lz) rfl (Or.inl ⟨by rfl,fun W _=>by go_simp;rfl⟩) (⟨hh1,hh2,hh3,hh4⟩) ?_
   refine tg (i:=33) (.int .i64 0) rfl (⟨hh1,hh2,hh3,hh4⟩) ?_
   refine tg (i:=34) (.bool false) rfl (⟨hh1,hh2,hh3,hh4⟩) ?_
   refine tg (i:=35) (.bool false) rfl (⟨hh1,hh2,hh3,hh4⟩) ?_
   refine wpAnyH_done (by kernel_rfl) ?_ _
   have HU1:=Lib.hid hh1
   have HV1:=Lib.hid hh2
   have HA:=Lib.hid TA0
   have HB:=Lib.hid TB0
   have HJ:=Lib.hid TJ
   have HGL:=Lib.hid hG
   have HBL:=Lib.hid b1
   have hnv:=HPO.out.nv
   have hnj:=HPO.out.n1
   clear hh1 hh2 hh3 hh4 TU TA0 TB0 TJ hG b1
   generalize w31_=wL at*
   go_wp2_with fail
   go_loopg [6,7] a.rows.length (fun gg s6 s7 wr=>∃ i n:Nat,i+gg=a.rows.length∧s7=.int .i64 i∧s6=.int .i64 n∧n≤3600∧Hid (n=cntI a b i)∧Hid (Below wL.heap.size wL wr))
   case atStart=>exact ⟨0,0,by omega,rfl,rfl,by omega,Lib.hid (zyz a b).symm,Lib.hid (Below.refl _ _)⟩
   case round=>
    obtain ⟨i,n,hig,rfl,rfl,hn,HN,HR⟩:=hrel
    have c1:wr.cell? ⟨g0,1,none⟩=some (.slice qA a.rows.length lA):=zac ((HR.out.block _ (zaa HU1.out)).trans HU1.out) 1 rfl
    by_cases hi:(i:Int) < a.rows.length
    ·have hi1:i < a.rows.length:=by omega
     have HN0:Hid (n=zeo a b i 0):=Lib.hid (by rw [ztz];exact HN.out)
     go_wp2_with fail
     go_loopg [6,8] b.rows.length (fun gg s6 s8 wr=>∃ k n2:Nat,k+gg=b.rows.length∧s8=.int .i64 k∧s6=.int .i64 n2∧n2≤3600∧Hid (n2=zeo a b i k)∧Hid (Below wL.heap.size wL wr))
     case atStart=>exact ⟨0,n,by omega,rfl,rfl,hn,HN0,HR⟩
     case round=>
      clear HR HN HN0 c1 hn
      obtain ⟨k,n2,hkg,rfl,rfl,hn2,HN2,HR⟩:=hrel
      have c3:wr.cell? ⟨g0,3,none⟩=some (.slice qB b.rows.length lB):=zac ((HR.out.block _ (zaa HU1.out)).trans HU1.out) 3 rfl
      by_cases hk:(k:Int) < b.rows.length
      ·have hk1:k < b.rows.length:=by omega
       have e2:=HR.out
       have x1:=(e2.block _ (zaa HU1.out)).trans HU1.out
       have x2:=(e2.block _ (zaa HV1.out)).trans HV1.out
       have rA:wr.rangeAt g0 0 [.slice pA a.vars.length kA,.slice qA a.rows.length lA]:=zbs x1 [] [.slice pB b.vars.length kB,.slice qB b.rows.length lB,VV,.int .i64 lang,NN] rfl
       have rB:wr.rangeAt g0 2 [.slice pB b.vars.length kB,.slice qB b.rows.length lB]:=zbs x1 [.slice pA a.vars.length kA,.slice qA a.rows.length lA] [VV,.int .i64 lang,NN] rfl
       have hft:=fitsAt a b (i:Int) (k:Int) _ _ _ _ wr (HGL.out.below e2) (HA.out.below e2).here (HB.out.below e2).here
       rw [zy1 HPO.out.ta HPO.out.tb hi1 hk1] at hft
       have HFT:=Lib.hid hft
       have HSTEP:=Lib.hid (zmv (a:=a) (b:=b) (i:=i) (k:=k) hk1)
       have HFV:Hid (zl2 a b i k=true→∃ h:zeo a b i k < (za4 a b).rows.length,(za4 a b).rows[zeo a b i k]=zbo (srcP (za2 a.vars b.vars) a.vars b.vars) a.rows[i] b.rows[k]):=Lib.hid (zw0 HPO.out.hr hi1 hk1)
       obtain ⟨fv,hfv⟩:∃ fv,fv=zl2 a b i k:=⟨_,rfl⟩
       rw [← hfv] at HFT HSTEP HFV
       have HFE:=Lib.hid hfv
       clear hft hfv e2
       cases fv with
       | false=>
         have HN3:Hid (n2=zeo a b i (k+1)):=Lib.hid (by rw [HSTEP.out,← HN2.out];rfl)
         clear HN2 HSTEP HFV HFE x1 x2
         go_wp2_with (first
          |((with_reducible refine zax (.tmp 81) g0 0 25 [.slice pA a.vars.length kA,.slice qA a.rows.length lA] 2 _ rA rfl Tryz.underlying25 rfl zae ?_ ?_ ?_ ?_);rfl;rfl;rfl)
          |((with_reducible refine zax (.tmp 83) g0 2 25 [.slice pB b.vars.length kB,.slice qB b.rows.length lB] 2 _ rB rfl Tryz.underlying25 rfl zae ?_ ?_ ?_ ?_);rfl;rfl;rfl)
          |(go_at_call 34;(with_reducible refine HFT.out.mono ?_);rintro e w5 ⟨rfl,hb5⟩))
         go_roundg (gk - 1)
         case measure=>omega
         case rel=>exact ⟨k+1,n2,by omega,by go_num,rfl,hn2,HN3,Lib.hid (HR.out.trans (hb5.mono HR.out.size))⟩
       | true=>
         obtain ⟨hlt,hrow⟩:=HFV.out rfl
         have HN3:Hid (n2+1=zeo a b i (k+1)):=Lib.hid (by rw [HSTEP.out,← HN2.out];rfl)
         have hltn:n2 < (za4 a b).rows.length:=by rw [HN2.out];exact hlt
         have hge:decide (((za4 a b).rows.length:Int)≤n2)=false:=decide_eq_false (by omega)
         have hn3:n2+1≤3600:=by rw [HN3.out];exact zy0 hna hnb hi1 (by omega)
         have HROW:Hid ((za4 a b).rows[n2]=zbo (srcP (za2 a.vars b.vars) a.vars b.vars) a.rows[i] b.rows[k]):=Lib.hid (by
          have e:=HN2.out
          subst e
          exact hrow)
         have d1:wr.cell? ⟨ga,1,none⟩=some (.slice qj (za4 a b).rows.length lj):=zac x2 1 rfl
         clear HN2 HSTEP HFV hlt hrow
         go_upto_region 16 with (first
          |((with_reducible refine zax (.tmp 81) g0 0 25 [.slice pA a.vars.length kA,.slice qA a.rows.length lA] 2 _ rA rfl Tryz.underlying25 rfl zae ?_ ?_ ?_ ?_);rfl;rfl;rfl)
          |((with_reducible refine zax (.tmp 83) g0 2 25 [.slice pB b.vars.length kB,.slice qB b.rows.length lB] 2 _ rB rfl Tryz.underlying25 rfl zae ?_ ?_ ?_ ?_);rfl;rfl;rfl)
          |(go_at_call 34;(with_reducible refine HFT.out.mono ?_);rintro e w5 ⟨rfl,hb5⟩))
         have HR5:=Lib.hid (HR.out.trans (hb5.mono HR.out.size))
         replace d1:=zaw d1 hb5
         clear hb5 x1 x2 rA rB HFT
         go_upto_region 19 with fail
         have hge3:decide ((za4 a b).rows.length≤n2)=false:=decide_eq_false (by omega)
         rw [hge3]
         clear d1 hge hge3
         go_loopg [9] (za4 a b).vars.length (fun gg s9 wr=>∃ v:Nat,v+gg=(za4 a b).vars.length∧s9=.int .i64 v∧Hid (Below wL.heap.size wL wr))
         case atStart=>exact ⟨0,by omega,rfl,HR5⟩
         case round=>
          clear HR HR5
          obtain ⟨v,hvg,rfl,HR⟩:=hrel
          have d0:wr.cell? ⟨ga,0,none⟩=some (.slice pj (za4 a b).vars.length kj):=zac ((HR.out.block _ (zaa HV1.out)).trans HV1.out) 0 rfl
          by_cases hv:(v:Int) < (za4 a b).vars.length
          ·have hv1:v < (za4 a b).vars.length:=by omega
           obtain ⟨nm,hnm⟩:∃ nm,nm=(za4 a b).vars[v]:=⟨_,rfl⟩
           have TJr:=HJ.out.below HR.out
           obtain ⟨gv,ov,cvv,ctx,e0,_,hrv,hrav⟩:=TJr.vars.at_ v hv1
           injection e0 with e01 e02 e03
           subst e01 e03
           obtain ⟨rfl,_⟩:=hrv
           have hh3:wr.cell? ⟨gv,ov+v,none⟩=some (.string nm):=by
            have:=hrav 0 _ rfl
            rw [hnm]
            simpa [za0] using this
           have hh1:=(HR.out.block _ (zaa HU1.out)).trans HU1.out
           have hh2:=(HR.out.block _ (zaa HV1.out)).trans HV1.out
           have hvV:v < (za2 a.vars b.vars).length:=by rw [← HPO.out.hv];exact hv1
           have hnm2:nm=(za2 a.vars b.vars)[v]:=by rw [hnm];exact List.getElem_of_eq HPO.out.hv hv1
           obtain ⟨hvr,hMA,hMB⟩:=zrd HPO.out.ta hi1 hk1 HFE.out.symm hvV HROW.out
           rw [← hnm2] at hMA hMB
           obtain ⟨px,hpx⟩:∃ px,px=zau nm a.vars:=⟨_,rfl⟩
           obtain ⟨py,hpy⟩:∃ py,py=zau nm b.vars:=⟨_,rfl⟩
           obtain ⟨xi,hxi⟩:∃ xi,xi=za3 px:=⟨_,rfl⟩
           obtain ⟨yi,hyi⟩:∃ yi,yi=za3 py:=⟨_,rfl⟩
           obtain ⟨mv,hmv⟩:∃ mv,mv=(za4 a b).rows[n2][v]:=⟨_,rfl⟩
           rw [← hmv] at hMA hMB
           have HPX:=Lib.hid hpx
           have HPY:=Lib.hid hpy
           have HXI0:Hid (xi=za3 (zau nm a.vars)):=Lib.hid (by rw [hxi,hpx])
           have HYI0:Hid (yi=za3 (zau nm b.vars)):=Lib.hid (by rw [hyi,hpy])
           have HXI1:=Lib.hid hxi
           have HYI1:=Lib.hid hyi
           have MVA:=Lib.hid hMA
           have MVB:=Lib.hid hMB
           have HMV0:=Lib.hid hmv
           have HVR:=Lib.hid hvr
           have HTA:Hid (a.rows[i].length=a.vars.length):=Lib.hid ((zbm HPO.out.ta).1 _ (List.getElem_mem hi1))
           have HTB:Hid (b.rows[k].length=b.vars.length):=Lib.hid ((zbm HPO.out.tb).1 _ (List.getElem_mem hk1))
           have hR:=HR.out
           clear hnm hnm2 hvV hMA hMB hpx hpy hxi hyi hmv hrav e02 TJr
           go_upto_region 21 with fail
           clear d0
           refine wp_region_held_drew (S:=fun W'=>W'.heap[g0]?=some (.cells #[.slice pA a.vars.length kA,.slice qA a.rows.length lA,.slice pB b.vars.length kB,.slice qB b.rows.length lB,VV,.int .i64 lang,NN] 28)∧W'.heap[ga]?=some (.cells #[.slice (some ⟨gv,ov,none⟩) (za4 a b).vars.length kj,.slice qj (za4 a b).rows.length lj] 25)∧W'.cell? ⟨gv,ov+v,none⟩=some (.string nm)) (by kernel_rfl) ⟨hh1,hh2,hh3⟩ (fun hh=>?_)
           have hh1:=hh.1
           have hh2:=hh.2.1
           have hh3:=hh.2.2
           clear hh
           have bq:Below wr.heap.size wr wr.drew:=(Below.refl _ _).drew
           replace hR:=zab hR bq hR.size
           clear bq
           generalize wr.drew=wD at*
           refine tg (i:=0) (.pointer (some ⟨g0,0,none⟩)) rfl (⟨hh1,hh2,hh3⟩) ?_
           try simp only [Act.put,List.getElem_toArray,List.getElem_cons_zero,List.setIfInBounds_toArray,List.set_cons_zero,List.set_cons_succ]
           refine tg (i:=3) (.pointer (some ⟨ga,0,none⟩)) rfl (⟨hh1,hh2,hh3⟩) ?_
           refine tg (i:=5) (.int .i64 (v:Int)) rfl (⟨hh1,hh2,hh3⟩) ?_
           refine tg (i:=1) (.pointer (some ⟨g0,0,none⟩)) rfl (⟨hh1,hh2,hh3⟩) ?_
           refine tk (i:=4) (v:=.slice (some ⟨gv,ov,none⟩) (za4 a b).vars.length kj) rfl (Or.inl ⟨by rfl,fun W' h=>by have c0:=zac h.2.1 0 rfl;go_simp⟩) (⟨hh1,hh2,hh3⟩) ?_
           refine tk (i:=2) (v:=.slice pA a.vars.length kA) rfl (Or.inl ⟨by rfl,fun W' h=>by have c0:=zac h.1 0 rfl;go_simp⟩) (⟨hh1,hh2,hh3⟩) ?_
           refine tg (i:=6) (.pointer (some ⟨gv,ov+v,none⟩)) rfl (⟨hh1,hh2,hh3⟩) ?_
           refine tk (i:=7) (v:=.string nm) rfl (Or.inl ⟨by rfl,fun W' h=>by have c0:=h.2.2;go_simp⟩) (⟨hh1,hh2,hh3⟩) ?_
           refine tr 8 rfl (fun K hK=>?_)
           try rw [if_pos (by rfl)]
           go_simp
           refine (zhx _ a.vars nm _ wD (HA.out.below hR).vars (by omega)).mono ?_
           rintro e8 w8 ⟨rfl,rfl⟩
           rw [← HXI0.out]
           refine hK.out _ _ (⟨hh1,hh2,hh3⟩) (fun _=>?_)
           clear hK K
           try simp only [putS]
           refine tg (i:=9) (.int .i64 xi) rfl (⟨hh1,hh2,hh3⟩) ?_
           refine wpAnyH_done (by kernel_rfl) ?_ _
           go_upto_region 22 with fail
           refine wp_region_held_drew (S:=fun W'=>W'.heap[g0]?=some (.cells #[.slice pA a.vars.length kA,.slice qA a.rows.length lA,.slice pB b.vars.length kB,.slice qB b.rows.length lB,VV,.int .i64 lang,NN] 28)∧W'.heap[ga]?=some (.cells #[.slice (some ⟨gv,ov,none⟩) (za4 a b).vars.length kj,.slice qj (za4 a b).rows.length lj] 25)∧W'.cell? ⟨gv,ov+v,none⟩=some (.string nm)) (by kernel_rfl) ⟨hh1,hh2,hh3⟩ (fun hh=>?_)
           have hh1:=hh.1
           have hh2:=hh.2.1
           have hh3:=hh.2.2
           clear hh
           have bq:Below wD.heap.size wD wD.drew:=(Below.refl _ _).drew
           replace hR:=zab hR bq hR.size
           clear bq
           generalize wD.drew=wF at*
           refine tg (i:=0) (.pointer (some ⟨g0,2,none⟩)) rfl (⟨hh1,hh2,hh3⟩) ?_
           try simp only [Act.put,List.getElem_toArray,List.getElem_cons_zero,List.setIfInBounds_toArray,List.set_cons_zero,List.set_cons_succ]
           refine tg (i:=3) (.pointer (some ⟨ga,0,none⟩)) rfl (⟨hh1,hh2,hh3⟩) ?_
           refine tg (i:=5) (.int .i64 (v:Int)) rfl (⟨hh1,hh2,hh3⟩) ?_
           refine tg (i:=1) (.pointer (some ⟨g0,2,none⟩)) rfl (⟨hh1,hh2,hh3⟩) ?_
           refine tk (i:=4) (v:=.slice (some ⟨gv,ov,none⟩) (za4 a b).vars.length kj) rfl (Or.inl ⟨by rfl,fun W' h=>by have c0:=zac h.2.1 0 rfl;go_simp⟩) (⟨hh1,hh2,hh3⟩) ?_
           refine tk (i:=2) (v:=.slice pB b.vars.length kB) rfl (Or.inl ⟨by rfl,fun W' h=>by have c0:=zac h.1 2 rfl;go_simp⟩) (⟨hh1,hh2,hh3⟩) ?_
           refine tg (i:=6) (.pointer (some ⟨gv,ov+v,none⟩)) rfl (⟨hh1,hh2,hh3⟩) ?_
           refine tk (i:=7) (v:=.string nm) rfl (Or.inl ⟨by rfl,fun W' h=>by have c0:=h.2.2;go_simp⟩) (⟨hh1,hh2,hh3⟩) ?_
           refine tr 8 rfl (fun K hK=>?_)
           try rw [if_pos (by rfl)]
           go_simp
           refine (zhx _ b.vars nm _ wF (HB.out.below hR).vars (by omega)).mono ?_
           rintro e8 w8 ⟨rfl,rfl⟩
           rw [← HYI0.out]
           refine hK.out _ _ (⟨hh1,hh2,hh3⟩) (fun _=>?_)
           clear hK K
           try simp only [putS]
           refine tg (i:=9) (.int .i64 yi) rfl (⟨hh1,hh2,hh3⟩) ?_
           refine wpAnyH_done (by kernel_rfl) ?_ _
           obtain ⟨gq,oq,l_q,gm,om,km,cm,eqR,m1,mvr,m2⟩:=(HJ.out.below hR).cellAt hltn HVR.out
           injection eqR with eq1 eq2 eq3
           subst eq1 eq3
           rw [← HMV0.out] at mvr
           obtain ⟨lm,hlm⟩:∃ lm,lm=(za4 a b).rows[n2].length:=⟨_,rfl⟩
           have hvlm:(v:Int) < lm:=by
            have:=HVR.out
            omega
           have hnlt:(n2:Int) < (za4 a b).rows.length:=by omega
           rw [← hlm] at m1
           have HCM:Hid (cm.length=6):=Lib.hid (valE.len (show valE.rel wF (Old wF) cm mv from mvr))
           have HOM:Hid (∀ u∈cm,u.oneCell'=true):=Lib.hid (valE.one (show valE.rel wF (Old wF) cm mv from mvr))
           have HMVW:=Lib.hid mvr
           have d1:=zac hh2 1 rfl
           clear hlm eq2 mvr hh2 hh3
           go_upto_region 24 with (first
            |((with_reducible refine zax (.tmp 124) gm (om+v*6) 48 cm 6 _ m2 HCM.out Tryz.underlying48 rfl zai ?_ ?_ ?_ ?_);rfl;rfl;rfl)
            |((with_reducible refine zas (.tmp 12) (.tmp 125) wF.heap.size 48 48 _ cm 6 (zah _ _ rfl) HCM.out ?_ ?_ ?_ ?_ zai rfl HOM.out ?_);rfl;rfl;rfl;rfl;intro wX oX vX))
           have bX:Below wF.heap.size wF wX:=zam (zaz wF _) oX (Nat.le_refl _) (by simp)
           have y1:=(bX.block _ (zaa hh1)).trans hh1
           have hX:=zab hR bX hR.size
           have HMVR:=Lib.hid (valE.stays (zad bX) (show valE.rel wF (Old wF) cm mv from HMVW.out))
           obtain ⟨gc,hgc⟩:∃ gc,gc=wF.heap.size:=⟨_,rfl⟩
           rw [← hgc] at vX ⊢
           clear bX hh1 hR oX m1 m2 d1 hgc hvlm HMVW HOM hnlt
           cases px with
           | none=>
             obtain rfl:xi=-1:=HXI1.out
             cases py with
             | none=>
               obtain rfl:yi=-1:=HYI1.out
               as_aux_lemma=>
                refine wp_region_held_drew (S:=fun W'=>W'.heap[g0]?=some (.cells #[.slice pA a.vars.length kA,.slice qA a.rows.length lA,.slice pB b.vars.length kB,.slice qB b.rows.length lB,VV,.int .i64 lang,NN] 28)∧W'.heap[gc]?=some (.cells cm.toArray 48)∧True∧True) (by kernel_rfl) ⟨y1,vX,trivial,trivial⟩ (fun hh=>?_)
                have hh1:=hh.1
                have hh2:=hh.2.1
                clear hh y1 vX
                have bq:Below wX.heap.size wX wX.drew:=(Below.refl _ _).drew
                replace hX:=zab hX bq hX.size
                have bqX:=bq
                clear bq
                generalize wX.drew=wE at*
                refine tg (i:=0) (.int .i64 (-1)) rfl (⟨hh1,hh2,trivial,trivial⟩) ?_
                try simp only [Act.put,List.getElem_toArray,List.getElem_cons_zero,List.setIfInBounds_toArray,List.set_cons_zero,List.set_cons_succ]
                refine tg (i:=1) (.bool false) rfl (⟨hh1,hh2,trivial,trivial⟩) ?_
                refine tg (i:=2) (.bool false) rfl (⟨hh1,hh2,trivial,trivial⟩) ?_
                refine tn (i:=3) rfl (⟨hh1,hh2,trivial,trivial⟩) ?_
                refine tn (i:=6) rfl (⟨hh1,hh2,trivial,trivial⟩) ?_
                refine tn (i:=9) rfl (⟨hh1,hh2,trivial,trivial⟩) ?_
                refine tn (i:=4) rfl (⟨hh1,hh2,trivial,trivial⟩) ?_
                refine tn (i:=5) rfl (⟨hh1,hh2,trivial,trivial⟩) ?_
                refine tn (i:=7) rfl (⟨hh1,hh2,trivial,trivial⟩) ?_
                refine tn (i:=8) rfl (⟨hh1,hh2,trivial,trivial⟩) ?_
                refine tn (i:=10) rfl (⟨hh1,hh2,trivial,trivial⟩) ?_
                refine tn (i:=11) rfl (⟨hh1,hh2,trivial,trivial⟩) ?_
                refine tn (i:=12) rfl (⟨hh1,hh2,trivial,trivial⟩) ?_
                refine tn (i:=13) rfl (⟨hh1,hh2,trivial,trivial⟩) ?_
                refine tg (i:=14) (.bool false) rfl (⟨hh1,hh2,trivial,trivial⟩) ?_
                refine tg (i:=15) (.bool false) rfl (⟨hh1,hh2,trivial,trivial⟩) ?_
                refine tn (i:=16) rfl (⟨hh1,hh2,trivial,trivial⟩) ?_
                refine tn (i:=17) rfl (⟨hh1,hh2,trivial,trivial⟩) ?_
                refine tn (i:=20) rfl (⟨hh1,hh2,trivial,trivial⟩) ?_
                refine tn (i:=23) rfl (⟨hh1,hh2,trivial,trivial⟩) ?_
                refine tn (i:=18) rfl (⟨hh1,hh2,trivial,trivial⟩) ?_
                refine tn (i:=19) rfl (⟨hh1,hh2,trivial,trivial⟩) ?_
                refine tn (i:=21) rfl (⟨hh1,hh2,trivial,trivial⟩) ?_
                refine tn (i:=22) rfl (⟨hh1,hh2,trivial,trivial⟩) ?_
                refine tn (i:=24) rfl (⟨hh1,hh2,trivial,trivial⟩) ?_
                refine tn (i:=25) rfl (⟨hh1,hh2,trivial,trivial⟩) ?_
                refine tn (i:=26) rfl (⟨hh1,hh2,trivial,trivial⟩) ?_
                refine tn (i:=27) rfl (⟨hh1,hh2,trivial,trivial⟩) ?_
                refine tg (i:=28) (.bool false) rfl (⟨hh1,hh2,trivial,trivial⟩) ?_
                refine tg (i:=29) (.bool false) rfl (⟨hh1,hh2,trivial,trivial⟩) ?_
                refine tg (i:=30) (.int .i64 (-1)) rfl (⟨hh1,hh2,trivial,trivial⟩) ?_
                refine tg (i:=31) (.bool false) rfl (⟨hh1,hh2,trivial,trivial⟩) ?_
                refine tg (i:=32) (.bool false) rfl (⟨hh1,hh2,trivial,trivial⟩) ?_
                refine tn (i:=33) rfl (⟨hh1,hh2,trivial,trivial⟩) ?_
                refine tn (i:=36) rfl (⟨hh1,hh2,trivial,trivial⟩) ?_
                refine tn (i:=39) rfl (⟨hh1,hh2,trivial,trivial⟩) ?_
                refine tn (i:=34) rfl (⟨hh1,hh2,trivial,trivial⟩) ?_
                refine tn (i:=35) rfl (⟨hh1,hh2,trivial,trivial⟩) ?_
                refine tn (i:=37) rfl (⟨hh1,hh2,trivial,trivial⟩) ?_
                refine tn (i:=38) rfl (⟨hh1,hh2,trivial,trivial⟩) ?_
                refine tn (i:=40) rfl (⟨hh1,hh2,trivial,trivial⟩) ?_
                refine tn (i:=41) rfl (⟨hh1,hh2,trivial,trivial⟩) ?_
                refine tn (i:=42) rfl (⟨hh1,hh2,trivial,trivial⟩) ?_
                refine tn (i:=43) rfl (⟨hh1,hh2,trivial,trivial⟩) ?_
                refine tg (i:=44) (.bool false) rfl (⟨hh1,hh2,trivial,trivial⟩) ?_
                refine tg (i:=45) (.bool false) rfl (⟨hh1,hh2,trivial,trivial⟩) ?_
                refine tn (i:=46) rfl (⟨hh1,hh2,trivial,trivial⟩) ?_
                refine tn (i:=47) rfl (⟨hh1,hh2,trivial,trivial⟩) ?_
                refine tn (i:=50) rfl (⟨hh1,hh2,trivial,trivial⟩) ?_
                refine tn (i:=53) rfl (⟨hh1,hh2,trivial,trivial⟩) ?_
                refine tn (i:=48) rfl (⟨hh1,hh2,trivial,trivial⟩) ?_
                refine tn (i:=49) rfl (⟨hh1,hh2,trivial,trivial⟩) ?_
                refine tn (i:=51) rfl (⟨hh1,hh2,trivial,trivial⟩) ?_
                refine tn (i:=52) rfl (⟨hh1,hh2,trivial,trivial⟩) ?_
                refine tn (i:=54) rfl (⟨hh1,hh2,trivial,trivial⟩) ?_
                refine tn (i:=55) rfl (⟨hh1,hh2,trivial,trivial⟩) ?_
                refine tn (i:=56) rfl (⟨hh1,hh2,trivial,trivial⟩) ?_
                refine tn (i:=57) rfl (⟨hh1,hh2,trivial,trivial⟩) ?_
                refine tg (i:=58) (.bool false) rfl (⟨hh1,hh2,trivial,trivial⟩) ?_
                refine tg (i:=59) (.bool false) rfl (⟨hh1,hh2,trivial,trivial⟩) ?_
                refine wpAnyH_done (by kernel_rfl) ?_ _
                have HR9:=Lib.hid hX
                clear hh1 hh2 hX bqX
                go_wp2_with fail
                go_roundg (gk - 1)
                case measure=>omega
                case rel=>exact ⟨v+1,by omega,by go_num,HR9⟩
             | some jy=>
               obtain rfl:yi=(jy:Int):=HYI1.out
               have hlB:jy < b.rows[k].length:=by
                rw [HTB.out]
                exact zc2 HPY.out.symm
               obtain ⟨grB,orB,l_B,gxB,oxB,kxB,cB,eRB,zB1,zvB,zB2⟩:=(HB.out.below hX).cellAt hk1 hlB
               injection eRB with eq1 eq2 eq3
               subst eq1 eq3
               obtain ⟨lnB,hlnB⟩:∃ lnB,lnB=b.rows[k].length:=⟨_,rfl⟩
               rw [← hlnB] at zB1 hlB
               have hlB2:(jy:Int) < lnB:=by omega
               obtain ⟨vaB,hvaB⟩:∃ vaB,vaB=b.rows[k][jy]:=⟨_,rfl⟩
               rw [← hvaB] at zvB
               have HCB:Hid (cB.length=6):=Lib.hid (valE.len (show valE.rel wX (Old wX) cB vaB from zvB))
               obtain ⟨kdB,hkdB⟩:∃ kdB,kdB=zre vaB:=⟨_,rfl⟩
               have HKB:Hid (cB[0]?=some (.int .i64 kdB)):=Lib.hid (by rw [hkdB];exact zio zvB)
               have HMVB:Hid (kdB≠0→mv=vaB):=Lib.hid (fun q=>by
                have hb:isB (atV b.rows[k] jy)=true:=by
                 rw [zc7 (by rw [← hlnB];exact hlB),← hvaB]
                 exact zfr.2 (hkdB ▸ q)
                have h:=MVB.out jy HPY.out.symm hb
                rw [zc7 (by rw [← hlnB];exact hlB),← hvaB] at h
                exact h)
               have HSB:Hid (mv=vaB→∀ w',Below wX.heap.size wX w'→Calls Tryz.prog 39 #[.agg cm.toArray,.agg cB.toArray] w' fun e w2=>e=.returned (.bool true)∧Below w'.heap.size w' w2):=Lib.hid (fun q w' k=>by
                have h:=zip mv vaB cm cB (Old w') (Old w') w' (valE.stays (zad k) HMVR.out) (valE.stays (zad k) zvB)
                rw [q,zcx] at h
                exact h)
               clear hvaB hkdB hlnB zvB eq2
               by_cases hkzB:kdB=0
               ·subst hkzB
                as_aux_lemma=>
                 refine wp_region_held_drew (S:=fun W'=>W'.heap[g0]?=some (.cells #[.slice pA a.vars.length kA,.slice qA a.rows.length lA,.slice pB b.vars.length kB,.slice (some ⟨grB,orB,none⟩) b.rows.length lB,VV,.int .i64 lang,NN] 28)∧W'.heap[gc]?=some (.cells cm.toArray 48)∧True∧(W'.cell? ⟨grB,orB+k,none⟩=some (.slice (some ⟨gxB,oxB,none⟩) lnB kxB)∧W'.rangeAt gxB (oxB+jy*6) cB)) (by kernel_rfl) ⟨y1,vX,trivial,⟨zB1,zB2⟩⟩ (fun hh=>?_)
                 have hh1:=hh.1
                 have hh2:=hh.2.1
                 have zB1:=hh.2.2.2.1
                 have zB2:=hh.2.2.2.2
                 clear hh y1 vX
                 have bq:Below wX.heap.size wX wX.drew:=(Below.refl _ _).drew
                 replace hX:=zab hX bq hX.size
                 have bqX:=bq
                 clear bq
                 generalize wX.drew=wE at*
                 refine tg (i:=0) (.int .i64 (-1)) rfl (⟨hh1,hh2,trivial,⟨zB1,zB2⟩⟩) ?_
                 try simp only [Act.put,List.getElem_toArray,List.getElem_cons_zero,List.setIfInBounds_toArray,List.set_cons_zero,List.set_cons_succ]
                 refine tg (i:=1) (.bool false) rfl (⟨hh1,hh2,trivial,⟨zB1,zB2⟩⟩) ?_
                 refine tg (i:=2) (.bool false) rfl (⟨hh1,hh2,trivial,⟨zB1,zB2⟩⟩) ?_
                 refine tn (i:=3) rfl (⟨hh1,hh2,trivial,⟨zB1,zB2⟩⟩) ?_
                 refine tn (i:=6) rfl (⟨hh1,hh2,trivial,⟨zB1,zB2⟩⟩) ?_
                 refine tn (i:=9) rfl (⟨hh1,hh2,trivial,⟨zB1,zB2⟩⟩) ?_
                 refine tn (i:=4) rfl (⟨hh1,hh2,trivial,⟨zB1,zB2⟩⟩) ?_
                 refine tn (i:=5) rfl (⟨hh1,hh2,trivial,⟨zB1,zB2⟩⟩) ?_
                 refine tn (i:=7) rfl (⟨hh1,hh2,trivial,⟨zB1,zB2⟩⟩) ?_
                 refine tn (i:=8) rfl (⟨hh1,hh2,trivial,⟨zB1,zB2⟩⟩) ?_
                 refine tn (i:=10) rfl (⟨hh1,hh2,trivial,⟨zB1,zB2⟩⟩) ?_
                 refine tn (i:=11) rfl (⟨hh1,hh2,trivial,⟨zB1,zB2⟩⟩) ?_
                 refine tn (i:=12) rfl (⟨hh1,hh2,trivial,⟨zB1,zB2⟩⟩) ?_
                 refine tn (i:=13) rfl (⟨hh1,hh2,trivial,⟨zB1,zB2⟩⟩) ?_
                 refine tg (i:=14) (.bool false) rfl (⟨hh1,hh2,trivial,⟨zB1,zB2⟩⟩) ?_
                 refine tg (i:=15) (.bool false) rfl (⟨hh1,hh2,trivial,⟨zB1,zB2⟩⟩) ?_
                 refine tn (i:=16) rfl (⟨hh1,hh2,trivial,⟨zB1,zB2⟩⟩) ?_
                 refine tn (i:=17) rfl (⟨hh1,hh2,trivial,⟨zB1,zB2⟩⟩) ?_
                 refine tn (i:=20) rfl (⟨hh1,hh2,trivial,⟨zB1,zB2⟩⟩) ?_
                 refine tn (i:=23) rfl (⟨hh1,hh2,trivial,⟨zB1,zB2⟩⟩) ?_
                 refine tn (i:=18) rfl (⟨hh1,hh2,trivial,⟨zB1,zB2⟩⟩) ?_
                 refine tn (i:=19) rfl (⟨hh1,hh2,trivial,⟨zB1,zB2⟩⟩) ?_
                 refine tn (i:=21) rfl (⟨hh1,hh2,trivial,⟨zB1,zB2⟩⟩) ?_
                 refine tn (i:=22) rfl (⟨hh1,hh2,trivial,⟨zB1,zB2⟩⟩) ?_
                 refine tn (i:=24) rfl (⟨hh1,hh2,trivial,⟨zB1,zB2⟩⟩) ?_
                 refine tn (i:=25) rfl (⟨hh1,hh2,trivial,⟨zB1,zB2⟩⟩) ?_
                 refine tn (i:=26) rfl (⟨hh1,hh2,trivial,⟨zB1,zB2⟩⟩) ?_
                 refine tn (i:=27) rfl (⟨hh1,hh2,trivial,⟨zB1,zB2⟩⟩) ?_
                 refine tg (i:=28) (.bool false) rfl (⟨hh1,hh2,trivial,⟨zB1,zB2⟩⟩) ?_
                 refine tg (i:=29) (.bool false) rfl (⟨hh1,hh2,trivial,⟨zB1,zB2⟩⟩) ?_
                 refine tg (i:=30) (.int .i64 (jy:Int)) rfl (⟨hh1,hh2,trivial,⟨zB1,zB2⟩⟩) ?_
                 refine tg (i:=31) (.bool true) rfl (⟨hh1,hh2,trivial,⟨zB1,zB2⟩⟩) ?_
                 refine tg (i:=32) (.bool true) rfl (⟨hh1,hh2,trivial,⟨zB1,zB2⟩⟩) ?_
                 refine tg (i:=33) (.pointer (some ⟨g0,2,none⟩)) rfl (⟨hh1,hh2,trivial,⟨zB1,zB2⟩⟩) ?_
                 refine tg (i:=36) (.int .i64 (k:Int)) rfl (⟨hh1,hh2,trivial,⟨zB1,zB2⟩⟩) ?_
                 refine tg (i:=39) (.int .i64 (jy:Int)) rfl (⟨hh1,hh2,trivial,⟨zB1,zB2⟩⟩) ?_
                 refine tg (i:=34) (.pointer (some ⟨g0,3,none⟩)) rfl (⟨hh1,hh2,trivial,⟨zB1,zB2⟩⟩) ?_
                 refine tk (i:=35) (v:=.slice (some ⟨grB,orB,none⟩) b.rows.length lB) rfl (Or.inl ⟨by rfl,fun W' h=>by have c0:=zac h.1 3 rfl;go_simp⟩) (⟨hh1,hh2,trivial,⟨zB1,zB2⟩⟩) ?_
                 refine tg (i:=37) (.pointer (some ⟨grB,orB+k,none⟩)) rfl (⟨hh1,hh2,trivial,⟨zB1,zB2⟩⟩) ?_
                 refine tk (i:=38) (v:=.slice (some ⟨gxB,oxB,none⟩) lnB kxB) rfl (Or.inl ⟨by rfl,fun W' h=>by have c0:=h.2.2.2.1;go_simp⟩) (⟨hh1,hh2,trivial,⟨zB1,zB2⟩⟩) ?_
                 refine tg (i:=40) (.pointer (some ⟨gxB,oxB+jy*6,none⟩)) rfl (⟨hh1,hh2,trivial,⟨zB1,zB2⟩⟩) ?_
                 refine tg (i:=41) (.pointer (some ⟨gxB,oxB+jy*6,none⟩)) rfl (⟨hh1,hh2,trivial,⟨zB1,zB2⟩⟩) ?_
                 refine tk (i:=42) (v:=.int .i64 0) rfl (Or.inl ⟨by rfl,fun W' h=>by have c0:=zcl (h.2.2.2.2) HKB.out;go_simp⟩) (⟨hh1,hh2,trivial,⟨zB1,zB2⟩⟩) ?_
                 refine tg (i:=43) (.bool false) rfl (⟨hh1,hh2,trivial,⟨zB1,zB2⟩⟩) ?_
                 refine tg (i:=44) (.bool false) rfl (⟨hh1,hh2,trivial,⟨zB1,zB2⟩⟩) ?_
                 refine tg (i:=45) (.bool false) rfl (⟨hh1,hh2,trivial,⟨zB1,zB2⟩⟩) ?_
                 refine tn (i:=46) rfl (⟨hh1,hh2,trivial,⟨zB1,zB2⟩⟩) ?_
                 refine tn (i:=47) rfl (⟨hh1,hh2,trivial,⟨zB1,zB2⟩⟩) ?_
                 refine tn (i:=50) rfl (⟨hh1,hh2,trivial,⟨zB1,zB2⟩⟩) ?_
                 refine tn (i:=53) rfl (⟨hh1,hh2,trivial,⟨zB1,zB2⟩⟩) ?_
                 refine tn (i:=48) rfl (⟨hh1,hh2,trivial,⟨zB1,zB2⟩⟩) ?_
                 refine tn (i:=49) rfl (⟨hh1,hh2,trivial,⟨zB1,zB2⟩⟩) ?_
                 refine tn (i:=51) rfl (⟨hh1,hh2,trivial,⟨zB1,zB2⟩⟩) ?_
                 refine tn (i:=52) rfl (⟨hh1,hh2,trivial,⟨zB1,zB2⟩⟩) ?_
                 refine tn (i:=54) rfl (⟨hh1,hh2,trivial,⟨zB1,zB2⟩⟩) ?_
                 refine tn (i:=55) rfl (⟨hh1,hh2,trivial,⟨zB1,zB2⟩⟩) ?_
                 refine tn (i:=56) rfl (⟨hh1,hh2,trivial,⟨zB1,zB2⟩⟩) ?_
                 refine tn (i:=57) rfl (⟨hh1,hh2,trivial,⟨zB1,zB2⟩⟩) ?_
                 refine tg (i:=58) (.bool false) rfl (⟨hh1,hh2,trivial,⟨zB1,zB2⟩⟩) ?_
                 refine tg (i:=59) (.bool false) rfl (⟨hh1,hh2,trivial,⟨zB1,zB2⟩⟩) ?_
                 refine wpAnyH_done (by kernel_rfl) ?_ _
                 have HR9:=Lib.hid hX
                 clear hh1 hh2 hX bqX
                 go_wp2_with fail
                 go_roundg (gk - 1)
                 case measure=>omega
                 case rel=>exact ⟨v+1,by omega,by go_num,HR9⟩
               ·have hknB:(kdB != 0)=true:=by simpa using hkzB
                replace HSB:=Lib.hid (HSB.out (HMVB.out hkzB))
                as_aux_lemma=>
                 refine wp_region_held_drew (S:=fun W'=>W'.heap[g0]?=some (.cells #[.slice pA a.vars.length kA,.slice qA a.rows.length lA,.slice pB b.vars.length kB,.slice (some ⟨grB,orB,none⟩) b.rows.length lB,VV,.int .i64 lang,NN] 28)∧W'.heap[gc]?=some (.cells cm.toArray 48)∧True∧(W'.cell? ⟨grB,orB+k,none⟩=some (.slice (some ⟨gxB,oxB,none⟩) lnB kxB)∧W'.rangeAt gxB (oxB+jy*6) cB)) (by kernel_rfl) ⟨y1,vX,trivial,⟨zB1,zB2⟩⟩ (fun hh=>?_)
                 have hh1:=hh.1
                 have hh2:=hh.2.1
                 have zB1:=hh.2.2.2.1
                 have zB2:=hh.2.2.2.2
                 clear hh y1 vX
                 have bq:Below wX.heap.size wX wX.drew:=(Below.refl _ _).drew
                 replace hX:=zab hX bq hX.size
                 have bqX:=bq
                 clear bq
                 generalize wX.drew=wE at*
                 refine tg (i:=0) (.int .i64 (-1)) rfl (⟨hh1,hh2,trivial,⟨zB1,zB2⟩⟩) ?_
                 try simp only [Act.put,List.getElem_toArray,List.getElem_cons_zero,List.setIfInBounds_toArray,List.set_cons_zero,List.set_cons_succ]
                 refine tg (i:=1) (.bool false) rfl (⟨hh1,hh2,trivial,⟨zB1,zB2⟩⟩) ?_
                 refine tg (i:=2) (.bool false) rfl (⟨hh1,hh2,trivial,⟨zB1,zB2⟩⟩) ?_
                 refine tn (i:=3) rfl (⟨hh1,hh2,trivial,⟨zB1,zB2⟩⟩) ?_
                 refine tn (i:=6) rfl (⟨hh1,hh2,trivial,⟨zB1,zB2⟩⟩) ?_
                 refine tn (i:=9) rfl (⟨hh1,hh2,trivial,⟨zB1,zB2⟩⟩) ?_
                 refine tn (i:=4) rfl (⟨hh1,hh2,trivial,⟨zB1,zB2⟩⟩) ?_
                 refine tn (i:=5) rfl (⟨hh1,hh2,trivial,⟨zB1,zB2⟩⟩) ?_
                 refine tn (i:=7) rfl (⟨hh1,hh2,trivial,⟨zB1,zB2⟩⟩) ?_
                 refine tn (i:=8) rfl (⟨hh1,hh2,trivial,⟨zB1,zB2⟩⟩) ?_
                 refine tn (i:=10) rfl (⟨hh1,hh2,trivial,⟨zB1,zB2⟩⟩) ?_
                 refine tn (i:=11) rfl (⟨hh1,hh2,trivial,⟨zB1,zB2⟩⟩) ?_
                 refine tn (i:=12) rfl (⟨hh1,hh2,trivial,⟨zB1,zB2⟩⟩) ?_
                 refine tn (i:=13) rfl (⟨hh1,hh2,trivial,⟨zB1,zB2⟩⟩) ?_
                 refine tg (i:=14) (.bool false) rfl (⟨hh1,hh2,trivial,⟨zB1,zB2⟩⟩) ?_
                 refine tg (i:=15) (.bool false) rfl (⟨hh1,hh2,trivial,⟨zB1,zB2⟩⟩) ?_
                 refine tn (i:=16) rfl (⟨hh1,hh2,trivial,⟨zB1,zB2⟩⟩) ?_
                 refine tn (i:=17) rfl (⟨hh1,hh2,trivial,⟨zB1,zB2⟩⟩) ?_
                 refine tn (i:=20) rfl (⟨hh1,hh2,trivial,⟨zB1,zB2⟩⟩) ?_
                 refine tn (i:=23) rfl (⟨hh1,hh2,trivial,⟨zB1,zB2⟩⟩) ?_
                 refine tn (i:=18) rfl (⟨hh1,hh2,trivial,⟨zB1,zB2⟩⟩) ?_
                 refine tn (i:=19) rfl (⟨hh1,hh2,trivial,⟨zB1,zB2⟩⟩) ?_
                 refine tn (i:=21) rfl (⟨hh1,hh2,trivial,⟨zB1,zB2⟩⟩) ?_
                 refine tn (i:=22) rfl (⟨hh1,hh2,trivial,⟨zB1,zB2⟩⟩) ?_
                 refine tn (i:=24) rfl (⟨hh1,hh2,trivial,⟨zB1,zB2⟩⟩) ?_
                 refine tn (i:=25) rfl (⟨hh1,hh2,trivial,⟨zB1,zB2⟩⟩) ?_
                 refine tn (i:=26) rfl (⟨hh1,hh2,trivial,⟨zB1,zB2⟩⟩) ?_
                 refine tn (i:=27) rfl (⟨hh1,hh2,trivial,⟨zB1,zB2⟩⟩) ?_
                 refine tg (i:=28) (.bool false) rfl (⟨hh1,hh2,trivial,⟨zB1,zB2⟩⟩) ?_
                 refine tg (i:=29) (.bool false) rfl (⟨hh1,hh2,trivial,⟨zB1,zB2⟩⟩) ?_
                 refine tg (i:=30) (.int .i64 (jy:Int)) rfl (⟨hh1,hh2,trivial,⟨zB1,zB2⟩⟩) ?_
                 refine tg (i:=31) (.bool true) rfl (⟨hh1,hh2,trivial,⟨zB1,zB2⟩⟩) ?_
                 refine tg (i:=32) (.bool true) rfl (⟨hh1,hh2,trivial,⟨zB1,zB2⟩⟩) ?_
                 refine tg (i:=33) (.pointer (some ⟨g0,2,none⟩)) rfl (⟨hh1,hh2,trivial,⟨zB1,zB2⟩⟩) ?_
                 refine tg (i:=36) (.int .i64 (k:Int)) rfl (⟨hh1,hh2,trivial,⟨zB1,zB2⟩⟩) ?_
                 refine tg (i:=39) (.int .i64 (jy:Int)) rfl (⟨hh1,hh2,trivial,⟨zB1,zB2⟩⟩) ?_
                 refine tg (i:=34) (.pointer (some ⟨g0,3,none⟩)) rfl (⟨hh1,hh2,trivial,⟨zB1,zB2⟩⟩) ?_
                 refine tk (i:=35) (v:=.slice (some ⟨grB,orB,none⟩) b.rows.length lB) rfl (Or.inl ⟨by rfl,fun W' h=>by have c0:=zac h.1 3 rfl;go_simp⟩) (⟨hh1,hh2,trivial,⟨zB1,zB2⟩⟩) ?_
                 refine tg (i:=37) (.pointer (some ⟨grB,orB+k,none⟩)) rfl (⟨hh1,hh2,trivial,⟨zB1,zB2⟩⟩) ?_
                 refine tk (i:=38) (v:=.slice (some ⟨gxB,oxB,none⟩) lnB kxB) rfl (Or.inl ⟨by rfl,fun W' h=>by have c0:=h.2.2.2.1;go_simp⟩) (⟨hh1,hh2,trivial,⟨zB1,zB2⟩⟩) ?_
                 refine tg (i:=40) (.pointer (some ⟨gxB,oxB+jy*6,none⟩)) rfl (⟨hh1,hh2,trivial,⟨zB1,zB2⟩⟩) ?_
                 refine tg (i:=41) (.pointer (some ⟨gxB,oxB+jy*6,none⟩)) rfl (⟨hh1,hh2,trivial,⟨zB1,zB2⟩⟩) ?_
                 refine tk (i:=42) (v:=.int .i64 kdB) rfl (Or.inl ⟨by rfl,fun W' h=>by have c0:=zcl (h.2.2.2.2) HKB.out;go_simp⟩) (⟨hh1,hh2,trivial,⟨zB1,zB2⟩⟩) ?_
                 refine tg (i:=43) (.bool true) rfl (⟨hh1,hh2,trivial,⟨zB1,zB2⟩⟩) ?_
                 refine tg (i:=44) (.bool true) rfl (⟨hh1,hh2,trivial,⟨zB1,zB2⟩⟩) ?_
                 refine tg (i:=45) (.bool true) rfl (⟨hh1,hh2,trivial,⟨zB1,zB2⟩⟩) ?_
                 refine tk (i:=46) (v:=.agg cm.toArray) rfl (yieldsIf_load_mid (by rfl) 48 (.tmp 12) rfl gc 0 rfl cm _ (fun W h=>zb5 h.2.1 0 _ (fun j v hv=>by simpa using hv)) Tryz.underlying48 rfl (by rw [zai,HCM.out])) (⟨hh1,hh2,trivial,⟨zB1,zB2⟩⟩) ?_
                 refine tg (i:=47) (.pointer (some ⟨g0,2,none⟩)) rfl (⟨hh1,hh2,trivial,⟨zB1,zB2⟩⟩) ?_
                 refine tg (i:=50) (.int .i64 (k:Int)) rfl (⟨hh1,hh2,trivial,⟨zB1,zB2⟩⟩) ?_
                 refine tg (i:=53) (.int .i64 (jy:Int)) rfl (⟨hh1,hh2,trivial,⟨zB1,zB2⟩⟩) ?_
                 refine tg (i:=48) (.pointer (some ⟨g0,3,none⟩)) rfl (⟨hh1,hh2,trivial,⟨zB1,zB2⟩⟩) ?_
                 refine tk (i:=49) (v:=.slice (some ⟨grB,orB,none⟩) b.rows.length lB) rfl (Or.inl ⟨by rfl,fun W' h=>by have c0:=zac h.1 3 rfl;go_simp⟩) (⟨hh1,hh2,trivial,⟨zB1,zB2⟩⟩) ?_
                 refine tg (i:=51) (.pointer (some ⟨grB,orB+k,none⟩)) rfl (⟨hh1,hh2,trivial,⟨zB1,zB2⟩⟩) ?_
                 refine tk (i:=52) (v:=.slice (some ⟨gxB,oxB,none⟩) lnB kxB) rfl (Or.inl ⟨by rfl,fun W' h=>by have c0:=h.2.2.2.1;go_simp⟩) (⟨hh1,hh2,trivial,⟨zB1,zB2⟩⟩) ?_
                 refine tg (i:=54) (.pointer (some ⟨gxB,oxB+jy*6,none⟩)) rfl (⟨hh1,hh2,trivial,⟨zB1,zB2⟩⟩) ?_
                 refine tk (i:=55) (v:=.agg cB.toArray) rfl (yieldsIf_load_mid (by rfl) 48 (.tmp 180) rfl gxB (oxB+jy*6) rfl cB _ (fun W h=>h.2.2.2.2) Tryz.underlying48 rfl (by rw [zai,HCB.out])) (⟨hh1,hh2,trivial,⟨zB1,zB2⟩⟩) ?_
                 refine tr 56 rfl (fun K hK=>?_)
                 try rw [if_pos (by rfl)]
                 go_simp
                 refine (HSB.out _ bqX).mono ?_
                 rintro e9 w9 ⟨rfl,hbs⟩
                 replace hh1:=(hbs.block _ (zaa hh1)).trans hh1
                 replace hh2:=(hbs.block _ (zaa hh2)).trans hh2
                 replace zB1:=zaw zB1 hbs
                 replace zB2:=za9 zB2 hbs
                 replace hX:=zab hX hbs hX.size
                 replace bqX:=zab bqX hbs bqX.size
                 clear hbs
                 refine hK.out _ _ (⟨hh1,hh2,trivial,⟨zB1,zB2⟩⟩) (fun _=>?_)
                 clear hK K
                 try simp only [putS]
                 refine tg (i:=57) (.bool false) rfl (⟨hh1,hh2,trivial,⟨zB1,zB2⟩⟩) ?_
                 refine tg (i:=58) (.bool false) rfl (⟨hh1,hh2,trivial,⟨zB1,zB2⟩⟩) ?_
                 refine tg (i:=59) (.bool false) rfl (⟨hh1,hh2,trivial,⟨zB1,zB2⟩⟩) ?_
                 refine wpAnyH_done (by kernel_rfl) ?_ _
                 have HR9:=Lib.hid hX
                 clear hh1 hh2 hX bqX
                 go_wp2_with fail
                 go_roundg (gk - 1)
                 case measure=>omega
                 case rel=>exact ⟨v+1,by omega,by go_num,HR9⟩
           | some jx=>
             obtain rfl:xi=(jx:Int):=HXI1.out
             have hlA:jx < a.rows[i].length:=by
              rw [HTA.out]
              exact zc2 HPX.out.symm
             obtain ⟨grA,orA,l_A,gxA,oxA,kxA,cA,eRA,zA1,zvA,zA2⟩:=(HA.out.below hX).cellAt hi1 hlA
             injection eRA with eq1 eq2 eq3
             subst eq1 eq3
             obtain ⟨lnA,hlnA⟩:∃ lnA,lnA=a.rows[i].length:=⟨_,rfl⟩
             rw [← hlnA] at zA1 hlA
             have hlA2:(jx:Int) < lnA:=by omega
             obtain ⟨vaA,hvaA⟩:∃ vaA,vaA=a.rows[i][jx]:=⟨_,rfl⟩
             rw [← hvaA] at zvA
             have HCA:Hid (cA.length=6):=Lib.hid (valE.len (show valE.rel wX (Old wX) cA vaA from zvA))
             obtain ⟨kdA,hkdA⟩:∃ kdA,kdA=zre vaA:=⟨_,rfl⟩
             have HKA:Hid (cA[0]?=some (.int .i64 kdA)):=Lib.hid (by rw [hkdA];exact zio zvA)
             have HMVA:Hid (kdA≠0→mv=vaA):=Lib.hid (fun q=>by
              have hb:isB (atV a.rows[i] jx)=true:=by
               rw [zc7 (by rw [← hlnA];exact hlA),← hvaA]
               exact zfr.2 (hkdA ▸ q)
              have h:=MVA.out jx HPX.out.symm hb
              rw [zc7 (by rw [← hlnA];exact hlA),← hvaA] at h
              exact h)
             have HSA:Hid (mv=vaA→∀ w',Below wX.heap.size wX w'→Calls Tryz.prog 39 #[.agg cm.toArray,.agg cA.toArray] w' fun e w2=>e=.returned (.bool true)∧Below w'.heap.size w' w2):=Lib.hid (fun q w' k=>by
              have h:=zip mv vaA cm cA (Old w') (Old w') w' (valE.stays (zad k) HMVR.out) (valE.stays (zad k) zvA)
              rw [q,zcx] at h
              exact h)
             clear hvaA hkdA hlnA zvA eq2
             by_cases hkzA:kdA=0
             ·subst hkzA
              cases py with
              | none=>
                obtain rfl:yi=-1:=HYI1.out
                as_aux_lemma=>
                 refine wp_region_held_drew (S:=fun W'=>W'.heap[g0]?=some (.cells #[.slice pA a.vars.length kA,.slice (some ⟨grA,orA,none⟩) a.rows.length lA,.slice pB b.vars.length kB,.slice qB b.rows.length lB,VV,.int .i64 lang,NN] 28)∧W'.heap[gc]?=some (.cells cm.toArray 48)∧(W'.cell? ⟨grA,orA+i,none⟩=some (.slice (some ⟨gxA,oxA,none⟩) lnA kxA)∧W'.rangeAt gxA (oxA+jx*6) cA)∧True) (by kernel_rfl) ⟨y1,vX,⟨zA1,zA2⟩,trivial⟩ (fun hh=>?_)
                 have hh1:=hh.1
                 have hh2:=hh.2.1
                 have zA1:=hh.2.2.1.1
                 have zA2:=hh.2.2.1.2
                 clear hh y1 vX
                 have bq:Below wX.heap.size wX wX.drew:=(Below.refl _ _).drew
                 replace hX:=zab hX bq hX.size
                 have bqX:=bq
                 clear bq
                 generalize wX.drew=wE at*
                 refine tg (i:=0) (.int .i64 (jx:Int)) rfl (⟨hh1,hh2,⟨zA1,zA2⟩,trivial⟩) ?_
                 try simp only [Act.put,List.getElem_toArray,List.getElem_cons_zero,List.setIfInBounds_toArray,List.set_cons_zero,List.set_cons_succ]
                 refine tg (i:=1) (.bool true) rfl (⟨hh1,hh2,⟨zA1,zA2⟩,trivial⟩) ?_
                 refine tg (i:=2) (.bool true) rfl (⟨hh1,hh2,⟨zA1,zA2⟩,trivial⟩) ?_
                 refine tg (i:=3) (.pointer (some ⟨g0,0,none⟩)) rfl (⟨hh1,hh2,⟨zA1,zA2⟩,trivial⟩) ?_
                 refine tg (i:=6) (.int .i64 (i:Int)) rfl (⟨hh1,hh2,⟨zA1,zA2⟩,trivial⟩) ?_
                 refine tg (i:=9) (.int .i64 (jx:Int)) rfl (⟨hh1,hh2,⟨zA1,zA2⟩,trivial⟩) ?_
                 refine tg (i:=4) (.pointer (some ⟨g0,1,none⟩)) rfl (⟨hh1,hh2,⟨zA1,zA2⟩,trivial⟩) ?_
                 refine tk (i:=5) (v:=.slice (some ⟨grA,orA,none⟩) a.rows.length lA) rfl (Or.inl ⟨by rfl,fun W' h=>by have c0:=zac h.1 1 rfl;go_simp⟩) (⟨hh1,hh2,⟨zA1,zA2⟩,trivial⟩) ?_
                 refine tg (i:=7) (.pointer (some ⟨grA,orA+i,none⟩)) rfl (⟨hh1,hh2,⟨zA1,zA2⟩,trivial⟩) ?_
                 refine tk (i:=8) (v:=.slice (some ⟨gxA,oxA,none⟩) lnA kxA) rfl (Or.inl ⟨by rfl,fun W' h=>by have c0:=h.2.2.1.1;go_simp⟩) (⟨hh1,hh2,⟨zA1,zA2⟩,trivial⟩) ?_
                 refine tg (i:=10) (.pointer (some ⟨gxA,oxA+jx*6,none⟩)) rfl (⟨hh1,hh2,⟨zA1,zA2⟩,trivial⟩) ?_
                 refine tg (i:=11) (.pointer (some ⟨gxA,oxA+jx*6,none⟩)) rfl (⟨hh1,hh2,⟨zA1,zA2⟩,trivial⟩) ?_
                 refine tk (i:=12) (v:=.int .i64 0) rfl (Or.inl ⟨by rfl,fun W' h=>by have c0:=zcl (h.2.2.1.2) HKA.out;go_simp⟩) (⟨hh1,hh2,⟨zA1,zA2⟩,trivial⟩) ?_
                 refine tg (i:=13) (.bool false) rfl (⟨hh1,hh2,⟨zA1,zA2⟩,trivial⟩) ?_
                 refine tg (i:=14) (.bool false) rfl (⟨hh1,hh2,⟨zA1,zA2⟩,trivial⟩) ?_
                 refine tg (i:=15) (.bool false) rfl (⟨hh1,hh2,⟨zA1,zA2⟩,trivial⟩) ?_
                 refine tn (i:=16) rfl (⟨hh1,hh2,⟨zA1,zA2⟩,trivial⟩) ?_
                 refine tn (i:=17) rfl (⟨hh1,hh2,⟨zA1,zA2⟩,trivial⟩) ?_
                 refine tn (i:=20) rfl (⟨hh1,hh2,⟨zA1,zA2⟩,trivial⟩) ?_
                 refine tn (i:=23) rfl (⟨hh1,hh2,⟨zA1,zA2⟩,trivial⟩) ?_
                 refine tn (i:=18) rfl (⟨hh1,hh2,⟨zA1,zA2⟩,trivial⟩) ?_
                 refine tn (i:=19) rfl (⟨hh1,hh2,⟨zA1,zA2⟩,trivial⟩) ?_
                 refine tn (i:=21) rfl (⟨hh1,hh2,⟨zA1,zA2⟩,trivial⟩) ?_
                 refine tn (i:=22) rfl (⟨hh1,hh2,⟨zA1,zA2⟩,trivial⟩) ?_
                 refine tn (i:=24) rfl (⟨hh1,hh2,⟨zA1,zA2⟩,trivial⟩) ?_
                 refine tn (i:=25) rfl (⟨hh1,hh2,⟨zA1,zA2⟩,trivial⟩) ?_
                 refine tn (i:=26) rfl (⟨hh1,hh2,⟨zA1,zA2⟩,trivial⟩) ?_
                 refine tn (i:=27) rfl (⟨hh1,hh2,⟨zA1,zA2⟩,trivial⟩) ?_
                 refine tg (i:=28) (.bool false) rfl (⟨hh1,hh2,⟨zA1,zA2⟩,trivial⟩) ?_
                 refine tg (i:=29) (.bool false) rfl (⟨hh1,hh2,⟨zA1,zA2⟩,trivial⟩) ?_
                 refine tg (i:=30) (.int .i64 (-1)) rfl (⟨hh1,hh2,⟨zA1,zA2⟩,trivial⟩) ?_
                 refine tg (i:=31) (.bool false) rfl (⟨hh1,hh2,⟨zA1,zA2⟩,trivial⟩) ?_
                 refine tg (i:=32) (.bool false) rfl (⟨hh1,hh2,⟨zA1,zA2⟩,trivial⟩) ?_
                 refine tn (i:=33) rfl (⟨hh1,hh2,⟨zA1,zA2⟩,trivial⟩) ?_
                 refine tn (i:=36) rfl (⟨hh1,hh2,⟨zA1,zA2⟩,trivial⟩) ?_
                 refine tn (i:=39) rfl (⟨hh1,hh2,⟨zA1,zA2⟩,trivial⟩) ?_
                 refine tn (i:=34) rfl (⟨hh1,hh2,⟨zA1,zA2⟩,trivial⟩) ?_
                 refine tn (i:=35) rfl (⟨hh1,hh2,⟨zA1,zA2⟩,trivial⟩) ?_
                 refine tn (i:=37) rfl (⟨hh1,hh2,⟨zA1,zA2⟩,trivial⟩) ?_
                 refine tn (i:=38) rfl (⟨hh1,hh2,⟨zA1,zA2⟩,trivial⟩) ?_
                 refine tn (i:=40) rfl (⟨hh1,hh2,⟨zA1,zA2⟩,trivial⟩) ?_
                 refine tn (i:=41) rfl (⟨hh1,hh2,⟨zA1,zA2⟩,trivial⟩) ?_
                 refine tn (i:=42) rfl (⟨hh1,hh2,⟨zA1,zA2⟩,trivial⟩) ?_
                 refine tn (i:=43) rfl (⟨hh1,hh2,⟨zA1,zA2⟩,trivial⟩) ?_
                 refine tg (i:=44) (.bool false) rfl (⟨hh1,hh2,⟨zA1,zA2⟩,trivial⟩) ?_
                 refine tg (i:=45) (.bool false) rfl (⟨hh1,hh2,⟨zA1,zA2⟩,trivial⟩) ?_
                 refine tn (i:=46) rfl (⟨hh1,hh2,⟨zA1,zA2⟩,trivial⟩) ?_
                 refine tn (i:=47) rfl (⟨hh1,hh2,⟨zA1,zA2⟩,trivial⟩) ?_
                 refine tn (i:=50) rfl (⟨hh1,hh2,⟨zA1,zA2⟩,trivial⟩) ?_
                 refine tn (i:=53) rfl (⟨hh1,hh2,⟨zA1,zA2⟩,trivial⟩) ?_
                 refine tn (i:=48) rfl (⟨hh1,hh2,⟨zA1,zA2⟩,trivial⟩) ?_
                 refine tn (i:=49) rfl (⟨hh1,hh2,⟨zA1,zA2⟩,trivial⟩) ?_
                 refine tn (i:=51) rfl (⟨hh1,hh2,⟨zA1,zA2⟩,trivial⟩) ?_
                 refine tn (i:=52) rfl (⟨hh1,hh2,⟨zA1,zA2⟩,trivial⟩) ?_
                 refine tn (i:=54) rfl (⟨hh1,hh2,⟨zA1,zA2⟩,trivial⟩) ?_
                 refine tn (i:=55) rfl (⟨hh1,hh2,⟨zA1,zA2⟩,trivial⟩) ?_
                 refine tn (i:=56) rfl (⟨hh1,hh2,⟨zA1,zA2⟩,trivial⟩) ?_
                 refine tn (i:=57) rfl (⟨hh1,hh2,⟨zA1,zA2⟩,trivial⟩) ?_
                 refine tg (i:=58) (.bool false) rfl (⟨hh1,hh2,⟨zA1,zA2⟩,trivial⟩) ?_
                 refine tg (i:=59) (.bool false) rfl (⟨hh1,hh2,⟨zA1,zA2⟩,trivial⟩) ?_
                 refine wpAnyH_done (by kernel_rfl) ?_ _
                 have HR9:=Lib.hid hX
                 clear hh1 hh2 hX bqX
                 go_wp2_with fail
                 go_roundg (gk - 1)
                 case measure=>omega
                 case rel=>exact ⟨v+1,by omega,by go_num,HR9⟩
              | some jy=>
                obtain rfl:yi=(jy:Int):=HYI1.out
                have hlB:jy < b.rows[k].length:=by
                 rw [HTB.out]
                 exact zc2 HPY.out.symm
                obtain ⟨grB,orB,l_B,gxB,oxB,kxB,cB,eRB,zB1,zvB,zB2⟩:=(HB.out.below hX).cellAt hk1 hlB
                injection eRB with eq1 eq2 eq3
                subst eq1 eq3
                obtain ⟨lnB,hlnB⟩:∃ lnB,lnB=b.rows[k].length:=⟨_,rfl⟩
                rw [← hlnB] at zB1 hlB
                have hlB2:(jy:Int) < lnB:=by omega
                obtain ⟨vaB,hvaB⟩:∃ vaB,vaB=b.rows[k][jy]:=⟨_,rfl⟩
                rw [← hvaB] at zvB
                have HCB:Hid (cB.length=6):=Lib.hid (valE.len (show valE.rel wX (Old wX) cB vaB from zvB))
                obtain ⟨kdB,hkdB⟩:∃ kdB,kdB=zre vaB:=⟨_,rfl⟩
                have HKB:Hid (cB[0]?=some (.int .i64 kdB)):=Lib.hid (by rw [hkdB];exact zio zvB)
                have HMVB:Hid (kdB≠0→mv=vaB):=Lib.hid (fun q=>by
                 have hb:isB (atV b.rows[k] jy)=true:=by
                  rw [zc7 (by rw [← hlnB];exact hlB),← hvaB]
                  exact zfr.2 (hkdB ▸ q)
                 have h:=MVB.out jy HPY.out.symm hb
                 rw [zc7 (by rw [← hlnB];exact hlB),← hvaB] at h
                 exact h)
                have HSB:Hid (mv=vaB→∀ w',Below wX.heap.size wX w'→Calls Tryz.prog 39 #[.agg cm.toArray,.agg cB.toArray] w' fun e w2=>e=.returned (.bool true)∧Below w'.heap.size w' w2):=Lib.hid (fun q w' k=>by
                 have h:=zip mv vaB cm cB (Old w') (Old w') w' (valE.stays (zad k) HMVR.out) (valE.stays (zad k) zvB)
                 rw [q,zcx] at h
                 exact h)
                clear hvaB hkdB hlnB zvB eq2
                by_cases hkzB:kdB=0
                ·subst hkzB
                 as_aux_lemma=>
                  refine wp_region_held_drew (S:=fun W'=>W'.heap[g0]?=some (.cells #[.slice pA a.vars.length kA,.slice (some ⟨grA,orA,none⟩) a.rows.length lA,.slice pB b.vars.length kB,.slice (some ⟨grB,orB,none⟩) b.rows.length lB,VV,.int .i64 lang,NN] 28)∧W'.heap[gc]?=some (.cells cm.toArray 48)∧(W'.cell? ⟨grA,orA+i,none⟩=some (.slice (some ⟨gxA,oxA,none⟩) lnA kxA)∧W'.rangeAt gxA (oxA+jx*6) cA)∧(W'.cell? ⟨grB,orB+k,none⟩=some (.slice (some ⟨gxB,oxB,none⟩) lnB kxB)∧W'.rangeAt gxB (oxB+jy*6) cB)) (by kernel_rfl) ⟨y1,vX,⟨zA1,zA2⟩,⟨zB1,zB2⟩⟩ (fun hh=>?_)
                  have hh1:=hh.1
                  have hh2:=hh.2.1
                  have zA1:=hh.2.2.1.1
                  have zA2:=hh.2.2.1.2
                  have zB1:=hh.2.2.2.1
                  have zB2:=hh.2.2.2.2
                  clear hh y1 vX
                  have bq:Below wX.heap.size wX wX.drew:=(Below.refl _ _).drew
                  replace hX:=zab hX bq hX.size
                  have bqX:=bq
                  clear bq
                  generalize wX.drew=wE at*
                  refine tg (i:=0) (.int .i64 (jx:Int)) rfl (⟨hh1,hh2,⟨zA1,zA2⟩,⟨zB1,zB2⟩⟩) ?_
                  try simp only [Act.put,List.getElem_toArray,List.getElem_cons_zero,List.setIfInBounds_toArray,List.set_cons_zero,List.set_cons_succ]
                  refine tg (i:=1) (.bool true) rfl (⟨hh1,hh2,⟨zA1,zA2⟩,⟨zB1,zB2⟩⟩) ?_
                  refine tg (i:=2) (.bool true) rfl (⟨hh1,hh2,⟨zA1,zA2⟩,⟨zB1,zB2⟩⟩) ?_
                  refine tg (i:=3) (.pointer (some ⟨g0,0,none⟩)) rfl (⟨hh1,hh2,⟨zA1,zA2⟩,⟨zB1,zB2⟩⟩) ?_
                  refine tg (i:=6) (.int .i64 (i:Int)) rfl (⟨hh1,hh2,⟨zA1,zA2⟩,⟨zB1,zB2⟩⟩) ?_
                  refine tg (i:=9) (.int .i64 (jx:Int)) rfl (⟨hh1,hh2,⟨zA1,zA2⟩,⟨zB1,zB2⟩⟩) ?_
                  refine tg (i:=4) (.pointer (some ⟨g0,1,none⟩)) rfl (⟨hh1,hh2,⟨zA1,zA2⟩,⟨zB1,zB2⟩⟩) ?_
                  refine tk (i:=5) (v:=.slice (some ⟨grA,orA,none⟩) a.rows.length lA) rfl (Or.inl ⟨by rfl,fun W' h=>by have c0:=zac h.1 1 rfl;go_simp⟩) (⟨hh1,hh2,⟨zA1,zA2⟩,⟨zB1,zB2⟩⟩) ?_
                  refine tg (i:=7) (.pointer (some ⟨grA,orA+i,none⟩)) rfl (⟨hh1,hh2,⟨zA1,zA2⟩,⟨zB1,zB2⟩⟩) ?_
                  refine tk (i:=8) (v:=.slice (some ⟨gxA,oxA,none⟩) lnA kxA) rfl (Or.inl ⟨by rfl,fun W' h=>by have c0:=h.2.2.1.1;go_simp⟩) (⟨hh1,hh2,⟨zA1,zA2⟩,⟨zB1,zB2⟩⟩) ?_
                  refine tg (i:=10) (.pointer (some ⟨gxA,oxA+jx*6,none⟩)) rfl (⟨hh1,hh2,⟨zA1,zA2⟩,⟨zB1,zB2⟩⟩) ?_
                  refine tg (i:=11) (.pointer (some ⟨gxA,oxA+jx*6,none⟩)) rfl (⟨hh1,hh2,⟨zA1,zA2⟩,⟨zB1,zB2⟩⟩) ?_
                  refine tk (i:=12) (v:=.int .i64 0) rfl (Or.inl ⟨by rfl,fun W' h=>by have c0:=zcl (h.2.2.1.2) HKA.out;go_simp⟩) (⟨hh1,hh2,⟨zA1,zA2⟩,⟨zB1,zB2⟩⟩) ?_
                  refine tg (i:=13) (.bool false) rfl (⟨hh1,hh2,⟨zA1,zA2⟩,⟨zB1,zB2⟩⟩) ?_
                  refine tg (i:=14) (.bool false) rfl (⟨hh1,hh2,⟨zA1,zA2⟩,⟨zB1,zB2⟩⟩) ?_
                  refine tg (i:=15) (.bool false) rfl (⟨hh1,hh2,⟨zA1,zA2⟩,⟨zB1,zB2⟩⟩) ?_
                  refine tn (i:=16) rfl (⟨hh1,hh2,⟨zA1,zA2⟩,⟨zB1,zB2⟩⟩) ?_
                  refine tn (i:=17) rfl (⟨hh1,hh2,⟨zA1,zA2⟩,⟨zB1,zB2⟩⟩) ?_
                  refine tn (i:=20) rfl (⟨hh1,hh2,⟨zA1,zA2⟩,⟨zB1,zB2⟩⟩) ?_
                  refine tn (i:=23) rfl (⟨hh1,hh2,⟨zA1,zA2⟩,⟨zB1,zB2⟩⟩) ?_
                  refine tn (i:=18) rfl (⟨hh1,hh2,⟨zA1,zA2⟩,⟨zB1,zB2⟩⟩) ?_
                  refine tn (i:=19) rfl (⟨hh1,hh2,⟨zA1,zA2⟩,⟨zB1,zB2⟩⟩) ?_
                  refine tn (i:=21) rfl (⟨hh1,hh2,⟨zA1,zA2⟩,⟨zB1,zB2⟩⟩) ?_
                  refine tn (i:=22) rfl (⟨hh1,hh2,⟨zA1,zA2⟩,⟨zB1,zB2⟩⟩) ?_
                  refine tn (i:=24) rfl (⟨hh1,hh2,⟨zA1,zA2⟩,⟨zB1,zB2⟩⟩) ?_
                  refine tn (i:=25) rfl (⟨hh1,hh2,⟨zA1,zA2⟩,⟨zB1,zB2⟩⟩) ?_
                  refine tn (i:=26) rfl (⟨hh1,hh2,⟨zA1,zA2⟩,⟨zB1,zB2⟩⟩) ?_
                  refine tn (i:=27) rfl (⟨hh1,hh2,⟨zA1,zA2⟩,⟨zB1,zB2⟩⟩) ?_
                  refine tg (i:=28) (.bool false) rfl (⟨hh1,hh2,⟨zA1,zA2⟩,⟨zB1,zB2⟩⟩) ?_
                  refine tg (i:=29) (.bool false) rfl (⟨hh1,hh2,⟨zA1,zA2⟩,⟨zB1,zB2⟩⟩) ?_
                  refine tg (i:=30) (.int .i64 (jy:Int)) rfl (⟨hh1,hh2,⟨zA1,zA2⟩,⟨zB1,zB2⟩⟩) ?_
                  refine tg (i:=31) (.bool true) rfl (⟨hh1,hh2,⟨zA1,zA2⟩,⟨zB1,zB2⟩⟩) ?_
                  refine tg (i:=32) (.bool true) rfl (⟨hh1,hh2,⟨zA1,zA2⟩,⟨zB1,zB2⟩⟩) ?_
                  refine tg (i:=33) (.pointer (some ⟨g0,2,none⟩)) rfl (⟨hh1,hh2,⟨zA1,zA2⟩,⟨zB1,zB2⟩⟩) ?_
                  refine tg (i:=36) (.int .i64 (k:Int)) rfl (⟨hh1,hh2,⟨zA1,zA2⟩,⟨zB1,zB2⟩⟩) ?_
                  refine tg (i:=39) (.int .i64 (jy:Int)) rfl (⟨hh1,hh2,⟨zA1,zA2⟩,⟨zB1,zB2⟩⟩) ?_
                  refine tg (i:=34) (.pointer (some ⟨g0,3,none⟩)) rfl (⟨hh1,hh2,⟨zA1,zA2⟩,⟨zB1,zB2⟩⟩) ?_
                  refine tk (i:=35) (v:=.slice (some ⟨grB,orB,none⟩) b.rows.length lB) rfl (Or.inl ⟨by rfl,fun W' h=>by have c0:=zac h.1 3 rfl;go_simp⟩) (⟨hh1,hh2,⟨zA1,zA2⟩,⟨zB1,zB2⟩⟩) ?_
                  refine tg (i:=37) (.pointer (some ⟨grB,orB+k,none⟩)) rfl (⟨hh1,hh2,⟨zA1,zA2⟩,⟨zB1,zB2⟩⟩) ?_
                  refine tk (i:=38) (v:=.slice (some ⟨gxB,oxB,none⟩) lnB kxB) rfl (Or.inl ⟨by rfl,fun W' h=>by have c0:=h.2.2.2.1;go_simp⟩) (⟨hh1,hh2,⟨zA1,zA2⟩,⟨zB1,zB2⟩⟩) ?_
                  refine tg (i:=40) (.pointer (some ⟨gxB,oxB+jy*6,none⟩)) rfl (⟨hh1,hh2,⟨zA1,zA2⟩,⟨zB1,zB2⟩⟩) ?_
                  refine tg (i:=41) (.pointer (some ⟨gxB,oxB+jy*6,none⟩)) rfl (⟨hh1,hh2,⟨zA1,zA2⟩,⟨zB1,zB2⟩⟩) ?_
                  refine tk (i:=42) (v:=.int .i64 0) rfl (Or.inl ⟨by rfl,fun W' h=>by have c0:=zcl (h.2.2.2.2) HKB.out;go_simp⟩) (⟨hh1,hh2,⟨zA1,zA2⟩,⟨zB1,zB2⟩⟩) ?_
                  refine tg (i:=43) (.bool false) rfl (⟨hh1,hh2,⟨zA1,zA2⟩,⟨zB1,zB2⟩⟩) ?_
                  refine tg (i:=44) (.bool false) rfl (⟨hh1,hh2,⟨zA1,zA2⟩,⟨zB1,zB2⟩⟩) ?_
                  refine tg (i:=45) (.bool false) rfl (⟨hh1,hh2,⟨zA1,zA2⟩,⟨zB1,zB2⟩⟩) ?_
                  refine tn (i:=46) rfl (⟨hh1,hh2,⟨zA1,zA2⟩,⟨zB1,zB2⟩⟩) ?_
                  refine tn (i:=47) rfl (⟨hh1,hh2,⟨zA1,zA2⟩,⟨zB1,zB2⟩⟩) ?_
                  refine tn (i:=50) rfl (⟨hh1,hh2,⟨zA1,zA2⟩,⟨zB1,zB2⟩⟩) ?_
                  refine tn (i:=53) rfl (⟨hh1,hh2,⟨zA1,zA2⟩,⟨zB1,zB2⟩⟩) ?_
                  refine tn (i:=48) rfl (⟨hh1,hh2,⟨zA1,zA2⟩,⟨zB1,zB2⟩⟩) ?_
                  refine tn (i:=49) rfl (⟨hh1,hh2,⟨zA1,zA2⟩,⟨zB1,zB2⟩⟩) ?_
                  refine tn (i:=51) rfl (⟨hh1,hh2,⟨zA1,zA2⟩,⟨zB1,zB2⟩⟩) ?_
                  refine tn (i:=52) rfl (⟨hh1,hh2,⟨zA1,zA2⟩,⟨zB1,zB2⟩⟩) ?_
                  refine tn (i:=54) rfl (⟨hh1,hh2,⟨zA1,zA2⟩,⟨zB1,zB2⟩⟩) ?_
                  refine tn (i:=55) rfl (⟨hh1,hh2,⟨zA1,zA2⟩,⟨zB1,zB2⟩⟩) ?_
                  refine tn (i:=56) rfl (⟨hh1,hh2,⟨zA1,zA2⟩,⟨zB1,zB2⟩⟩) ?_
                  refine tn (i:=57) rfl (⟨hh1,hh2,⟨zA1,zA2⟩,⟨zB1,zB2⟩⟩) ?_
                  refine tg (i:=58) (.bool false) rfl (⟨hh1,hh2,⟨zA1,zA2⟩,⟨zB1,zB2⟩⟩) ?_
                  refine tg (i:=59) (.bool false) rfl (⟨hh1,hh2,⟨zA1,zA2⟩,⟨zB1,zB2⟩⟩) ?_
                  refine wpAnyH_done (by kernel_rfl) ?_ _
                  have HR9:=Lib.hid hX
                  clear hh1 hh2 hX bqX
                  go_wp2_with fail
                  go_roundg (gk - 1)
                  case measure=>omega
                  case rel=>exact ⟨v+1,by omega,by go_num,HR9⟩
                ·have hknB:(kdB != 0)=true:=by simpa using hkzB
                 replace HSB:=Lib.hid (HSB.out (HMVB.out hkzB))
                 as_aux_lemma=>
                  refine wp_region_held_drew (S:=fun W'=>W'.heap[g0]?=some (.cells #[.slice pA a.vars.length kA,.slice (some ⟨grA,orA,none⟩) a.rows.length lA,.slice pB b.vars.length kB,.slice (some ⟨grB,orB,none⟩) b.rows.length lB,VV,.int .i64 lang,NN] 28)∧W'.heap[gc]?=some (.cells cm.toArray 48)∧(W'.cell? ⟨grA,orA+i,none⟩=some (.slice (some ⟨gxA,oxA,none⟩) lnA kxA)∧W'.rangeAt gxA (oxA+jx*6) cA)∧(W'.cell? ⟨grB,orB+k,none⟩=some (.slice (some ⟨gxB,oxB,none⟩) lnB kxB)∧W'.rangeAt gxB (oxB+jy*6) cB)) (by kernel_rfl) ⟨y1,vX,⟨zA1,zA2⟩,⟨zB1,zB2⟩⟩ (fun hh=>?_)
                  have hh1:=hh.1
                  have hh2:=hh.2.1
                  have zA1:=hh.2.2.1.1
                  have zA2:=hh.2.2.1.2
                  have zB1:=hh.2.2.2.1
                  have zB2:=hh.2.2.2.2
                  clear hh y1 vX
                  have bq:Below wX.heap.size wX wX.drew:=(Below.refl _ _).drew
                  replace hX:=zab hX bq hX.size
                  have bqX:=bq
                  clear bq
                  generalize wX.drew=wE at*
                  refine tg (i:=0) (.int .i64 (jx:Int)) rfl (⟨hh1,hh2,⟨zA1,zA2⟩,⟨zB1,zB2⟩⟩) ?_
                  try simp only [Act.put,List.getElem_toArray,List.getElem_cons_zero,List.setIfInBounds_toArray,List.set_cons_zero,List.set_cons_succ]
                  refine tg (i:=1) (.bool true) rfl (⟨hh1,hh2,⟨zA1,zA2⟩,⟨zB1,zB2⟩⟩) ?_
                  refine tg (i:=2) (.bool true) rfl (⟨hh1,hh2,⟨zA1,zA2⟩,⟨zB1,zB2⟩⟩) ?_
                  refine tg (i:=3) (.pointer (some ⟨g0,0,none⟩)) rfl (⟨hh1,hh2,⟨zA1,zA2⟩,⟨zB1,zB2⟩⟩) ?_
                  refine tg (i:=6) (.int .i64 (i:Int)) rfl (⟨hh1,hh2,⟨zA1,zA2⟩,⟨zB1,zB2⟩⟩) ?_
                  refine tg (i:=9) (.int .i64 (jx:Int)) rfl (⟨hh1,hh2,⟨zA1,zA2⟩,⟨zB1,zB2⟩⟩) ?_
                  refine tg (i:=4) (.pointer (some ⟨g0,1,none⟩)) rfl (⟨hh1,hh2,⟨zA1,zA2⟩,⟨zB1,zB2⟩⟩) ?_
                  refine tk (i:=5) (v:=.slice (some ⟨grA,orA,none⟩) a.rows.length lA) rfl (Or.inl ⟨by rfl,fun W' h=>by have c0:=zac h.1 1 rfl;go_simp⟩) (⟨hh1,hh2,⟨zA1,zA2⟩,⟨zB1,zB2⟩⟩) ?_
                  refine tg (i:=7) (.pointer (some ⟨grA,orA+i,none⟩)) rfl (⟨hh1,hh2,⟨zA1,zA2⟩,⟨zB1,zB2⟩⟩) ?_
                  refine tk (i:=8) (v:=.slice (some ⟨gxA,oxA,none⟩) lnA kxA) rfl (Or.inl ⟨by rfl,fun W' h=>by have c0:=h.2.2.1.1;go_simp⟩) (⟨hh1,hh2,⟨zA1,zA2⟩,⟨zB1,zB2⟩⟩) ?_
                  refine tg (i:=10) (.pointer (some ⟨gxA,oxA+jx*6,none⟩)) rfl (⟨hh1,hh2,⟨zA1,zA2⟩,⟨zB1,zB2⟩⟩) ?_
                  refine tg (i:=11) (.pointer (some ⟨gxA,oxA+jx*6,none⟩)) rfl (⟨hh1,hh2,⟨zA1,zA2⟩,⟨zB1,zB2⟩⟩) ?_
                  refine tk (i:=12) (v:=.int .i64 0) rfl (Or.inl ⟨by rfl,fun W' h=>by have c0:=zcl (h.2.2.1.2) HKA.out;go_simp⟩) (⟨hh1,hh2,⟨zA1,zA2⟩,⟨zB1,zB2⟩⟩) ?_
                  refine tg (i:=13) (.bool false) rfl (⟨hh1,hh2,⟨zA1,zA2⟩,⟨zB1,zB2⟩⟩) ?_
                  refine tg (i:=14) (.bool false) rfl (⟨hh1,hh2,⟨zA1,zA2⟩,⟨zB1,zB2⟩⟩) ?_
                  refine tg (i:=15) (.bool false) rfl (⟨hh1,hh2,⟨zA1,zA2⟩,⟨zB1,zB2⟩⟩) ?_
                  refine tn (i:=16) rfl (⟨hh1,hh2,⟨zA1,zA2⟩,⟨zB1,zB2⟩⟩) ?_
                  refine tn (i:=17) rfl (⟨hh1,hh2,⟨zA1,zA2⟩,⟨zB1,zB2⟩⟩) ?_
                  refine tn (i:=20) rfl (⟨hh1,hh2,⟨zA1,zA2⟩,⟨zB1,zB2⟩⟩) ?_
                  refine tn (i:=23) rfl (⟨hh1,hh2,⟨zA1,zA2⟩,⟨zB1,zB2⟩⟩) ?_
                  refine tn (i:=18) rfl (⟨hh1,hh2,⟨zA1,zA2⟩,⟨zB1,zB2⟩⟩) ?_
                  refine tn (i:=19) rfl (⟨hh1,hh2,⟨zA1,zA2⟩,⟨zB1,zB2⟩⟩) ?_
                  refine tn (i:=21) rfl (⟨hh1,hh2,⟨zA1,zA2⟩,⟨zB1,zB2⟩⟩) ?_
                  refine tn (i:=22) rfl (⟨hh1,hh2,⟨zA1,zA2⟩,⟨zB1,zB2⟩⟩) ?_
                  refine tn (i:=24) rfl (⟨hh1,hh2,⟨zA1,zA2⟩,⟨zB1,zB2⟩⟩) ?_
                  refine tn (i:=25) rfl (⟨hh1,hh2,⟨zA1,zA2⟩,⟨zB1,zB2⟩⟩) ?_
                  refine tn (i:=26) rfl (⟨hh1,hh2,⟨zA1,zA2⟩,⟨zB1,zB2⟩⟩) ?_
                  refine tn (i:=27) rfl (⟨hh1,hh2,⟨zA1,zA2⟩,⟨zB1,zB2⟩⟩) ?_
                  refine tg (i:=28) (.bool false) rfl (⟨hh1,hh2,⟨zA1,zA2⟩,⟨zB1,zB2⟩⟩) ?_
                  refine tg (i:=29) (.bool false) rfl (⟨hh1,hh2,⟨zA1,zA2⟩,⟨zB1,zB2⟩⟩) ?_
                  refine tg (i:=30) (.int .i64 (jy:Int)) rfl (⟨hh1,hh2,⟨zA1,zA2⟩,⟨zB1,zB2⟩⟩) ?_
                  refine tg (i:=31) (.bool true) rfl (⟨hh1,hh2,⟨zA1,zA2⟩,⟨zB1,zB2⟩⟩) ?_
                  refine tg (i:=32) (.bool true) rfl (⟨hh1,hh2,⟨zA1,zA2⟩,⟨zB1,zB2⟩⟩) ?_
                  refine tg (i:=33) (.pointer (some ⟨g0,2,none⟩)) rfl (⟨hh1,hh2,⟨zA1,zA2⟩,⟨zB1,zB2⟩⟩) ?_
                  refine tg (i:=36) (.int .i64 (k:Int)) rfl (⟨hh1,hh2,⟨zA1,zA2⟩,⟨zB1,zB2⟩⟩) ?_
                  refine tg (i:=39) (.int .i64 (jy:Int)) rfl (⟨hh1,hh2,⟨zA1,zA2⟩,⟨zB1,zB2⟩⟩) ?_
                  refine tg (i:=34) (.pointer (some ⟨g0,3,none⟩)) rfl (⟨hh1,hh2,⟨zA1,zA2⟩,⟨zB1,zB2⟩⟩) ?_
                  refine tk (i:=35) (v:=.slice (some ⟨grB,orB,none⟩) b.rows.length lB) rfl (Or.inl ⟨by rfl,fun W' h=>by have c0:=zac h.1 3 rfl;go_simp⟩) (⟨hh1,hh2,⟨zA1,zA2⟩,⟨zB1,zB2⟩⟩) ?_
                  refine tg (i:=37) (.pointer (some ⟨grB,orB+k,none⟩)) rfl (⟨hh1,hh2,⟨zA1,zA2⟩,⟨zB1,zB2⟩⟩) ?_
                  refine tk (i:=38) (v:=.slice (some ⟨gxB,oxB,none⟩) lnB kxB) rfl (Or.inl ⟨by rfl,fun W' h=>by have c0:=h.2.2.2.1;go_simp⟩) (⟨hh1,hh2,⟨zA1,zA2⟩,⟨zB1,zB2⟩⟩) ?_
                  refine tg (i:=40) (.pointer (some ⟨gxB,oxB+jy*6,none⟩)) rfl (⟨hh1,hh2,⟨zA1,zA2⟩,⟨zB1,zB2⟩⟩) ?_
                  refine tg (i:=41) (.pointer (some ⟨gxB,oxB+jy*6,none⟩)) rfl (⟨hh1,hh2,⟨zA1,zA2⟩,⟨zB1,zB2⟩⟩) ?_
                  refine tk (i:=42) (v:=.int .i64 kdB) rfl (Or.inl ⟨by rfl,fun W' h=>by have c0:=zcl (h.2.2.2.2) HKB.out;go_simp⟩) (⟨hh1,hh2,⟨zA1,zA2⟩,⟨zB1,zB2⟩⟩) ?_
                  refine tg (i:=43) (.bool true) rfl (⟨hh1,hh2,⟨zA1,zA2⟩,⟨zB1,zB2⟩⟩) ?_
                  refine tg (i:=44) (.bool true) rfl (⟨hh1,hh2,⟨zA1,zA2⟩,⟨zB1,zB2⟩⟩) ?_
                  refine tg (i:=45) (.bool true) rfl (⟨hh1,hh2,⟨zA1,zA2⟩,⟨zB1,zB2⟩⟩) ?_
                  refine tk (i:=46) (v:=.agg cm.toArray) rfl (yieldsIf_load_mid (by rfl) 48 (.tmp 12) rfl gc 0 rfl cm _ (fun W h=>zb5 h.2.1 0 _ (fun j v hv=>by simpa using hv)) Tryz.underlying48 rfl (by rw [zai,HCM.out])) (⟨hh1,hh2,⟨zA1,zA2⟩,⟨zB1,zB2⟩⟩) ?_
                  refine tg (i:=47) (.pointer (some ⟨g0,2,none⟩)) rfl (⟨hh1,hh2,⟨zA1,zA2⟩,⟨zB1,zB2⟩⟩) ?_
                  refine tg (i:=50) (.int .i64 (k:Int)) rfl (⟨hh1,hh2,⟨zA1,zA2⟩,⟨zB1,zB2⟩⟩) ?_
                  refine tg (i:=53) (.int .i64 (jy:Int)) rfl (⟨hh1,hh2,⟨zA1,zA2⟩,⟨zB1,zB2⟩⟩) ?_
                  refine tg (i:=48) (.pointer (some ⟨g0,3,none⟩)) rfl (⟨hh1,hh2,⟨zA1,zA2⟩,⟨zB1,zB2⟩⟩) ?_
                  refine tk (i:=49) (v:=.slice (some ⟨grB,orB,none⟩) b.rows.length lB) rfl (Or.inl ⟨by rfl,fun W' h=>by have c0:=zac h.1 3 rfl;go_simp⟩) (⟨hh1,hh2,⟨zA1,zA2⟩,⟨zB1,zB2⟩⟩) ?_
                  refine tg (i:=51) (.pointer (some ⟨grB,orB+k,none⟩)) rfl (⟨hh1,hh2,⟨zA1,zA2⟩,⟨zB1,zB2⟩⟩) ?_
                  refine tk (i:=52) (v:=.slice (some ⟨gxB,oxB,none⟩) lnB kxB) rfl (Or.inl ⟨by rfl,fun W' h=>by have c0:=h.2.2.2.1;go_simp⟩) (⟨hh1,hh2,⟨zA1,zA2⟩,⟨zB1,zB2⟩⟩) ?_
                  refine tg (i:=54) (.pointer (some ⟨gxB,oxB+jy*6,none⟩)) rfl (⟨hh1,hh2,⟨zA1,zA2⟩,⟨zB1,zB2⟩⟩) ?_
                  refine tk (i:=55) (v:=.agg cB.toArray) rfl (yieldsIf_load_mid (by rfl) 48 (.tmp 180) rfl gxB (oxB+jy*6) rfl cB _ (fun W h=>h.2.2.2.2) Tryz.underlying48 rfl (by rw [zai,HCB.out])) (⟨hh1,hh2,⟨zA1,zA2⟩,⟨zB1,zB2⟩⟩) ?_
                  refine tr 56 rfl (fun K hK=>?_)
                  try rw [if_pos (by rfl)]
                  go_simp
                  refine (HSB.out _ bqX).mono ?_
                  rintro e9 w9 ⟨rfl,hbs⟩
                  replace hh1:=(hbs.block _ (zaa hh1)).trans hh1
                  replace hh2:=(hbs.block _ (zaa hh2)).trans hh2
                  replace zA1:=zaw zA1 hbs
                  replace zA2:=za9 zA2 hbs
                  replace zB1:=zaw zB1 hbs
                  replace zB2:=za9 zB2 hbs
                  replace hX:=zab hX hbs hX.size
                  replace bqX:=zab bqX hbs bqX.size
                  clear hbs
                  refine hK.out _ _ (⟨hh1,hh2,⟨zA1,zA2⟩,⟨zB1,zB2⟩⟩) (fun _=>?_)
                  clear hK K
                  try simp only [putS]
                  refine tg (i:=57) (.bool false) rfl (⟨hh1,hh2,⟨zA1,zA2⟩,⟨zB1,zB2⟩⟩) ?_
                  refine tg (i:=58) (.bool false) rfl (⟨hh1,hh2,⟨zA1,zA2⟩,⟨zB1,zB2⟩⟩) ?_
                  refine tg (i:=59) (.bool false) rfl (⟨hh1,hh2,⟨zA1,zA2⟩,⟨zB1,zB2⟩⟩) ?_
                  refine wpAnyH_done (by kernel_rfl) ?_ _
                  have HR9:=Lib.hid hX
                  clear hh1 hh2 hX bqX
                  go_wp2_with fail
                  go_roundg (gk - 1)
                  case measure=>omega
                  case rel=>exact ⟨v+1,by omega,by go_num,HR9⟩
             ·have hknA:(kdA != 0)=true:=by simpa using hkzA
              replace HSA:=Lib.hid (HSA.out (HMVA.out hkzA))
              cases py with
              | none=>
                obtain rfl:yi=-1:=HYI1.out
                as_aux_lemma=>
                 refine wp_region_held_drew (S:=fun W'=>W'.heap[g0]?=some (.cells #[.slice pA a.vars.length kA,.slice (some ⟨grA,orA,none⟩) a.rows.length lA,.slice pB b.vars.length kB,.slice qB b.rows.length lB,VV,.int .i64 lang,NN] 28)∧W'.heap[gc]?=some (.cells cm.toArray 48)∧(W'.cell? ⟨grA,orA+i,none⟩=some (.slice (some ⟨gxA,oxA,none⟩) lnA kxA)∧W'.rangeAt gxA (oxA+jx*6) cA)∧True) (by kernel_rfl) ⟨y1,vX,⟨zA1,zA2⟩,trivial⟩ (fun hh=>?_)
                 have hh1:=hh.1
                 have hh2:=hh.2.1
                 have zA1:=hh.2.2.1.1
                 have zA2:=hh.2.2.1.2
                 clear hh y1 vX
                 have bq:Below wX.heap.size wX wX.drew:=(Below.refl _ _).drew
                 replace hX:=zab hX bq hX.size
                 have bqX:=bq
                 clear bq
                 generalize wX.drew=wE at*
                 refine tg (i:=0) (.int .i64 (jx:Int)) rfl (⟨hh1,hh2,⟨zA1,zA2⟩,trivial⟩) ?_
                 try simp only [Act.put,List.getElem_toArray,List.getElem_cons_zero,List.setIfInBounds_toArray,List.set_cons_zero,List.set_cons_succ]
                 refine tg (i:=1) (.bool true) rfl (⟨hh1,hh2,⟨zA1,zA2⟩,trivial⟩) ?_
                 refine tg (i:=2) (.bool true) rfl (⟨hh1,hh2,⟨zA1,zA2⟩,trivial⟩) ?_
                 refine tg (i:=3) (.pointer (some ⟨g0,0,none⟩)) rfl (⟨hh1,hh2,⟨zA1,zA2⟩,trivial⟩) ?_
                 refine tg (i:=6) (.int .i64 (i:Int)) rfl (⟨hh1,hh2,⟨zA1,zA2⟩,trivial⟩) ?_
                 refine tg (i:=9) (.int .i64 (jx:Int)) rfl (⟨hh1,hh2,⟨zA1,zA2⟩,trivial⟩) ?_
                 refine tg (i:=4) (.pointer (some ⟨g0,1,none⟩)) rfl (⟨hh1,hh2,⟨zA1,zA2⟩,trivial⟩) ?_
                 refine tk (i:=5) (v:=.slice (some ⟨grA,orA,none⟩) a.rows.length lA) rfl (Or.inl ⟨by rfl,fun W' h=>by have c0:=zac h.1 1 rfl;go_simp⟩) (⟨hh1,hh2,⟨zA1,zA2⟩,trivial⟩) ?_
                 refine tg (i:=7) (.pointer (some ⟨grA,orA+i,none⟩)) rfl (⟨hh1,hh2,⟨zA1,zA2⟩,trivial⟩) ?_
                 refine tk (i:=8) (v:=.slice (some ⟨gxA,oxA,none⟩) lnA kxA) rfl (Or.inl ⟨by rfl,fun W' h=>by have c0:=h.2.2.1.1;go_simp⟩) (⟨hh1,hh2,⟨zA1,zA2⟩,trivial⟩) ?_
                 refine tg (i:=10) (.pointer (some ⟨gxA,oxA+jx*6,none⟩)) rfl (⟨hh1,hh2,⟨zA1,zA2⟩,trivial⟩) ?_
                 refine tg (i:=11) (.pointer (some ⟨gxA,oxA+jx*6,none⟩)) rfl (⟨hh1,hh2,⟨zA1,zA2⟩,trivial⟩) ?_
                 refine tk (i:=12) (v:=.int .i64 kdA) rfl (Or.inl ⟨by rfl,fun W' h=>by have c0:=zcl (h.2.2.1.2) HKA.out;go_simp⟩) (⟨hh1,hh2,⟨zA1,zA2⟩,trivial⟩) ?_
                 refine tg (i:=13) (.bool true) rfl (⟨hh1,hh2,⟨zA1,zA2⟩,trivial⟩) ?_
                 refine tg (i:=14) (.bool true) rfl (⟨hh1,hh2,⟨zA1,zA2⟩,trivial⟩) ?_
                 refine tg (i:=15) (.bool true) rfl (⟨hh1,hh2,⟨zA1,zA2⟩,trivial⟩) ?_
                 refine tk (i:=16) (v:=.agg cm.toArray) rfl (yieldsIf_load_mid (by rfl) 48 (.tmp 12) rfl gc 0 rfl cm _ (fun W h=>zb5 h.2.1 0 _ (fun j v hv=>by simpa using hv)) Tryz.underlying48 rfl (by rw [zai,HCM.out])) (⟨hh1,hh2,⟨zA1,zA2⟩,trivial⟩) ?_
                 refine tg (i:=17) (.pointer (some ⟨g0,0,none⟩)) rfl (⟨hh1,hh2,⟨zA1,zA2⟩,trivial⟩) ?_
                 refine tg (i:=20) (.int .i64 (i:Int)) rfl (⟨hh1,hh2,⟨zA1,zA2⟩,trivial⟩) ?_
                 refine tg (i:=23) (.int .i64 (jx:Int)) rfl (⟨hh1,hh2,⟨zA1,zA2⟩,trivial⟩) ?_
                 refine tg (i:=18) (.pointer (some ⟨g0,1,none⟩)) rfl (⟨hh1,hh2,⟨zA1,zA2⟩,trivial⟩) ?_
                 refine tk (i:=19) (v:=.slice (some ⟨grA,orA,none⟩) a.rows.length lA) rfl (Or.inl ⟨by rfl,fun W' h=>by have c0:=zac h.1 1 rfl;go_simp⟩) (⟨hh1,hh2,⟨zA1,zA2⟩,trivial⟩) ?_
                 refine tg (i:=21) (.pointer (some ⟨grA,orA+i,none⟩)) rfl (⟨hh1,hh2,⟨zA1,zA2⟩,trivial⟩) ?_
                 refine tk (i:=22) (v:=.slice (some ⟨gxA,oxA,none⟩) lnA kxA) rfl (Or.inl ⟨by rfl,fun W' h=>by have c0:=h.2.2.1.1;go_simp⟩) (⟨hh1,hh2,⟨zA1,zA2⟩,trivial⟩) ?_
                 refine tg (i:=24) (.pointer (some ⟨gxA,oxA+jx*6,none⟩)) rfl (⟨hh1,hh2,⟨zA1,zA2⟩,trivial⟩) ?_
                 refine tk (i:=25) (v:=.agg cA.toArray) rfl (yieldsIf_load_mid (by rfl) 48 (.tmp 150) rfl gxA (oxA+jx*6) rfl cA _ (fun W h=>h.2.2.1.2) Tryz.underlying48 rfl (by rw [zai,HCA.out])) (⟨hh1,hh2,⟨zA1,zA2⟩,trivial⟩) ?_
                 refine tr 26 rfl (fun K hK=>?_)
                 try rw [if_pos (by rfl)]
                 go_simp
                 refine (HSA.out _ bqX).mono ?_
                 rintro e9 w9 ⟨rfl,hbs⟩
                 replace hh1:=(hbs.block _ (zaa hh1)).trans hh1
                 replace hh2:=(hbs.block _ (zaa hh2)).trans hh2
                 replace zA1:=zaw zA1 hbs
                 replace zA2:=za9 zA2 hbs
                 replace hX:=zab hX hbs hX.size
                 replace bqX:=zab bqX hbs bqX.size
                 clear hbs
                 refine hK.out _ _ (⟨hh1,hh2,⟨zA1,zA2⟩,trivial⟩) (fun _=>?_)
                 clear hK K
                 try simp only [putS]
                 refine tg (i:=27) (.bool false) rfl (⟨hh1,hh2,⟨zA1,zA2⟩,trivial⟩) ?_
                 refine tg (i:=28) (.bool false) rfl (⟨hh1,hh2,⟨zA1,zA2⟩,trivial⟩) ?_
                 refine tg (i:=29) (.bool false) rfl (⟨hh1,hh2,⟨zA1,zA2⟩,trivial⟩) ?_
                 refine tg (i:=30) (.int .i64 (-1)) rfl (⟨hh1,hh2,⟨zA1,zA2⟩,trivial⟩) ?_
                 refine tg (i:=31) (.bool false) rfl (⟨hh1,hh2,⟨zA1,zA2⟩,trivial⟩) ?_
                 refine tg (i:=32) (.bool false) rfl (⟨hh1,hh2,⟨zA1,zA2⟩,trivial⟩) ?_
                 refine tn (i:=33) rfl (⟨hh1,hh2,⟨zA1,zA2⟩,trivial⟩) ?_
                 refine tn (i:=36) rfl (⟨hh1,hh2,⟨zA1,zA2⟩,trivial⟩) ?_
                 refine tn (i:=39) rfl (⟨hh1,hh2,⟨zA1,zA2⟩,trivial⟩) ?_
                 refine tn (i:=34) rfl (⟨hh1,hh2,⟨zA1,zA2⟩,trivial⟩) ?_
                 refine tn (i:=35) rfl (⟨hh1,hh2,⟨zA1,zA2⟩,trivial⟩) ?_
                 refine tn (i:=37) rfl (⟨hh1,hh2,⟨zA1,zA2⟩,trivial⟩) ?_
                 refine tn (i:=38) rfl (⟨hh1,hh2,⟨zA1,zA2⟩,trivial⟩) ?_
                 refine tn (i:=40) rfl (⟨hh1,hh2,⟨zA1,zA2⟩,trivial⟩) ?_
                 refine tn (i:=41) rfl (⟨hh1,hh2,⟨zA1,zA2⟩,trivial⟩) ?_
                 refine tn (i:=42) rfl (⟨hh1,hh2,⟨zA1,zA2⟩,trivial⟩) ?_
                 refine tn (i:=43) rfl (⟨hh1,hh2,⟨zA1,zA2⟩,trivial⟩) ?_
                 refine tg (i:=44) (.bool false) rfl (⟨hh1,hh2,⟨zA1,zA2⟩,trivial⟩) ?_
                 refine tg (i:=45) (.bool false) rfl (⟨hh1,hh2,⟨zA1,zA2⟩,trivial⟩) ?_
                 refine tn (i:=46) rfl (⟨hh1,hh2,⟨zA1,zA2⟩,trivial⟩) ?_
                 refine tn (i:=47) rfl (⟨hh1,hh2,⟨zA1,zA2⟩,trivial⟩) ?_
                 refine tn (i:=50) rfl (⟨hh1,hh2,⟨zA1,zA2⟩,trivial⟩) ?_
                 refine tn (i:=53) rfl (⟨hh1,hh2,⟨zA1,zA2⟩,trivial⟩) ?_
                 refine tn (i:=48) rfl (⟨hh1,hh2,⟨zA1,zA2⟩,trivial⟩) ?_
                 refine tn (i:=49) rfl (⟨hh1,hh2,⟨zA1,zA2⟩,trivial⟩) ?_
                 refine tn (i:=51) rfl (⟨hh1,hh2,⟨zA1,zA2⟩,trivial⟩) ?_
                 refine tn (i:=52) rfl (⟨hh1,hh2,⟨zA1,zA2⟩,trivial⟩) ?_
                 refine tn (i:=54) rfl (⟨hh1,hh2,⟨zA1,zA2⟩,trivial⟩) ?_
                 refine tn (i:=55) rfl (⟨hh1,hh2,⟨zA1,zA2⟩,trivial⟩) ?_
                 refine tn (i:=56) rfl (⟨hh1,hh2,⟨zA1,zA2⟩,trivial⟩) ?_
                 refine tn (i:=57) rfl (⟨hh1,hh2,⟨zA1,zA2⟩,trivial⟩) ?_
                 refine tg (i:=58) (.bool false) rfl (⟨hh1,hh2,⟨zA1,zA2⟩,trivial⟩) ?_
                 refine tg (i:=59) (.bool false) rfl (⟨hh1,hh2,⟨zA1,zA2⟩,trivial⟩) ?_
                 refine wpAnyH_done (by kernel_rfl) ?_ _
                 have HR9:=Lib.hid hX
                 clear hh1 hh2 hX bqX
                 go_wp2_with fail
                 go_roundg (gk - 1)
                 case measure=>omega
                 case rel=>exact ⟨v+1,by omega,by go_num,HR9⟩
              | some jy=>
                obtain rfl:yi=(jy:Int):=HYI1.out
                have hlB:jy < b.rows[k].length:=by
                 rw [HTB.out]
                 exact zc2 HPY.out.symm
                obtain ⟨grB,orB,l_B,gxB,oxB,kxB,cB,eRB,zB1,zvB,zB2⟩:=(HB.out.below hX).cellAt hk1 hlB
                injection eRB with eq1 eq2 eq3
                subst eq1 eq3
                obtain ⟨lnB,hlnB⟩:∃ lnB,lnB=b.rows[k].length:=⟨_,rfl⟩
                rw [← hlnB] at zB1 hlB
                have hlB2:(jy:Int) < lnB:=by omega
                obtain ⟨vaB,hvaB⟩:∃ vaB,vaB=b.rows[k][jy]:=⟨_,rfl⟩
                rw [← hvaB] at zvB
                have HCB:Hid (cB.length=6):=Lib.hid (valE.len (show valE.rel wX (Old wX) cB vaB from zvB))
                obtain ⟨kdB,hkdB⟩:∃ kdB,kdB=zre vaB:=⟨_,rfl⟩
                have HKB:Hid (cB[0]?=some (.int .i64 kdB)):=Lib.hid (by rw [hkdB];exact zio zvB)
                have HMVB:Hid (kdB≠0→mv=vaB):=Lib.hid (fun q=>by
                 have hb:isB (atV b.rows[k] jy)=true:=by
                  rw [zc7 (by rw [← hlnB];exact hlB),← hvaB]
                  exact zfr.2 (hkdB ▸ q)
                 have h:=MVB.out jy HPY.out.symm hb
                 rw [zc7 (by rw [← hlnB];exact hlB),← hvaB] at h
                 exact h)
                have HSB:Hid (mv=vaB→∀ w',Below wX.heap.size wX w'→Calls Tryz.prog 39 #[.agg cm.toArray,.agg cB.toArray] w' fun e w2=>e=.returned (.bool true)∧Below w'.heap.size w' w2):=Lib.hid (fun q w' k=>by
                 have h:=zip mv vaB cm cB (Old w') (Old w') w' (valE.stays (zad k) HMVR.out) (valE.stays (zad k) zvB)
                 rw [q,zcx] at h
                 exact h)
                clear hvaB hkdB hlnB zvB eq2
                by_cases hkzB:kdB=0
                ·subst hkzB
                 as_aux_lemma=>
                  refine wp_region_held_drew (S:=fun W'=>W'.heap[g0]?=some (.cells #[.slice pA a.vars.length kA,.slice (some ⟨grA,orA,none⟩) a.rows.length lA,.slice pB b.vars.length kB,.slice (some ⟨grB,orB,none⟩) b.rows.length lB,VV,.int .i64 lang,NN] 28)∧W'.heap[gc]?=some (.cells cm.toArray 48)∧(W'.cell? ⟨grA,orA+i,none⟩=some (.slice (some ⟨gxA,oxA,none⟩) lnA kxA)∧W'.rangeAt gxA (oxA+jx*6) cA)∧(W'.cell? ⟨grB,orB+k,none⟩=some (.slice (some ⟨gxB,oxB,none⟩) lnB kxB)∧W'.rangeAt gxB (oxB+jy*6) cB)) (by kernel_rfl) ⟨y1,vX,⟨zA1,zA2⟩,⟨zB1,zB2⟩⟩ (fun hh=>?_)
                  have hh1:=hh.1
                  have hh2:=hh.2.1
                  have zA1:=hh.2.2.1.1
                  have zA2:=hh.2.2.1.2
                  have zB1:=hh.2.2.2.1
                  have zB2:=hh.2.2.2.2
                  clear hh y1 vX
                  have bq:Below wX.heap.size wX wX.drew:=(Below.refl _ _).drew
                  replace hX:=zab hX bq hX.size
                  have bqX:=bq
                  clear bq
                  generalize wX.drew=wE at*
                  refine tg (i:=0) (.int .i64 (jx:Int)) rfl (⟨hh1,hh2,⟨zA1,zA2⟩,⟨zB1,zB2⟩⟩) ?_
                  try simp only [Act.put,List.getElem_toArray,List.getElem_cons_zero,List.setIfInBounds_toArray,List.set_cons_zero,List.set_cons_succ]
                  refine tg (i:=1) (.bool true) rfl (⟨hh1,hh2,⟨zA1,zA2⟩,⟨zB1,zB2⟩⟩) ?_
                  refine tg (i:=2) (.bool true) rfl (⟨hh1,hh2,⟨zA1,zA2⟩,⟨zB1,zB2⟩⟩) ?_
                  refine tg (i:=3) (.pointer (some ⟨g0,0,none⟩)) rfl (⟨hh1,hh2,⟨zA1,zA2⟩,⟨zB1,zB2⟩⟩) ?_
                  refine tg (i:=6) (.int .i64 (i:Int)) rfl (⟨hh1,hh2,⟨zA1,zA2⟩,⟨zB1,zB2⟩⟩) ?_
                  refine tg (i:=9) (.int .i64 (jx:Int)) rfl (⟨hh1,hh2,⟨zA1,zA2⟩,⟨zB1,zB2⟩⟩) ?_
                  refine tg (i:=4) (.pointer (some ⟨g0,1,none⟩)) rfl (⟨hh1,hh2,⟨zA1,zA2⟩,⟨zB1,zB2⟩⟩) ?_
                  refine tk (i:=5) (v:=.slice (some ⟨grA,orA,none⟩) a.rows.length lA) rfl (Or.inl ⟨by rfl,fun W' h=>by have c0:=zac h.1 1 rfl;go_simp⟩) (⟨hh1,hh2,⟨zA1,zA2⟩,⟨zB1,zB2⟩⟩) ?_
                  refine tg (i:=7) (.pointer (some ⟨grA,orA+i,none⟩)) rfl (⟨hh1,hh2,⟨zA1,zA2⟩,⟨zB1,zB2⟩⟩) ?_
                  refine tk (i:=8) (v:=.slice (some ⟨gxA,oxA,none⟩) lnA kxA) rfl (Or.inl ⟨by rfl,fun W' h=>by have c0:=h.2.2.1.1;go_simp⟩) (⟨hh1,hh2,⟨zA1,zA2⟩,⟨zB1,zB2⟩⟩) ?_
                  refine tg (i:=10) (.pointer (some ⟨gxA,oxA+jx*6,none⟩)) rfl (⟨hh1,hh2,⟨zA1,zA2⟩,⟨zB1,zB2⟩⟩) ?_
                  refine tg (i:=11) (.pointer (some ⟨gxA,oxA+jx*6,none⟩)) rfl (⟨hh1,hh2,⟨zA1,zA2⟩,⟨zB1,zB2⟩⟩) ?_
                  refine tk (i:=12) (v:=.int .i64 kdA) rfl (Or.inl ⟨by rfl,fun W' h=>by have c0:=zcl (h.2.2.1.2) HKA.out;go_simp⟩) (⟨hh1,hh2,⟨zA1,zA2⟩,⟨zB1,zB2⟩⟩) ?_
                  refine tg (i:=13) (.bool true) rfl (⟨hh1,hh2,⟨zA1,zA2⟩,⟨zB1,zB2⟩⟩) ?_
                  refine tg (i:=14) (.bool true) rfl (⟨hh1,hh2,⟨zA1,zA2⟩,⟨zB1,zB2⟩⟩) ?_
                  refine tg (i:=15) (.bool true) rfl (⟨hh1,hh2,⟨zA1,zA2⟩,⟨zB1,zB2⟩⟩) ?_
                  refine tk (i:=16) (v:=.agg cm.toArray) rfl (yieldsIf_load_mid (by rfl) 48 (.tmp 12) rfl gc 0 rfl cm _ (fun W h=>zb5 h.2.1 0 _ (fun j v hv=>by simpa using hv)) Tryz.underlying48 rfl (by rw [zai,HCM.out])) (⟨hh1,hh2,⟨zA1,zA2⟩,⟨zB1,zB2⟩⟩) ?_
                  refine tg (i:=17) (.pointer (some ⟨g0,0,none⟩)) rfl (⟨hh1,hh2,⟨zA1,zA2⟩,⟨zB1,zB2⟩⟩) ?_
                  refine tg (i:=20) (.int .i64 (i:Int)) rfl (⟨hh1,hh2,⟨zA1,zA2⟩,⟨zB1,zB2⟩⟩) ?_
                  refine tg (i:=23) (.int .i64 (jx:Int)) rfl (⟨hh1,hh2,⟨zA1,zA2⟩,⟨zB1,zB2⟩⟩) ?_
                  refine tg (i:=18) (.pointer (some ⟨g0,1,none⟩)) rfl (⟨hh1,hh2,⟨zA1,zA2⟩,⟨zB1,zB2⟩⟩) ?_
                  refine tk (i:=19) (v:=.slice (some ⟨grA,orA,none⟩) a.rows.length lA) rfl (Or.inl ⟨by rfl,fun W' h=>by have c0:=zac h.1 1 rfl;go_simp⟩) (⟨hh1,hh2,⟨zA1,zA2⟩,⟨zB1,zB2⟩⟩) ?_
                  refine tg (i:=21) (.pointer (some ⟨grA,orA+i,none⟩)) rfl (⟨hh1,hh2,⟨zA1,zA2⟩,⟨zB1,zB2⟩⟩) ?_
                  refine tk (i:=22) (v:=.slice (some ⟨gxA,oxA,none⟩) lnA kxA) rfl (Or.inl ⟨by rfl,fun W' h=>by have c0:=h.2.2.1.1;go_simp⟩) (⟨hh1,hh2,⟨zA1,zA2⟩,⟨zB1,zB2⟩⟩) ?_
                  refine tg (i:=24) (.pointer (some ⟨gxA,oxA+jx*6,none⟩)) rfl (⟨hh1,hh2,⟨zA1,zA2⟩,⟨zB1,zB2⟩⟩) ?_
                  refine tk (i:=25) (v:=.agg cA.toArray) rfl (yieldsIf_load_mid (by rfl) 48 (.tmp 150) rfl gxA (oxA+jx*6) rfl cA _ (fun W h=>h.2.2.1.2) Tryz.underlying48 rfl (by rw [zai,HCA.out])) (⟨hh1,hh2,⟨zA1,zA2⟩,⟨zB1,zB2⟩⟩) ?_
                  refine tr 26 rfl (fun K hK=>?_)
                  try rw [if_pos (by rfl)]
                  go_simp
                  refine (HSA.out _ bqX).mono ?_
                  rintro e9 w9 ⟨rfl,hbs⟩
                  replace hh1:=(hbs.block _ (zaa hh1)).trans hh1
                  replace hh2:=(hbs.block _ (zaa hh2)).trans hh2
                  replace zA1:=zaw zA1 hbs
                  replace zA2:=za9 zA2 hbs
                  replace zB1:=zaw zB1 hbs
                  replace zB2:=za9 zB2 hbs
                  replace hX:=zab hX hbs hX.size
                  replace bqX:=zab bqX hbs bqX.size
                  clear hbs
                  refine hK.out _ _ (⟨hh1,hh2,⟨zA1,zA2⟩,⟨zB1,zB2⟩⟩) (fun _=>?_)
                  clear hK K
                  try simp only [putS]
                  refine tg (i:=27) (.bool false) rfl (⟨hh1,hh2,⟨zA1,zA2⟩,⟨zB1,zB2⟩⟩) ?_
                  refine tg (i:=28) (.bool false) rfl (⟨hh1,hh2,⟨zA1,zA2⟩,⟨zB1,zB2⟩⟩) ?_
                  refine tg (i:=29) (.bool false) rfl (⟨hh1,hh2,⟨zA1,zA2⟩,⟨zB1,zB2⟩⟩) ?_
                  refine tg (i:=30) (.int .i64 (jy:Int)) rfl (⟨hh1,hh2,⟨zA1,zA2⟩,⟨zB1,zB2⟩⟩) ?_
                  refine tg (i:=31) (.bool true) rfl (⟨hh1,hh2,⟨zA1,zA2⟩,⟨zB1,zB2⟩⟩) ?_
                  refine tg (i:=32) (.bool true) rfl (⟨hh1,hh2,⟨zA1,zA2⟩,⟨zB1,zB2⟩⟩) ?_
                  refine tg (i:=33) (.pointer (some ⟨g0,2,none⟩)) rfl (⟨hh1,hh2,⟨zA1,zA2⟩,⟨zB1,zB2⟩⟩) ?_
                  refine tg (i:=36) (.int .i64 (k:Int)) rfl (⟨hh1,hh2,⟨zA1,zA2⟩,⟨zB1,zB2⟩⟩) ?_
                  refine tg (i:=39) (.int .i64 (jy:Int)) rfl (⟨hh1,hh2,⟨zA1,zA2⟩,⟨zB1,zB2⟩⟩) ?_
                  refine tg (i:=34) (.pointer (some ⟨g0,3,none⟩)) rfl (⟨hh1,hh2,⟨zA1,zA2⟩,⟨zB1,zB2⟩⟩) ?_
                  refine tk (i:=35) (v:=.slice (some ⟨grB,orB,none⟩) b.rows.length lB) rfl (Or.inl ⟨by rfl,fun W' h=>by have c0:=zac h.1 3 rfl;go_simp⟩) (⟨hh1,hh2,⟨zA1,zA2⟩,⟨zB1,zB2⟩⟩) ?_
                  refine tg (i:=37) (.pointer (some ⟨grB,orB+k,none⟩)) rfl (⟨hh1,hh2,⟨zA1,zA2⟩,⟨zB1,zB2⟩⟩) ?_
                  refine tk (i:=38) (v:=.slice (some ⟨gxB,oxB,none⟩) lnB kxB) rfl (Or.inl ⟨by rfl,fun W' h=>by have c0:=h.2.2.2.1;go_simp⟩) (⟨hh1,hh2,⟨zA1,zA2⟩,⟨zB1,zB2⟩⟩) ?_
                  refine tg (i:=40) (.pointer (some ⟨gxB,oxB+jy*6,none⟩)) rfl (⟨hh1,hh2,⟨zA1,zA2⟩,⟨zB1,zB2⟩⟩) ?_
                  refine tg (i:=41) (.pointer (some ⟨gxB,oxB+jy*6,none⟩)) rfl (⟨hh1,hh2,⟨zA1,zA2⟩,⟨zB1,zB2⟩⟩) ?_
                  refine tk (i:=42) (v:=.int .i64 0) rfl (Or.inl ⟨by rfl,fun W' h=>by have c0:=zcl (h.2.2.2.2) HKB.out;go_simp⟩) (⟨hh1,hh2,⟨zA1,zA2⟩,⟨zB1,zB2⟩⟩) ?_
                  refine tg (i:=43) (.bool false) rfl (⟨hh1,hh2,⟨zA1,zA2⟩,⟨zB1,zB2⟩⟩) ?_
                  refine tg (i:=44) (.bool false) rfl (⟨hh1,hh2,⟨zA1,zA2⟩,⟨zB1,zB2⟩⟩) ?_
                  refine tg (i:=45) (.bool false) rfl (⟨hh1,hh2,⟨zA1,zA2⟩,⟨zB1,zB2⟩⟩) ?_
                  refine tn (i:=46) rfl (⟨hh1,hh2,⟨zA1,zA2⟩,⟨zB1,zB2⟩⟩) ?_
                  refine tn (i:=47) rfl (⟨hh1,hh2,⟨zA1,zA2⟩,⟨zB1,zB2⟩⟩) ?_
                  refine tn (i:=50) rfl (⟨hh1,hh2,⟨zA1,zA2⟩,⟨zB1,zB2⟩⟩) ?_
                  refine tn (i:=53) rfl (⟨hh1,hh2,⟨zA1,zA2⟩,⟨zB1,zB2⟩⟩) ?_
                  refine tn (i:=48) rfl (⟨hh1,hh2,⟨zA1,zA2⟩,⟨zB1,zB2⟩⟩) ?_
                  refine tn (i:=49) rfl (⟨hh1,hh2,⟨zA1,zA2⟩,⟨zB1,zB2⟩⟩) ?_
                  refine tn (i:=51) rfl (⟨hh1,hh2,⟨zA1,zA2⟩,⟨zB1,zB2⟩⟩) ?_
                  refine tn (i:=52) rfl (⟨hh1,hh2,⟨zA1,zA2⟩,⟨zB1,zB2⟩⟩) ?_
                  refine tn (i:=54) rfl (⟨hh1,hh2,⟨zA1,zA2⟩,⟨zB1,zB2⟩⟩) ?_
                  refine tn (i:=55) rfl (⟨hh1,hh2,⟨zA1,zA2⟩,⟨zB1,zB2⟩⟩) ?_
                  refine tn (i:=56) rfl (⟨hh1,hh2,⟨zA1,zA2⟩,⟨zB1,zB2⟩⟩) ?_
                  refine tn (i:=57) rfl (⟨hh1,hh2,⟨zA1,zA2⟩,⟨zB1,zB2⟩⟩) ?_
                  refine tg (i:=58) (.bool false) rfl (⟨hh1,hh2,⟨zA1,zA2⟩,⟨zB1,zB2⟩⟩) ?_
                  refine tg (i:=59) (.bool false) rfl (⟨hh1,hh2,⟨zA1,zA2⟩,⟨zB1,zB2⟩⟩) ?_
                  refine wpAnyH_done (by kernel_rfl) ?_ _
                  have HR9:=Lib.hid hX
                  clear hh1 hh2 hX bqX
                  go_wp2_with fail
                  go_roundg (gk - 1)
                  case measure=>omega
                  case rel=>exact ⟨v+1,by omega,by go_num,HR9⟩
                ·have hknB:(kdB != 0)=true:=by simpa using hkzB
                 replace HSB:=Lib.hid (HSB.out (HMVB.out hkzB))
                 as_aux_lemma=>
                  refine wp_region_held_drew (S:=fun W'=>W'.heap[g0]?=some (.cells #[.slice pA a.vars.length kA,.slice (some ⟨grA,orA,none⟩) a.rows.length lA,.slice pB b.vars.length kB,.slice (some ⟨grB,orB,none⟩) b.rows.length lB,VV,.int .i64 lang,NN] 28)∧W'.heap[gc]?=some (.cells cm.toArray 48)∧(W'.cell? ⟨grA,orA+i,none⟩=some (.slice (some ⟨gxA,oxA,none⟩) lnA kxA)∧W'.rangeAt gxA (oxA+jx*6) cA)∧(W'.cell? ⟨grB,orB+k,none⟩=some (.slice (some ⟨gxB,oxB,none⟩) lnB kxB)∧W'.rangeAt gxB (oxB+jy*6) cB)) (by kernel_rfl) ⟨y1,vX,⟨zA1,zA2⟩,⟨zB1,zB2⟩⟩ (fun hh=>?_)
                  have hh1:=hh.1
                  have hh2:=hh.2.1
                  have zA1:=hh.2.2.1.1
                  have zA2:=hh.2.2.1.2
                  have zB1:=hh.2.2.2.1
                  have zB2:=hh.2.2.2.2
                  clear hh y1 vX
                  have bq:Below wX.heap.size wX wX.drew:=(Below.refl _ _).drew
                  replace hX:=zab hX bq hX.size
                  have bqX:=bq
                  clear bq
                  generalize wX.drew=wE at*
                  refine tg (i:=0) (.int .i64 (jx:Int)) rfl (⟨hh1,hh2,⟨zA1,zA2⟩,⟨zB1,zB2⟩⟩) ?_
                  try simp only [Act.put,List.getElem_toArray,List.getElem_cons_zero,List.setIfInBounds_toArray,List.set_cons_zero,List.set_cons_succ]
                  refine tg (i:=1) (.bool true) rfl (⟨hh1,hh2,⟨zA1,zA2⟩,⟨zB1,zB2⟩⟩) ?_
                  refine tg (i:=2) (.bool true) rfl (⟨hh1,hh2,⟨zA1,zA2⟩,⟨zB1,zB2⟩⟩) ?_
                  refine tg (i:=3) (.pointer (some ⟨g0,0,none⟩)) rfl (⟨hh1,hh2,⟨zA1,zA2⟩,⟨zB1,zB2⟩⟩) ?_
                  refine tg (i:=6) (.int .i64 (i:Int)) rfl (⟨hh1,hh2,⟨zA1,zA2⟩,⟨zB1,zB2⟩⟩) ?_
                  refine tg (i:=9) (.int .i64 (jx:Int)) rfl (⟨hh1,hh2,⟨zA1,zA2⟩,⟨zB1,zB2⟩⟩) ?_
                  refine tg (i:=4) (.pointer (some ⟨g0,1,none⟩)) rfl (⟨hh1,hh2,⟨zA1,zA2⟩,⟨zB1,zB2⟩⟩) ?_
                  refine tk (i:=5) (v:=.slice (some ⟨grA,orA,none⟩) a.rows.length lA) rfl (Or.inl ⟨by rfl,fun W' h=>by have c0:=zac h.1 1 rfl;go_simp⟩) (⟨hh1,hh2,⟨zA1,zA2⟩,⟨zB1,zB2⟩⟩) ?_
                  refine tg (i:=7) (.pointer (some ⟨grA,orA+i,none⟩)) rfl (⟨hh1,hh2,⟨zA1,zA2⟩,⟨zB1,zB2⟩⟩) ?_
                  refine tk (i:=8) (v:=.slice (some ⟨gxA,oxA,none⟩) lnA kxA) rfl (Or.inl ⟨by rfl,fun W' h=>by have c0:=h.2.2.1.1;go_simp⟩) (⟨hh1,hh2,⟨zA1,zA2⟩,⟨zB1,zB2⟩⟩) ?_
                  refine tg (i:=10) (.pointer (some ⟨gxA,oxA+jx*6,none⟩)) rfl (⟨hh1,hh2,⟨zA1,zA2⟩,⟨zB1,zB2⟩⟩) ?_
                  refine tg (i:=11) (.pointer (some ⟨gxA,oxA+jx*6,none⟩)) rfl (⟨hh1,hh2,⟨zA1,zA2⟩,⟨zB1,zB2⟩⟩) ?_
                  refine tk (i:=12) (v:=.int .i64 kdA) rfl (Or.inl ⟨by rfl,fun W' h=>by have c0:=zcl (h.2.2.1.2) HKA.out;go_simp⟩) (⟨hh1,hh2,⟨zA1,zA2⟩,⟨zB1,zB2⟩⟩) ?_
                  refine tg (i:=13) (.bool true) rfl (⟨hh1,hh2,⟨zA1,zA2⟩,⟨zB1,zB2⟩⟩) ?_
                  refine tg (i:=14) (.bool true) rfl (⟨hh1,hh2,⟨zA1,zA2⟩,⟨zB1,zB2⟩⟩) ?_
                  refine tg (i:=15) (.bool true) rfl (⟨hh1,hh2,⟨zA1,zA2⟩,⟨zB1,zB2⟩⟩) ?_
                  refine tk (i:=16) (v:=.agg cm.toArray) rfl (yieldsIf_load_mid (by rfl) 48 (.tmp 12) rfl gc 0 rfl cm _ (fun W h=>zb5 h.2.1 0 _ (fun j v hv=>by simpa using hv)) Tryz.underlying48 rfl (by rw [zai,HCM.out])) (⟨hh1,hh2,⟨zA1,zA2⟩,⟨zB1,zB2⟩⟩) ?_
                  refine tg (i:=17) (.pointer (some ⟨g0,0,none⟩)) rfl (⟨hh1,hh2,⟨zA1,zA2⟩,⟨zB1,zB2⟩⟩) ?_
                  refine tg (i:=20) (.int .i64 (i:Int)) rfl (⟨hh1,hh2,⟨zA1,zA2⟩,⟨zB1,zB2⟩⟩) ?_
                  refine tg (i:=23) (.int .i64 (jx:Int)) rfl (⟨hh1,hh2,⟨zA1,zA2⟩,⟨zB1,zB2⟩⟩) ?_
                  refine tg (i:=18) (.pointer (some ⟨g0,1,none⟩)) rfl (⟨hh1,hh2,⟨zA1,zA2⟩,⟨zB1,zB2⟩⟩) ?_
                  refine tk (i:=19) (v:=.slice (some ⟨grA,orA,none⟩) a.rows.length lA) rfl (Or.inl ⟨by rfl,fun W' h=>by have c0:=zac h.1 1 rfl;go_simp⟩) (⟨hh1,hh2,⟨zA1,zA2⟩,⟨zB1,zB2⟩⟩) ?_
                  refine tg (i:=21) (.pointer (some ⟨grA,orA+i,none⟩)) rfl (⟨hh1,hh2,⟨zA1,zA2⟩,⟨zB1,zB2⟩⟩) ?_
                  refine tk (i:=22) (v:=.slice (some ⟨gxA,oxA,none⟩) lnA kxA) rfl (Or.inl ⟨by rfl,fun W' h=>by have c0:=h.2.2.1.1;go_simp⟩) (⟨hh1,hh2,⟨zA1,zA2⟩,⟨zB1,zB2⟩⟩) ?_
                  refine tg (i:=24) (.pointer (some ⟨gxA,oxA+jx*6,none⟩)) rfl (⟨hh1,hh2,⟨zA1,zA2⟩,⟨zB1,zB2⟩⟩) ?_
                  refine tk (i:=25) (v:=.agg cA.toArray) rfl (yieldsIf_load_mid (by rfl) 48 (.tmp 150) rfl gxA (oxA+jx*6) rfl cA _ (fun W h=>h.2.2.1.2) Tryz.underlying48 rfl (by rw [zai,HCA.out])) (⟨hh1,hh2,⟨zA1,zA2⟩,⟨zB1,zB2⟩⟩) ?_
                  refine tr 26 rfl (fun K hK=>?_)
                  try rw [if_pos (by rfl)]
                  go_simp
                  refine (HSA.out _ bqX).mono ?_
                  rintro e9 w9 ⟨rfl,hbs⟩
                  replace hh1:=(hbs.block _ (zaa hh1)).trans hh1
                  replace hh2:=(hbs.block _ (zaa hh2)).trans hh2
                  replace zA1:=zaw zA1 hbs
                  replace zA2:=za9 zA2 hbs
                  replace zB1:=zaw zB1 hbs
                  replace zB2:=za9 zB2 hbs
                  replace hX:=zab hX hbs hX.size
                  replace bqX:=zab bqX hbs bqX.size
                  clear hbs
                  refine hK.out _ _ (⟨hh1,hh2,⟨zA1,zA2⟩,⟨zB1,zB2⟩⟩) (fun _=>?_)
                  clear hK K
                  try simp only [putS]
                  refine tg (i:=27) (.bool false) rfl (⟨hh1,hh2,⟨zA1,zA2⟩,⟨zB1,zB2⟩⟩) ?_
                  refine tg (i:=28) (.bool false) rfl (⟨hh1,hh2,⟨zA1,zA2⟩,⟨zB1,zB2⟩⟩) ?_
                  refine tg (i:=29) (.bool false) rfl (⟨hh1,hh2,⟨zA1,zA2⟩,⟨zB1,zB2⟩⟩) ?_
                  refine tg (i:=30) (.int .i64 (jy:Int)) rfl (⟨hh1,hh2,⟨zA1,zA2⟩,⟨zB1,zB2⟩⟩) ?_
                  refine tg (i:=31) (.bool true) rfl (⟨hh1,hh2,⟨zA1,zA2⟩,⟨zB1,zB2⟩⟩) ?_
                  refine tg (i:=32) (.bool true) rfl (⟨hh1,hh2,⟨zA1,zA2⟩,⟨zB1,zB2⟩⟩) ?_
                  refine tg (i:=33) (.pointer (some ⟨g0,2,none⟩)) rfl (⟨hh1,hh2,⟨zA1,zA2⟩,⟨zB1,zB2⟩⟩) ?_
                  refine tg (i:=36) (.int .i64 (k:Int)) rfl (⟨hh1,hh2,⟨zA1,zA2⟩,⟨zB1,zB2⟩⟩) ?_
                  refine tg (i:=39) (.int .i64 (jy:Int)) rfl (⟨hh1,hh2,⟨zA1,zA2⟩,⟨zB1,zB2⟩⟩) ?_
                  refine tg (i:=34) (.pointer (some ⟨g0,3,none⟩)) rfl (⟨hh1,hh2,⟨zA1,zA2⟩,⟨zB1,zB2⟩⟩) ?_
                  refine tk (i:=35) (v:=.slice (some ⟨grB,orB,none⟩) b.rows.length lB) rfl (Or.inl ⟨by rfl,fun W' h=>by have c0:=zac h.1 3 rfl;go_simp⟩) (⟨hh1,hh2,⟨zA1,zA2⟩,⟨zB1,zB2⟩⟩) ?_
                  refine tg (i:=37) (.pointer (some ⟨grB,orB+k,none⟩)) rfl (⟨hh1,hh2,⟨zA1,zA2⟩,⟨zB1,zB2⟩⟩) ?_
                  refine tk (i:=38) (v:=.slice (some ⟨gxB,oxB,none⟩) lnB kxB) rfl (Or.inl ⟨by rfl,fun W' h=>by have c0:=h.2.2.2.1;go_simp⟩) (⟨hh1,hh2,⟨zA1,zA2⟩,⟨zB1,zB2⟩⟩) ?_
                  refine tg (i:=40) (.pointer (some ⟨gxB,oxB+jy*6,none⟩)) rfl (⟨hh1,hh2,⟨zA1,zA2⟩,⟨zB1,zB2⟩⟩) ?_
                  refine tg (i:=41) (.pointer (some ⟨gxB,oxB+jy*6,none⟩)) rfl (⟨hh1,hh2,⟨zA1,zA2⟩,⟨zB1,zB2⟩⟩) ?_
                  refine tk (i:=42) (v:=.int .i64 kdB) rfl (Or.inl ⟨by rfl,fun W' h=>by have c0:=zcl (h.2.2.2.2) HKB.out;go_simp⟩) (⟨hh1,hh2,⟨zA1,zA2⟩,⟨zB1,zB2⟩⟩) ?_
                  refine tg (i:=43) (.bool true) rfl (⟨hh1,hh2,⟨zA1,zA2⟩,⟨zB1,zB2⟩⟩) ?_
                  refine tg (i:=44) (.bool true) rfl (⟨hh1,hh2,⟨zA1,zA2⟩,⟨zB1,zB2⟩⟩) ?_
                  refine tg (i:=45) (.bool true) rfl (⟨hh1,hh2,⟨zA1,zA2⟩,⟨zB1,zB2⟩⟩) ?_
                  refine tk (i:=46) (v:=.agg cm.toArray) rfl (yieldsIf_load_mid (by rfl) 48 (.tmp 12) rfl gc 0 rfl cm _ (fun W h=>zb5 h.2.1 0 _ (fun j v hv=>by simpa using hv)) Tryz.underlying48 rfl (by rw [zai,HCM.out])) (⟨hh1,hh2,⟨zA1,zA2⟩,⟨zB1,zB2⟩⟩) ?_
                  refine tg (i:=47) (.pointer (some ⟨g0,2,none⟩)) rfl (⟨hh1,hh2,⟨zA1,zA2⟩,⟨zB1,zB2⟩⟩) ?_
                  refine tg (i:=50) (.int .i64 (k:Int)) rfl (⟨hh1,hh2,⟨zA1,zA2⟩,⟨zB1,zB2⟩⟩) ?_
                  refine tg (i:=53) (.int .i64 (jy:Int)) rfl (⟨hh1,hh2,⟨zA1,zA2⟩,⟨zB1,zB2⟩⟩) ?_
                  refine tg (i:=48) (.pointer (some ⟨g0,3,none⟩)) rfl (⟨hh1,hh2,⟨zA1,zA2⟩,⟨zB1,zB2⟩⟩) ?_
                  refine tk (i:=49) (v:=.slice (some ⟨grB,orB,none⟩) b.rows.length lB) rfl (Or.inl ⟨by rfl,fun W' h=>by have c0:=zac h.1 3 rfl;go_simp⟩) (⟨hh1,hh2,⟨zA1,zA2⟩,⟨zB1,zB2⟩⟩) ?_
                  refine tg (i:=51) (.pointer (some ⟨grB,orB+k,none⟩)) rfl (⟨hh1,hh2,⟨zA1,zA2⟩,⟨zB1,zB2⟩⟩) ?_
                  refine tk (i:=52) (v:=.slice (some ⟨gxB,oxB,none⟩) lnB kxB) rfl (Or.inl ⟨by rfl,fun W' h=>by have c0:=h.2.2.2.1;go_simp⟩) (⟨hh1,hh2,⟨zA1,zA2⟩,⟨zB1,zB2⟩⟩) ?_
                  refine tg (i:=54) (.pointer (some ⟨gxB,oxB+jy*6,none⟩)) rfl (⟨hh1,hh2,⟨zA1,zA2⟩,⟨zB1,zB2⟩⟩) ?_
                  refine tk (i:=55) (v:=.agg cB.toArray) rfl (yieldsIf_load_mid (by rfl) 48 (.tmp 180) rfl gxB (oxB+jy*6) rfl cB _ (fun W h=>h.2.2.2.2) Tryz.underlying48 rfl (by rw [zai,HCB.out])) (⟨hh1,hh2,⟨zA1,zA2⟩,⟨zB1,zB2⟩⟩) ?_
                  refine tr 56 rfl (fun K hK=>?_)
                  try rw [if_pos (by rfl)]
                  go_simp
                  refine (HSB.out _ bqX).mono ?_
                  rintro e9 w9 ⟨rfl,hbs⟩
                  replace hh1:=(hbs.block _ (zaa hh1)).trans hh1
                  replace hh2:=(hbs.block _ (zaa hh2)).trans hh2
                  replace zA1:=zaw zA1 hbs
                  replace zA2:=za9 zA2 hbs
                  replace zB1:=zaw zB1 hbs
                  replace zB2:=za9 zB2 hbs
                  replace hX:=zab hX hbs hX.size
                  replace bqX:=zab bqX hbs bqX.size
                  clear hbs
                  refine hK.out _ _ (⟨hh1,hh2,⟨zA1,zA2⟩,⟨zB1,zB2⟩⟩) (fun _=>?_)
                  clear hK K
                  try simp only [putS]
                  refine tg (i:=57) (.bool false) rfl (⟨hh1,hh2,⟨zA1,zA2⟩,⟨zB1,zB2⟩⟩) ?_
                  refine tg (i:=58) (.bool false) rfl (⟨hh1,hh2,⟨zA1,zA2⟩,⟨zB1,zB2⟩⟩) ?_
                  refine tg (i:=59) (.bool false) rfl (⟨hh1,hh2,⟨zA1,zA2⟩,⟨zB1,zB2⟩⟩) ?_
                  refine wpAnyH_done (by kernel_rfl) ?_ _
                  have HR9:=Lib.hid hX
                  clear hh1 hh2 hX bqX
                  go_wp2_with fail
                  go_roundg (gk - 1)
                  case measure=>omega
                  case rel=>exact ⟨v+1,by omega,by go_num,HR9⟩
          ·go_wp2_with fail
           go_roundg (b.rows.length - k - 1)
           case measure=>omega
           case rel=>exact ⟨k+1,n2+1,by omega,by go_num,by go_num,hn3,HN3,HR⟩
      ·have HNE:Hid (n2=cntI a b (i+1)):=Lib.hid (by
        rw [HN2.out,show k=b.rows.length by omega]
        exact zp8 hi1)
       clear HN2
       go_wp2_with fail
       go_roundg (a.rows.length - i - 1)
       case measure=>omega
       case rel=>exact ⟨i+1,n2,by omega,by go_num,rfl,hn2,HNE,HR⟩
    ·have d1:wr.cell? ⟨ga,1,none⟩=some (.slice qj (za4 a b).rows.length lj):=zac ((HR.out.block _ (zaa HV1.out)).trans HV1.out) 1 rfl
     have hnn:n=(za4 a b).rows.length:=by rw [HN.out,cnt_end HPO.out.hr (by omega)]
     obtain ⟨m,hm⟩:∃ m,m=(za4 a b).rows.length:=⟨_,rfl⟩
     rw [← hm] at d1 hnn
     have HWR:=Lib.hid (HWK.out wr (HBL.out.trans (HR.out.mono HBL.out.size)))
     subst hnn
     clear hm HN
     go_wp2_with (first
      |(go_at_call 11;(with_reducible refine HWR.out.mono ?_);rintro e wz ⟨rfl,hbz⟩))
     go_ret
     exact ⟨rfl,zab (HBL.out.trans (HR.out.mono HBL.out.size)) hbz (HBL.out.trans (HR.out.mono HBL.out.size)).size⟩
end Go.Proofs.YteclpnfckjfibaaGreatDoor
