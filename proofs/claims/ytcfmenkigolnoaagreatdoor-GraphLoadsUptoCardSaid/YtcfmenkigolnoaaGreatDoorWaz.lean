/- Texts of one kind, one behind the other: each says ahead of itself what it shows. -/
import Derived.Test.YtcfmenkigolnoaaGreatDoorWay
/- GCG -/
namespace Go.Proofs.YtcfmenkigolnoaaGreatDoor
open Go.RowKit
theorem zoj {w:World} {P:Nat→Prop} {v:Value} {l:List ByteArray} (h:zak zbq w P v l):∀ t∈l,t.size≤2097152:=fun t ht=>by
 obtain ⟨i,hi,rfl⟩:=List.getElem_of_mem ht
 obtain ⟨_,_,_,c,_,_,hrl,_⟩:=h.at_ i hi
 exact hrl.2
theorem AccO.top {α:Type} {O:zeb α} {D:TypeId} {w:World} {base top top2:Nat} {bs:List α} {A:Value} (h:AccO O D base top bs A w) (h1:top≤top2) (h2:top2≤w.heap.size):AccO O D base top2 bs A w:=by
 obtain ⟨_,q2,L,q3,q4,q5⟩:=h
 exact ⟨h2,fun g e=>Nat.lt_of_lt_of_le (q2 g e) h1,L,q3,q4,q5.rel,fun x hx=>by
  obtain ⟨b1,b2,b3,b4⟩:=q5.bnd x hx
  exact ⟨b1,b2,Nat.le_trans b3 h1,b4⟩,q5.off⟩
theorem AccO.base {α:Type} {O:zeb α} {D:TypeId} {w:World} {base base2 top:Nat} {bs:List α} {A:Value} (h:AccO O D base top bs A w) (h1:base2≤base):AccO O D base2 top bs A w:=by
 obtain ⟨q1,q2,L,q3,q4,q5⟩:=h
 exact ⟨q1,q2,L,q3,zcd q4 h1,q5.rel,fun x hx=>by
  obtain ⟨b1,b2,b3,b4⟩:=q5.bnd x hx
  exact ⟨Nat.le_trans h1 b1,b2,b3,b4⟩,q5.off⟩
theorem AccO.form {α:Type} {O:zeb α} {D:TypeId} {w:World} {base top:Nat} {bs:List α} {A:Value} (h:AccO O D base top bs A w):∃ p cap,A=.slice p bs.length cap:=by
 obtain ⟨_,_,L,_,q4,_⟩:=h
 exact zcf q4
theorem zbh (w:World) (a:Addr) (v:Value):(w.setCell a v).heap.size=w.heap.size:=by simp [World.setCell]
def CopyG (W:World) (g:zau) (e:Ending) (w':World):Prop:=
 ∃ A B m,e=.returned (.agg #[A,B])∧AccO zbw 38 W.heap.size m g.nodes A w'∧AccO zdy 41 m w'.heap.size g.edges B w'∧W.heap.size≤m∧Below W.heap.size W w'
set_option maxHeartbeats 12800000 in
set_option maxRecDepth 20000 in
theorem zgt (g:zau) (V U:Value) (W:World) (hv:zak zgw W (Old W) V g.nodes) (hu:zak zaz W (Old W) U g.edges) (hn1:g.nodes.length≤2097152) (hn2:g.edges.length≤2097152):Calls Tryz.prog 10 #[.agg #[V,U]] W (CopyG W g):=by
 obtain ⟨i0,hi,hz0,hz1,hz2⟩:=info_parts zf9
 obtain ⟨j0,kj,kz0,kz1,kz2⟩:=info_parts zi2
 obtain ⟨p1,cap1,rfl⟩:=hv.slice
 obtain ⟨p2,cap2,rfl⟩:=hu.slice
 obtain ⟨n1,hl1⟩:∃ n,n=g.nodes.length:=⟨_,rfl⟩
 obtain ⟨n2,hl2⟩:∃ n,n=g.edges.length:=⟨_,rfl⟩
 rw [← hl1,← hl2]
 rw [← hl1] at hn1
 rw [← hl2] at hn2
 have HV:=Lib.hid hv
 have HU:=Lib.hid hu
 rw [← hl1] at HV
 rw [← hl2] at HU
 have HL:=Lib.hid (And.intro hl1 hl2)
 obtain ⟨W0,hW0⟩:∃ W0,W0=((W.alloc (.cells #[.slice p1 n1 cap1,.slice p2 n2 cap2] 25)).alloc (.cells #[.slice none 0 0,.slice none 0 0] 25)).alloc (.cells #[.slice none 0 0,.slice none 0 0] 25):=⟨_,rfl⟩
 have u1:W0.heap[W.heap.size]?=some (.cells #[.slice p1 n1 cap1,.slice p2 n2 cap2] 25 (0,0)):=by rw [hW0];exact zar _ (zar _ (zae _ _ rfl))
 have u2:W0.heap[W.heap.size+1]?=some (.cells #[.slice none 0 0,.slice none 0 0] 25 (0,0)):=by rw [hW0];exact zar _ (zae _ _ (by simp))
 have u3:W0.heap[W.heap.size+2]?=some (.cells #[.slice none 0 0,.slice none 0 0] 25 (0,0)):=by rw [hW0];exact zae _ _ (by simp)
 have b0:Below W.heap.size W W0:=by rw [hW0];exact (zbk _ _ _).alloc (by simp;omega) _
 have hz:W.heap.size+3≤W0.heap.size:=by rw [hW0];simp
 have H0:=Lib.hid hW0
 have HZ:=Lib.hid hz
 clear hW0 hz hv hu hl1 hl2
 go_enter Tryz.func10,Tryz.ntmps10
 go_upto_region 2 with fail
 rw [← H0.out]
 go_wp2_with fail
 go_loopg [4] n1 (fun gg s4 wr=>∃ (j:Nat) (A:Value),j+gg=n1∧s4=.int .i64 j∧Hid ((∃ top,AccO zbw 38 (W.heap.size+3) top (g.nodes.take j) A wr)∧wr.heap[W.heap.size]?=some (.cells #[.slice p1 n1 cap1,.slice p2 n2 cap2] 25 (0,0))∧wr.heap[W.heap.size+1]?=some (.cells #[.slice none 0 0,.slice none 0 0] 25 (0,0))∧wr.heap[W.heap.size+2]?=some (.cells #[A,.slice none 0 0] 25 (0,0))∧Below W.heap.size W wr∧W.heap.size+3≤wr.heap.size))
 case atStart=>exact ⟨0,_,by omega,rfl,Lib.hid ⟨⟨_,AccO.start zbw 38 _ _ W0 (Nat.le_refl _)⟩,u1,u2,u3,b0,HZ.out⟩⟩
 case round=>
  clear u1 u2 u3 b0 HZ H0
  obtain ⟨j,A,hjg,rfl,HA⟩:=hrel
  obtain ⟨hA,v1,v2,u3,bw,hsz⟩:=HA.out
  clear HA
  by_cases hj:(j:Int) < n1
  ·have hj1:j < g.nodes.length:=by have:=HL.out.1;omega
   obtain ⟨gb,o,cp1,c,e1,hg1,hr1,ra⟩:=HV.out.at_ j hj1
   injection e1 with e11 e12 e13
   subst e11
   replace ra:=za8 ra bw
   obtain ⟨x,hx⟩:∃ x,x=g.nodes[j]:=⟨_,rfl⟩
   rw [← hx] at hr1
   obtain ⟨id,ls,ps⟩:=x
   obtain ⟨⟨lv,pv,rfl,hid,hln,hpn,hls,hps⟩,hcap⟩:=hr1
   have hnil:=(hcap lv rfl).2
   have HCT:Hid (∀ W',Below W.heap.size W W'→Calls Tryz.prog 34 #[lv] W' fun e w'=>∃ R,e=.returned R∧zcp w' W'.heap.size w'.heap.size R ls∧Below W'.heap.size W' w'):=Lib.hid fun W' b=>zqo lv ls W' (zc1 (hls.stays (zad b))) hnil hln (zoj hls)
   have HCP:Hid (∀ W',Below W.heap.size W W'→Calls Tryz.prog 35 #[pv] W' fun e w'=>∃ R,e=.returned R∧zct w' W'.heap.size w'.heap.size none R ps∧Below W'.heap.size W' w'):=Lib.hid fun W' b=>zji pv ps W' (hps.stays (zad b)) hpn
   obtain ⟨pl,kl,rfl⟩:=hls.slice
   obtain ⟨pp,kp,rfl⟩:=hps.slice
   replace ra:wr.rangeAt gb (o+j*3) [.int .i64 id,.slice pl ls.length kl,.slice pp ps.length kp]:=ra
   have hjl:(g.nodes.take j).length=j:=by rw [List.length_take];omega
   have etk:g.nodes.take (j+1)=g.nodes.take j++[⟨id,ls,ps⟩]:=by rw [List.take_succ_eq_append_getElem hj1,← hx]
   have HK:=Lib.hid (And.intro hjl (And.intro etk hid))
   obtain ⟨top,htop,hAt,L,hL,hown,hit⟩:=hA
   replace hown:wr.ownsRow (W.heap.size+3) 38 3 A (g.nodes.take j).length (L.map (·.c)).flatten:=hown
   have HIT:=Lib.hid (And.intro htop (And.intro hAt (And.intro hL hit)))
   have HOWN:=Lib.hid hown
   clear hx hid hcap hnil hls hps hjl etk htop hAt hL hit hown e12 e13
   have c1:=zac v1 0 rfl
   go_upto_region 6 with (first
    |((with_reducible refine zav (.tmp 18) gb (o+j*3) 38 [.int .i64 id,.slice pl ls.length kl,.slice pp ps.length kp] 3 _ ra rfl Tryz.underlying38 rfl zal ?_ ?_ ?_ ?_);rfl;rfl;rfl)
    |((with_reducible refine zah (.tmp 5) (.tmp 19) wr.heap.size 38 38 _ [.int .i64 id,.slice pl ls.length kl,.slice pp ps.length kp] 3 (zae _ _ rfl) rfl ?_ ?_ ?_ ?_ zal rfl (by simp [Value.oneCell']) ?_);rfl;rfl;rfl;rfl;intro wX oX u5))
   have bX:Below wr.heap.size wr wX:=zag (zas wr _) oX (Nat.le_refl _) (by simp)
   have bc:=bX.drew
   have bw2:=zab bw bc bw.size
   replace u3:wX.drew.heap[W.heap.size+2]?=some (.cells #[A,.slice none 0 0] 25 (0,0)):=(bX.block _ (zaa u3)).trans u3
   replace u5:wX.drew.heap[wr.heap.size]?=some (.cells #[.int .i64 id,.slice pl ls.length kl,.slice pp ps.length kp] 38 (0,0)):=u5
   clear oX bX ra c1
   refine wp_region_held_drew (S:=fun W'=>W'.heap[wr.heap.size]?=some (.cells #[.int .i64 id,.slice pl ls.length kl,.slice pp ps.length kp] 38 (0,0))) (by kernel_rfl) u5 (fun _=>?_)
   generalize wX.drew=wD at*
   have hD0:=bc.size
   refine tg (i:=0) (.pointer (some ⟨W.heap.size+2,0,none⟩)) rfl (u5) ?_
   refine tg (i:=2) (.pointer (some ⟨wr.heap.size,0,none⟩)) rfl (u5) ?_
   refine tg (i:=4) (.pointer (some ⟨wr.heap.size,1,none⟩)) rfl (u5) ?_
   refine tg (i:=7) (.pointer (some ⟨wr.heap.size,2,none⟩)) rfl (u5) ?_
   refine tk (i:=3) (v:=.int .i64 id) rfl (Or.inl ⟨by rfl,fun W' h=>by have c0:=zac h 0 rfl;go_simp⟩) (u5) ?_
   refine tk (i:=5) (v:=.slice pl ls.length kl) rfl (Or.inl ⟨by rfl,fun W' h=>by have c0:=zac h 1 rfl;go_simp⟩) (u5) ?_
   refine tk (i:=8) (v:=.slice pp ps.length kp) rfl (Or.inl ⟨by rfl,fun W' h=>by have c0:=zac h 2 rfl;go_simp⟩) (u5) ?_
   refine wpAnyH_ready (rs:=[1,6]) (by kernel_rfl) (by simp) ?_
   refine AllReadyH.cons rfl (fun K hK=>?_) (AllReadyH.cons rfl (fun K hK=>?_) AllReadyH.nil)
   ·rw [if_pos (by rfl)]
    have c0:=zac u3 0 rfl
    go_simp
    clear c0
    refine hK.out _ _ (u5) (fun _=>?_)
    clear hK K
    try simp only [putS]
    refine tr 6 rfl (fun K hK=>?_)
    rw [if_pos (by rfl)]
    go_simp
    refine (HCT.out _ bw2).mono ?_
    rintro e0 w3 ⟨R3,rfl,hL3,hb3⟩
    obtain ⟨p3,k3,rfl⟩:=zcf hL3.2.2.2
    replace u3:=(hb3.block _ (zaa u3)).trans u3
    replace u5:=(hb3.block _ (zaa u5)).trans u5
    replace bc:=zab bc hb3 bc.size
    replace bw2:=zab bw2 hb3 bw2.size
    have HB3:=Lib.hid hb3
    have HL3:=Lib.hid hL3
    clear hb3 hL3
    refine hK.out _ _ (u5) (fun _=>?_)
    clear hK K
    try simp only [putS]
    refine tr 9 rfl (fun K hK=>?_)
    rw [if_pos (by rfl)]
    go_simp
    refine (HCP.out _ bw2).mono ?_
    rintro e0 w4 ⟨R4,rfl,hP4,hb4⟩
    obtain ⟨p4,k4,rfl⟩:∃ p4 k4,R4=.slice p4 ps.length k4:=by
     obtain ⟨_,_,_,q,_⟩:=hP4
     exact zcf q
    replace u3:=(hb4.block _ (zaa u3)).trans u3
    replace u5:=(hb4.block _ (zaa u5)).trans u5
    replace bc:=zab bc hb4 bc.size
    replace bw2:=zab bw2 hb4 bw2.size
    have HNO:Hid (zdb w4 wD.heap.size w4.heap.size [.int .i64 id,.slice p3 ls.length k3,.slice p4 ps.length k4] ⟨id,ls,ps⟩):=Lib.hid (zjz HK.out.2.2 (.inl ⟨HL3.out.below hb4,hP4⟩) HB3.out.size hb4.size)
    have HB4:=Lib.hid hb4
    clear hb4 hP4 HL3
    refine hK.out _ _ (u5) (fun _=>?_)
    clear hK K
    try simp only [putS]
    refine tg (i:=10) (.agg #[.int .i64 id,.slice p3 ls.length k3,.slice p4 ps.length k4]) rfl (u5) ?_
    refine tr 11 rfl (fun K hK=>?_)
    try rw [if_pos (by rfl)]
    go_simp
    refine hK.out _ _ (zar _ u5) (fun _=>?_)
    clear hK K
    try simp only [putS]
    refine tr 12 rfl (fun K hK=>?_)
    rw [if_pos (by rfl)]
    have own3:=(zaw HOWN.out fun g e=>bc.block g (HOWN.out.lt g e).2).alloc (.cells #[.int .i64 id,.slice p3 ls.length k3,.slice p4 ps.length k4] 38)
    refine zbf (P:=Tryz.prog) (w:=w4.alloc (.cells #[.int .i64 id,.slice p3 ls.length k3,.slice p4 ps.length k4] 38)) (.tmp 21) (.tmp 31) 22 rfl (W.heap.size+3) 38 i0 (.agg #[.int .i64 0,.slice none 0 0,.slice none 0 0]) 3 56 Tryz.underlying22 hi hz0 hz1 hz2 rfl (by decide) A (g.nodes.take j).length (L.map (·.c)).flatten rfl own3 ⟨w4.heap.size,0,none⟩ 1 1 [.int .i64 id,.slice p3 ls.length k3,.slice p4 ps.length k4] rfl rfl (World.news_of_block (cs:=#[.int .i64 id,.slice p3 ls.length k3,.slice p4 ps.length k4]) (t:=38) (fr:=(0,0)) (by exact heap_alloc_new w4 _)) (by simp [Value.oneCell']) (by rw [HK.out.1];unfold maxLen;omega) (by rw [HK.out.1];omega) (by have:=bc.size;simp;omega) ?_
    intro v5 w5 ho5 hg5 _ hloc5
    obtain ⟨p5,m5,k5,rfl⟩:∃ p m k,v5=.slice p m k:=by
     obtain ⟨p,k,e⟩:=zcf ho5
     exact ⟨p,_,k,e⟩
    clear own3
    have hAb:∀ g,A.ownBlock=some g→W.heap.size+3≤g∧g < wr.heap.size:=HOWN.out.lt
    have old5:∀ g,g < w4.heap.size→A.ownBlock≠some g→w5.heap[g]?=w4.heap[g]?:=fun g hlt hne=>(hg5.block g (by simp;omega) (fun e=>hne e.symm)).trans (Below.heap_alloc _ _ _ hlt)
    replace u3:=(old5 _ (zaa u3) (fun e=>by have:=hAb _ e;omega)).trans u3
    replace u5:=(old5 _ (zaa u5) (fun e=>by have:=hAb _ e;omega)).trans u5
    have v15:=(old5 _ (by have:=zaa v1;have:=bc.size;omega) (fun e=>by have:=hAb _ e;omega)).trans ((bc.block _ (zaa v1)).trans v1)
    have v25:=(old5 _ (by have:=zaa v2;have:=bc.size;omega) (fun e=>by have:=hAb _ e;omega)).trans ((bc.block _ (zaa v2)).trans v2)
    have bw5:Below W.heap.size W w5:=(bw2.alloc bw2.size _).grown hg5 (by have:=bw2.size;simp;omega) (fun g e=>by have:=hAb g e;omega)
    have acc:AccO zbw 38 (W.heap.size+3) w5.heap.size (g.nodes.take j++[⟨id,ls,ps⟩]) (.slice p5 m5 k5) w5:=AccO.next (wr:=wr) (w3:=w4) HIT.out.1 (fun g e=>⟨(hAb g e).1,HIT.out.2.1 g e⟩) HIT.out.2.2.1 HIT.out.2.2.2 hsz (fun g _ h=>bc.block g h) bc.size HNO.out (by have:=HB3.out.size;have:=HB4.out.size;omega) (by have:=HB3.out.size;have:=HB4.out.size;omega) (Nat.le_refl _) ho5 hg5 (by simpa using hloc5)
    have hz5:W.heap.size+3≤w5.heap.size:=by have:=bc.size;have:=hg5.size;simp at this;omega
    clear ho5 hg5 hloc5 hAb old5
    refine hK.out _ _ (u5) (fun _=>?_)
    clear hK K
    try simp only [putS]
    refine tg (i:=13) (.pointer (some ⟨W.heap.size+2,0,none⟩)) rfl (u5) ?_
    refine tr 14 rfl (fun K hK=>?_)
    try rw [if_pos (by rfl)]
    have c0:=zac u3 0 rfl
    have f0:=zbj u3 0
    go_simp
    clear c0 f0
    have a6:AccO zbw 38 (W.heap.size+3) w5.heap.size (g.nodes.take j++[⟨id,ls,ps⟩]) (.slice p5 m5 k5) (w5.setCell ⟨W.heap.size+2,0,none⟩ (.slice p5 m5 k5)):=acc.keep (fun g a _=>Below.heap_setCell _ _ _ _ (by show g≠W.heap.size+2;omega)) (Nat.le_of_eq (zbh _ _ _).symm)
    have u36:=za6 u3 0 (.slice p5 m5 k5)
    replace v15:=(Below.heap_setCell w5 ⟨W.heap.size+2,0,none⟩ (.slice p5 m5 k5) W.heap.size (by show W.heap.size≠W.heap.size+2;omega)).trans v15
    replace v25:=(Below.heap_setCell w5 ⟨W.heap.size+2,0,none⟩ (.slice p5 m5 k5) (W.heap.size+1) (by show W.heap.size+1≠W.heap.size+2;omega)).trans v25
    replace bw5:=zam (e:=W.heap.size+2) (o:=0) bw5 none (.slice p5 m5 k5) (by omega) (by omega)
    replace u5:=(Below.heap_setCell w5 ⟨W.heap.size+2,0,none⟩ (.slice p5 m5 k5) wr.heap.size (by show wr.heap.size≠W.heap.size+2;omega)).trans u5
    replace hz5:W.heap.size+3≤(w5.setCell ⟨W.heap.size+2,0,none⟩ (.slice p5 m5 k5)).heap.size:=by rw [zbh];exact hz5
    clear u3 acc
    refine hK.out _ _ (u5) (fun _=>?_)
    clear hK K
    try simp only [putS]
    refine wpAnyH_done (by kernel_rfl) ?_ _
    have HC:Hid ((∃ top,AccO zbw 38 (W.heap.size+3) top (g.nodes.take (j+1)) (.slice p5 m5 k5) (w5.setCell ⟨W.heap.size+2,0,none⟩ (.slice p5 m5 k5)))∧_∧_∧_∧_∧_):=Lib.hid ⟨⟨_,by rw [HK.out.2.1];exact a6⟩,v15,v25,u36,bw5,hz5⟩
    generalize w5.setCell ⟨W.heap.size+2,0,none⟩ (.slice p5 m5 k5)=w6 at*
    clear a6 v15 v25 u36 bw5 hz5 u5 bc bw2 HNO HIT HOWN HCT HCP HB3 HB4
    go_wp2_with fail
    go_roundg (gk - 1)
    case measure=>omega
    case rel=>exact ⟨j+1,.slice p5 m5 k5,by omega,by go_num,HC⟩
   ·rw [if_pos (by rfl)]
    go_simp
    refine (HCT.out _ bw2).mono ?_
    rintro e0 w3 ⟨R3,rfl,hL3,hb3⟩
    obtain ⟨p3,k3,rfl⟩:=zcf hL3.2.2.2
    replace u3:=(hb3.block _ (zaa u3)).trans u3
    replace u5:=(hb3.block _ (zaa u5)).trans u5
    replace bc:=zab bc hb3 bc.size
    replace bw2:=zab bw2 hb3 bw2.size
    have HB3:=Lib.hid hb3
    have HL3:=Lib.hid hL3
    clear hb3 hL3
    refine hK.out _ _ (u5) (fun _=>?_)
    clear hK K
    try simp only [putS]
    refine wpAnyH_ready (rs:=[1,9]) (by kernel_rfl) (by simp) ?_
    refine AllReadyH.cons rfl (fun K hK=>?_) (AllReadyH.cons rfl (fun K hK=>?_) AllReadyH.nil)
    ·rw [if_pos (by rfl)]
     have c0:=zac u3 0 rfl
     go_simp
     clear c0
     refine hK.out _ _ (u5) (fun _=>?_)
     clear hK K
     try simp only [putS]
     refine tr 9 rfl (fun K hK=>?_)
     rw [if_pos (by rfl)]
     go_simp
     refine (HCP.out _ bw2).mono ?_
     rintro e0 w4 ⟨R4,rfl,hP4,hb4⟩
     obtain ⟨p4,k4,rfl⟩:∃ p4 k4,R4=.slice p4 ps.length k4:=by
      obtain ⟨_,_,_,q,_⟩:=hP4
      exact zcf q
     replace u3:=(hb4.block _ (zaa u3)).trans u3
     replace u5:=(hb4.block _ (zaa u5)).trans u5
     replace bc:=zab bc hb4 bc.size
     replace bw2:=zab bw2 hb4 bw2.size
     have HNO:Hid (zdb w4 wD.heap.size w4.heap.size [.int .i64 id,.slice p3 ls.length k3,.slice p4 ps.length k4] ⟨id,ls,ps⟩):=Lib.hid (zjz HK.out.2.2 (.inl ⟨HL3.out.below hb4,hP4⟩) HB3.out.size hb4.size)
     have HB4:=Lib.hid hb4
     clear hb4 hP4 HL3
     refine hK.out _ _ (u5) (fun _=>?_)
     clear hK K
     try simp only [putS]
     refine tg (i:=10) (.agg #[.int .i64 id,.slice p3 ls.length k3,.slice p4 ps.length k4]) rfl (u5) ?_
     refine tr 11 rfl (fun K hK=>?_)
     try rw [if_pos (by rfl)]
     go_simp
     refine hK.out _ _ (zar _ u5) (fun _=>?_)
     clear hK K
     try simp only [putS]
     refine tr 12 rfl (fun K hK=>?_)
     rw [if_pos (by rfl)]
     have own3:=(zaw HOWN.out fun g e=>bc.block g (HOWN.out.lt g e).2).alloc (.cells #[.int .i64 id,.slice p3 ls.length k3,.slice p4 ps.length k4] 38)
     refine zbf (P:=Tryz.prog) (w:=w4.alloc (.cells #[.int .i64 id,.slice p3 ls.length k3,.slice p4 ps.length k4] 38)) (.tmp 21) (.tmp 31) 22 rfl (W.heap.size+3) 38 i0 (.agg #[.int .i64 0,.slice none 0 0,.slice none 0 0]) 3 56 Tryz.underlying22 hi hz0 hz1 hz2 rfl (by decide) A (g.nodes.take j).length (L.map (·.c)).flatten rfl own3 ⟨w4.heap.size,0,none⟩ 1 1 [.int .i64 id,.slice p3 ls.length k3,.slice p4 ps.length k4] rfl rfl (World.news_of_block (cs:=#[.int .i64 id,.slice p3 ls.length k3,.slice p4 ps.length k4]) (t:=38) (fr:=(0,0)) (by exact heap_alloc_new w4 _)) (by simp [Value.oneCell']) (by rw [HK.out.1];unfold maxLen;omega) (by rw [HK.out.1];omega) (by have:=bc.size;simp;omega) ?_
     intro v5 w5 ho5 hg5 _ hloc5
     obtain ⟨p5,m5,k5,rfl⟩:∃ p m k,v5=.slice p m k:=by
      obtain ⟨p,k,e⟩:=zcf ho5
      exact ⟨p,_,k,e⟩
     clear own3
     have hAb:∀ g,A.ownBlock=some g→W.heap.size+3≤g∧g < wr.heap.size:=HOWN.out.lt
     have old5:∀ g,g < w4.heap.size→A.ownBlock≠some g→w5.heap[g]?=w4.heap[g]?:=fun g hlt hne=>(hg5.block g (by simp;omega) (fun e=>hne e.symm)).trans (Below.heap_alloc _ _ _ hlt)
     replace u3:=(old5 _ (zaa u3) (fun e=>by have:=hAb _ e;omega)).trans u3
     replace u5:=(old5 _ (zaa u5) (fun e=>by have:=hAb _ e;omega)).trans u5
     have v15:=(old5 _ (by have:=zaa v1;have:=bc.size;omega) (fun e=>by have:=hAb _ e;omega)).trans ((bc.block _ (zaa v1)).trans v1)
     have v25:=(old5 _ (by have:=zaa v2;have:=bc.size;omega) (fun e=>by have:=hAb _ e;omega)).trans ((bc.block _ (zaa v2)).trans v2)
     have bw5:Below W.heap.size W w5:=(bw2.alloc bw2.size _).grown hg5 (by have:=bw2.size;simp;omega) (fun g e=>by have:=hAb g e;omega)
     have acc:AccO zbw 38 (W.heap.size+3) w5.heap.size (g.nodes.take j++[⟨id,ls,ps⟩]) (.slice p5 m5 k5) w5:=AccO.next (wr:=wr) (w3:=w4) HIT.out.1 (fun g e=>⟨(hAb g e).1,HIT.out.2.1 g e⟩) HIT.out.2.2.1 HIT.out.2.2.2 hsz (fun g _ h=>bc.block g h) bc.size HNO.out (by have:=HB3.out.size;have:=HB4.out.size;omega) (by have:=HB3.out.size;have:=HB4.out.size;omega) (Nat.le_refl _) ho5 hg5 (by simpa using hloc5)
     have hz5:W.heap.size+3≤w5.heap.size:=by have:=bc.size;have:=hg5.size;simp at this;omega
     clear ho5 hg5 hloc5 hAb old5
     refine hK.out _ _ (u5) (fun _=>?_)
     clear hK K
     try simp only [putS]
     refine tg (i:=13) (.pointer (some ⟨W.heap.size+2,0,none⟩)) rfl (u5) ?_
     refine tr 14 rfl (fun K hK=>?_)
     try rw [if_pos (by rfl)]
     have c0:=zac u3 0 rfl
     have f0:=zbj u3 0
     go_simp
     clear c0 f0
     have a6:AccO zbw 38 (W.heap.size+3) w5.heap.size (g.nodes.take j++[⟨id,ls,ps⟩]) (.slice p5 m5 k5) (w5.setCell ⟨W.heap.size+2,0,none⟩ (.slice p5 m5 k5)):=acc.keep (fun g a _=>Below.heap_setCell _ _ _ _ (by show g≠W.heap.size+2;omega)) (Nat.le_of_eq (zbh _ _ _).symm)
     have u36:=za6 u3 0 (.slice p5 m5 k5)
     replace v15:=(Below.heap_setCell w5 ⟨W.heap.size+2,0,none⟩ (.slice p5 m5 k5) W.heap.size (by show W.heap.size≠W.heap.size+2;omega)).trans v15
     replace v25:=(Below.heap_setCell w5 ⟨W.heap.size+2,0,none⟩ (.slice p5 m5 k5) (W.heap.size+1) (by show W.heap.size+1≠W.heap.size+2;omega)).trans v25
     replace bw5:=zam (e:=W.heap.size+2) (o:=0) bw5 none (.slice p5 m5 k5) (by omega) (by omega)
     replace u5:=(Below.heap_setCell w5 ⟨W.heap.size+2,0,none⟩ (.slice p5 m5 k5) wr.heap.size (by show wr.heap.size≠W.heap.size+2;omega)).trans u5
     replace hz5:W.heap.size+3≤(w5.setCell ⟨W.heap.size+2,0,none⟩ (.slice p5 m5 k5)).heap.size:=by rw [zbh];exact hz5
     clear u3 acc
     refine hK.out _ _ (u5) (fun _=>?_)
     clear hK K
     try simp only [putS]
     refine wpAnyH_done (by kernel_rfl) ?_ _
     have HC:Hid ((∃ top,AccO zbw 38 (W.heap.size+3) top (g.nodes.take (j+1)) (.slice p5 m5 k5) (w5.setCell ⟨W.heap.size+2,0,none⟩ (.slice p5 m5 k5)))∧_∧_∧_∧_∧_):=Lib.hid ⟨⟨_,by rw [HK.out.2.1];exact a6⟩,v15,v25,u36,bw5,hz5⟩
     generalize w5.setCell ⟨W.heap.size+2,0,none⟩ (.slice p5 m5 k5)=w6 at*
     clear a6 v15 v25 u36 bw5 hz5 u5 bc bw2 HNO HIT HOWN HCT HCP HB3 HB4
     go_wp2_with fail
     go_roundg (gk - 1)
     case measure=>omega
     case rel=>exact ⟨j+1,.slice p5 m5 k5,by omega,by go_num,HC⟩
    ·rw [if_pos (by rfl)]
     go_simp
     refine (HCP.out _ bw2).mono ?_
     rintro e0 w4 ⟨R4,rfl,hP4,hb4⟩
     obtain ⟨p4,k4,rfl⟩:∃ p4 k4,R4=.slice p4 ps.length k4:=by
      obtain ⟨_,_,_,q,_⟩:=hP4
      exact zcf q
     replace u3:=(hb4.block _ (zaa u3)).trans u3
     replace u5:=(hb4.block _ (zaa u5)).trans u5
     replace bc:=zab bc hb4 bc.size
     replace bw2:=zab bw2 hb4 bw2.size
     have HNO:Hid (zdb w4 wD.heap.size w4.heap.size [.int .i64 id,.slice p3 ls.length k3,.slice p4 ps.length k4] ⟨id,ls,ps⟩):=Lib.hid (zjz HK.out.2.2 (.inl ⟨HL3.out.below hb4,hP4⟩) HB3.out.size hb4.size)
     have HB4:=Lib.hid hb4
     clear hb4 hP4 HL3
     refine hK.out _ _ (u5) (fun _=>?_)
     clear hK K
     try simp only [putS]
     refine tg (i:=10) (.agg #[.int .i64 id,.slice p3 ls.length k3,.slice p4 ps.length k4]) rfl (u5) ?_
     refine wpAnyH_ready (rs:=[1,11]) (by kernel_rfl) (by simp) ?_
     refine AllReadyH.cons rfl (fun K hK=>?_) (AllReadyH.cons rfl (fun K hK=>?_) AllReadyH.nil)
     ·rw [if_pos (by rfl)]
      have c0:=zac u3 0 rfl
      go_simp
      clear c0
      refine hK.out _ _ (u5) (fun _=>?_)
      clear hK K
      try simp only [putS]
      refine tr 11 rfl (fun K hK=>?_)
      try rw [if_pos (by rfl)]
      go_simp
      refine hK.out _ _ (zar _ u5) (fun _=>?_)
      clear hK K
      try simp only [putS]
      refine tr 12 rfl (fun K hK=>?_)
      rw [if_pos (by rfl)]
      have own3:=(zaw HOWN.out fun g e=>bc.block g (HOWN.out.lt g e).2).alloc (.cells #[.int .i64 id,.slice p3 ls.length k3,.slice p4 ps.length k4] 38)
      refine zbf (P:=Tryz.prog) (w:=w4.alloc (.cells #[.int .i64 id,.slice p3 ls.length k3,.slice p4 ps.length k4] 38)) (.tmp 21) (.tmp 31) 22 rfl (W.heap.size+3) 38 i0 (.agg #[.int .i64 0,.slice none 0 0,.slice none 0 0]) 3 56 Tryz.underlying22 hi hz0 hz1 hz2 rfl (by decide) A (g.nodes.take j).length (L.map (·.c)).flatten rfl own3 ⟨w4.heap.size,0,none⟩ 1 1 [.int .i64 id,.slice p3 ls.length k3,.slice p4 ps.length k4] rfl rfl (World.news_of_block (cs:=#[.int .i64 id,.slice p3 ls.length k3,.slice p4 ps.length k4]) (t:=38) (fr:=(0,0)) (by exact heap_alloc_new w4 _)) (by simp [Value.oneCell']) (by rw [HK.out.1];unfold maxLen;omega) (by rw [HK.out.1];omega) (by have:=bc.size;simp;omega) ?_
      intro v5 w5 ho5 hg5 _ hloc5
      obtain ⟨p5,m5,k5,rfl⟩:∃ p m k,v5=.slice p m k:=by
       obtain ⟨p,k,e⟩:=zcf ho5
       exact ⟨p,_,k,e⟩
      clear own3
      have hAb:∀ g,A.ownBlock=some g→W.heap.size+3≤g∧g < wr.heap.size:=HOWN.out.lt
      have old5:∀ g,g < w4.heap.size→A.ownBlock≠some g→w5.heap[g]?=w4.heap[g]?:=fun g hlt hne=>(hg5.block g (by simp;omega) (fun e=>hne e.symm)).trans (Below.heap_alloc _ _ _ hlt)
      replace u3:=(old5 _ (zaa u3) (fun e=>by have:=hAb _ e;omega)).trans u3
      replace u5:=(old5 _ (zaa u5) (fun e=>by have:=hAb _ e;omega)).trans u5
      have v15:=(old5 _ (by have:=zaa v1;have:=bc.size;omega) (fun e=>by have:=hAb _ e;omega)).trans ((bc.block _ (zaa v1)).trans v1)
      have v25:=(old5 _ (by have:=zaa v2;have:=bc.size;omega) (fun e=>by have:=hAb _ e;omega)).trans ((bc.block _ (zaa v2)).trans v2)
      have bw5:Below W.heap.size W w5:=(bw2.alloc bw2.size _).grown hg5 (by have:=bw2.size;simp;omega) (fun g e=>by have:=hAb g e;omega)
      have acc:AccO zbw 38 (W.heap.size+3) w5.heap.size (g.nodes.take j++[⟨id,ls,ps⟩]) (.slice p5 m5 k5) w5:=AccO.next (wr:=wr) (w3:=w4) HIT.out.1 (fun g e=>⟨(hAb g e).1,HIT.out.2.1 g e⟩) HIT.out.2.2.1 HIT.out.2.2.2 hsz (fun g _ h=>bc.block g h) bc.size HNO.out (by have:=HB3.out.size;have:=HB4.out.size;omega) (by have:=HB3.out.size;have:=HB4.out.size;omega) (Nat.le_refl _) ho5 hg5 (by simpa using hloc5)
      have hz5:W.heap.size+3≤w5.heap.size:=by have:=bc.size;have:=hg5.size;simp at this;omega
      clear ho5 hg5 hloc5 hAb old5
      refine hK.out _ _ (u5) (fun _=>?_)
      clear hK K
      try simp only [putS]
      refine tg (i:=13) (.pointer (some ⟨W.heap.size+2,0,none⟩)) rfl (u5) ?_
      refine tr 14 rfl (fun K hK=>?_)
      try rw [if_pos (by rfl)]
      have c0:=zac u3 0 rfl
      have f0:=zbj u3 0
      go_simp
      clear c0 f0
      have a6:AccO zbw 38 (W.heap.size+3) w5.heap.size (g.nodes.take j++[⟨id,ls,ps⟩]) (.slice p5 m5 k5) (w5.setCell ⟨W.heap.size+2,0,none⟩ (.slice p5 m5 k5)):=acc.keep (fun g a _=>Below.heap_setCell _ _ _ _ (by show g≠W.heap.size+2;omega)) (Nat.le_of_eq (zbh _ _ _).symm)
      have u36:=za6 u3 0 (.slice p5 m5 k5)
      replace v15:=(Below.heap_setCell w5 ⟨W.heap.size+2,0,none⟩ (.slice p5 m5 k5) W.heap.size (by show W.heap.size≠W.heap.size+2;omega)).trans v15
      replace v25:=(Below.heap_setCell w5 ⟨W.heap.size+2,0,none⟩ (.slice p5 m5 k5) (W.heap.size+1) (by show W.heap.size+1≠W.heap.size+2;omega)).trans v25
      replace bw5:=zam (e:=W.heap.size+2) (o:=0) bw5 none (.slice p5 m5 k5) (by omega) (by omega)
      replace u5:=(Below.heap_setCell w5 ⟨W.heap.size+2,0,none⟩ (.slice p5 m5 k5) wr.heap.size (by show wr.heap.size≠W.heap.size+2;omega)).trans u5
      replace hz5:W.heap.size+3≤(w5.setCell ⟨W.heap.size+2,0,none⟩ (.slice p5 m5 k5)).heap.size:=by rw [zbh];exact hz5
      clear u3 acc
      refine hK.out _ _ (u5) (fun _=>?_)
      clear hK K
      try simp only [putS]
      refine wpAnyH_done (by kernel_rfl) ?_ _
      have HC:Hid ((∃ top,AccO zbw 38 (W.heap.size+3) top (g.nodes.take (j+1)) (.slice p5 m5 k5) (w5.setCell ⟨W.heap.size+2,0,none⟩ (.slice p5 m5 k5)))∧_∧_∧_∧_∧_):=Lib.hid ⟨⟨_,by rw [HK.out.2.1];exact a6⟩,v15,v25,u36,bw5,hz5⟩
      generalize w5.setCell ⟨W.heap.size+2,0,none⟩ (.slice p5 m5 k5)=w6 at*
      clear a6 v15 v25 u36 bw5 hz5 u5 bc bw2 HNO HIT HOWN HCT HCP HB3 HB4
      go_wp2_with fail
      go_roundg (gk - 1)
      case measure=>omega
      case rel=>exact ⟨j+1,.slice p5 m5 k5,by omega,by go_num,HC⟩
     ·try rw [if_pos (by rfl)]
      go_simp
      refine hK.out _ _ (zar _ u5) (fun _=>?_)
      clear hK K
      try simp only [putS]
      refine tr 1 rfl (fun K hK=>?_)
      rw [if_pos (by rfl)]
      have c0:=zac (zar (.cells #[.int .i64 id,.slice p3 ls.length k3,.slice p4 ps.length k4] 38) u3) 0 rfl
      go_simp
      clear c0
      refine hK.out _ _ (zar _ u5) (fun _=>?_)
      clear hK K
      try simp only [putS]
      refine tr 12 rfl (fun K hK=>?_)
      rw [if_pos (by rfl)]
      have own3:=(zaw HOWN.out fun g e=>bc.block g (HOWN.out.lt g e).2).alloc (.cells #[.int .i64 id,.slice p3 ls.length k3,.slice p4 ps.length k4] 38)
      refine zbf (P:=Tryz.prog) (w:=w4.alloc (.cells #[.int .i64 id,.slice p3 ls.length k3,.slice p4 ps.length k4] 38)) (.tmp 21) (.tmp 31) 22 rfl (W.heap.size+3) 38 i0 (.agg #[.int .i64 0,.slice none 0 0,.slice none 0 0]) 3 56 Tryz.underlying22 hi hz0 hz1 hz2 rfl (by decide) A (g.nodes.take j).length (L.map (·.c)).flatten rfl own3 ⟨w4.heap.size,0,none⟩ 1 1 [.int .i64 id,.slice p3 ls.length k3,.slice p4 ps.length k4] rfl rfl (World.news_of_block (cs:=#[.int .i64 id,.slice p3 ls.length k3,.slice p4 ps.length k4]) (t:=38) (fr:=(0,0)) (by exact heap_alloc_new w4 _)) (by simp [Value.oneCell']) (by rw [HK.out.1];unfold maxLen;omega) (by rw [HK.out.1];omega) (by have:=bc.size;simp;omega) ?_
      intro v5 w5 ho5 hg5 _ hloc5
      obtain ⟨p5,m5,k5,rfl⟩:∃ p m k,v5=.slice p m k:=by
       obtain ⟨p,k,e⟩:=zcf ho5
       exact ⟨p,_,k,e⟩
      clear own3
      have hAb:∀ g,A.ownBlock=some g→W.heap.size+3≤g∧g < wr.heap.size:=HOWN.out.lt
      have old5:∀ g,g < w4.heap.size→A.ownBlock≠some g→w5.heap[g]?=w4.heap[g]?:=fun g hlt hne=>(hg5.block g (by simp;omega) (fun e=>hne e.symm)).trans (Below.heap_alloc _ _ _ hlt)
      replace u3:=(old5 _ (zaa u3) (fun e=>by have:=hAb _ e;omega)).trans u3
      replace u5:=(old5 _ (zaa u5) (fun e=>by have:=hAb _ e;omega)).trans u5
      have v15:=(old5 _ (by have:=zaa v1;have:=bc.size;omega) (fun e=>by have:=hAb _ e;omega)).trans ((bc.block _ (zaa v1)).trans v1)
      have v25:=(old5 _ (by have:=zaa v2;have:=bc.size;omega) (fun e=>by have:=hAb _ e;omega)).trans ((bc.block _ (zaa v2)).trans v2)
      have bw5:Below W.heap.size W w5:=(bw2.alloc bw2.size _).grown hg5 (by have:=bw2.size;simp;omega) (fun g e=>by have:=hAb g e;omega)
      have acc:AccO zbw 38 (W.heap.size+3) w5.heap.size (g.nodes.take j++[⟨id,ls,ps⟩]) (.slice p5 m5 k5) w5:=AccO.next (wr:=wr) (w3:=w4) HIT.out.1 (fun g e=>⟨(hAb g e).1,HIT.out.2.1 g e⟩) HIT.out.2.2.1 HIT.out.2.2.2 hsz (fun g _ h=>bc.block g h) bc.size HNO.out (by have:=HB3.out.size;have:=HB4.out.size;omega) (by have:=HB3.out.size;have:=HB4.out.size;omega) (Nat.le_refl _) ho5 hg5 (by simpa using hloc5)
      have hz5:W.heap.size+3≤w5.heap.size:=by have:=bc.size;have:=hg5.size;simp at this;omega
      clear ho5 hg5 hloc5 hAb old5
      refine hK.out _ _ (u5) (fun _=>?_)
      clear hK K
      try simp only [putS]
      refine tg (i:=13) (.pointer (some ⟨W.heap.size+2,0,none⟩)) rfl (u5) ?_
      refine tr 14 rfl (fun K hK=>?_)
      try rw [if_pos (by rfl)]
      have c0:=zac u3 0 rfl
      have f0:=zbj u3 0
      go_simp
      clear c0 f0
      have a6:AccO zbw 38 (W.heap.size+3) w5.heap.size (g.nodes.take j++[⟨id,ls,ps⟩]) (.slice p5 m5 k5) (w5.setCell ⟨W.heap.size+2,0,none⟩ (.slice p5 m5 k5)):=acc.keep (fun g a _=>Below.heap_setCell _ _ _ _ (by show g≠W.heap.size+2;omega)) (Nat.le_of_eq (zbh _ _ _).symm)
      have u36:=za6 u3 0 (.slice p5 m5 k5)
      replace v15:=(Below.heap_setCell w5 ⟨W.heap.size+2,0,none⟩ (.slice p5 m5 k5) W.heap.size (by show W.heap.size≠W.heap.size+2;omega)).trans v15
      replace v25:=(Below.heap_setCell w5 ⟨W.heap.size+2,0,none⟩ (.slice p5 m5 k5) (W.heap.size+1) (by show W.heap.size+1≠W.heap.size+2;omega)).trans v25
      replace bw5:=zam (e:=W.heap.size+2) (o:=0) bw5 none (.slice p5 m5 k5) (by omega) (by omega)
      replace u5:=(Below.heap_setCell w5 ⟨W.heap.size+2,0,none⟩ (.slice p5 m5 k5) wr.heap.size (by show wr.heap.size≠W.heap.size+2;omega)).trans u5
      replace hz5:W.heap.size+3≤(w5.setCell ⟨W.heap.size+2,0,none⟩ (.slice p5 m5 k5)).heap.size:=by rw [zbh];exact hz5
      clear u3 acc
      refine hK.out _ _ (u5) (fun _=>?_)
      clear hK K
      try simp only [putS]
      refine wpAnyH_done (by kernel_rfl) ?_ _
      have HC:Hid ((∃ top,AccO zbw 38 (W.heap.size+3) top (g.nodes.take (j+1)) (.slice p5 m5 k5) (w5.setCell ⟨W.heap.size+2,0,none⟩ (.slice p5 m5 k5)))∧_∧_∧_∧_∧_):=Lib.hid ⟨⟨_,by rw [HK.out.2.1];exact a6⟩,v15,v25,u36,bw5,hz5⟩
      generalize w5.setCell ⟨W.heap.size+2,0,none⟩ (.slice p5 m5 k5)=w6 at*
      clear a6 v15 v25 u36 bw5 hz5 u5 bc bw2 HNO HIT HOWN HCT HCP HB3 HB4
      go_wp2_with fail
      go_roundg (gk - 1)
      case measure=>omega
      case rel=>exact ⟨j+1,.slice p5 m5 k5,by omega,by go_num,HC⟩
  ·have e:g.nodes.take j=g.nodes:=by rw [List.take_of_length_le];have:=HL.out.1;omega
   rw [e] at hA
   obtain ⟨top,hA⟩:=hA
   obtain ⟨m,hm⟩:∃ m,m=wr.heap.size:=⟨_,rfl⟩
   have hA2:AccO zbw 38 (W.heap.size+3) m g.nodes A wr:=by rw [hm];exact hA.top hA.1 (Nat.le_refl _)
   have HM:Hid (W.heap.size+3≤m):=Lib.hid (by omega)
   have HST:Hid (AccO zbw 38 (W.heap.size+3) m g.nodes A wr∧wr.heap[W.heap.size]?=some (.cells #[.slice p1 n1 cap1,.slice p2 n2 cap2] 25 (0,0))∧wr.heap[W.heap.size+1]?=some (.cells #[.slice none 0 0,.slice none 0 0] 25 (0,0))∧wr.heap[W.heap.size+2]?=some (.cells #[A,.slice none 0 0] 25 (0,0))∧Below W.heap.size W wr∧m≤wr.heap.size):=Lib.hid ⟨hA2,v1,v2,u3,bw,Nat.le_of_eq hm⟩
   have c1:=zac v1 0 rfl
   clear hA hA2 hm e v2 u3 bw
   go_wp2_with fail
   clear c1 v1
   go_loopg [6] n2 (fun gg s6 wz=>∃ (j:Nat) (B:Value),j+gg=n2∧s6=.int .i64 j∧Hid ((∃ top,AccO zdy 41 m top (g.edges.take j) B wz)∧AccO zbw 38 (W.heap.size+3) m g.nodes A wz∧wz.heap[W.heap.size]?=some (.cells #[.slice p1 n1 cap1,.slice p2 n2 cap2] 25 (0,0))∧wz.heap[W.heap.size+1]?=some (.cells #[.slice none 0 0,.slice none 0 0] 25 (0,0))∧wz.heap[W.heap.size+2]?=some (.cells #[A,B] 25 (0,0))∧Below W.heap.size W wz∧m≤wz.heap.size))
   case atStart=>exact ⟨0,_,by omega,rfl,Lib.hid ⟨⟨_,AccO.start zdy 41 _ _ wr HST.out.2.2.2.2.2⟩,HST.out⟩⟩
   case round=>
    clear HST
    obtain ⟨j,B,hjg,rfl,HA⟩:=hrel
    obtain ⟨hA,hN,v1,v2,u3,bw,hsz⟩:=HA.out
    have HN:=Lib.hid hN
    clear HA hN
    by_cases hj:(j:Int) < n2
    ·have hj1:j < g.edges.length:=by have:=HL.out.2;omega
     obtain ⟨gb,o,cp1,c,e1,hg1,hr1,ra⟩:=HU.out.at_ j hj1
     injection e1 with e11 e12 e13
     subst e11
     replace ra:=za8 ra bw
     obtain ⟨x,hx⟩:∃ x,x=g.edges[j]:=⟨_,rfl⟩
     rw [← hx] at hr1
     obtain ⟨id,src,dst,ty,ps⟩:=x
     obtain ⟨pv,rfl,hid,hty,hpn,hps⟩:=hr1
     have HCP:Hid (∀ W',Below W.heap.size W W'→Calls Tryz.prog 35 #[pv] W' fun e w'=>∃ R,e=.returned R∧zct w' W'.heap.size w'.heap.size none R ps∧Below W'.heap.size W' w'):=Lib.hid fun W' b=>zji pv ps W' (hps.stays (zad b)) hpn
     obtain ⟨pp,kp,rfl⟩:=hps.slice
     replace ra:wr.rangeAt gb (o+j*5) [.int .i64 id,.int .i64 src,.int .i64 dst,.string ty,.slice pp ps.length kp]:=ra
     have hjl:(g.edges.take j).length=j:=by rw [List.length_take];omega
     have etk:g.edges.take (j+1)=g.edges.take j++[⟨id,src,dst,ty,ps⟩]:=by rw [List.take_succ_eq_append_getElem hj1,← hx]
     have HK:=Lib.hid (And.intro hjl (And.intro etk (And.intro hid hty)))
     obtain ⟨top,htop,hAt,L,hL,hown,hit⟩:=hA
     replace hown:wr.ownsRow m 41 5 B (g.edges.take j).length (L.map (·.c)).flatten:=hown
     have HIT:=Lib.hid (And.intro htop (And.intro hAt (And.intro hL hit)))
     have HOWN:=Lib.hid hown
     clear hx hid hty hps hjl etk htop hAt hL hit hown e12 e13
     have c1:=zac v1 1 rfl
     go_upto_region 11 with (first
      |((with_reducible refine zav (.tmp 44) gb (o+j*5) 41 [.int .i64 id,.int .i64 src,.int .i64 dst,.string ty,.slice pp ps.length kp] 5 _ ra rfl Tryz.underlying41 rfl zan ?_ ?_ ?_ ?_);rfl;rfl;rfl)
      |((with_reducible refine zah (.tmp 7) (.tmp 45) wr.heap.size 41 41 _ [.int .i64 id,.int .i64 src,.int .i64 dst,.string ty,.slice pp ps.length kp] 5 (zae _ _ rfl) rfl ?_ ?_ ?_ ?_ zan rfl (by simp [Value.oneCell']) ?_);rfl;rfl;rfl;rfl;intro wX oX u5))
     have bX:Below wr.heap.size wr wX:=zag (zas wr _) oX (Nat.le_refl _) (by simp)
     have bw2:=zab bw bX bw.size
     have hlo:wr.heap.size < wX.heap.size:=zaa u5
     have c5:=zac u5 4 rfl
     clear oX ra c1
     go_upto_region 12 with (first
      |(go_at_call 35;(with_reducible refine (HCP.out _ bw2).mono ?_);rintro e w4 ⟨R,rfl,hP,hb4⟩
        obtain ⟨p4,k4,rfl⟩:∃ p4 k4,R=.slice p4 ps.length k4:=by
         obtain ⟨_,_,_,q,_⟩:=hP
         exact zcf q
        replace u5:=(hb4.block _ (zaa u5)).trans u5
        replace c5:=zac u5 4 rfl
        have f5:=zbj u5 4
        have hP4:=Lib.hid hP
        have bc4:=zab bX hb4 bX.size
        have HB4:=Lib.hid hb4
        clear hP hb4))
     obtain ⟨wS,hwS⟩:∃ wS,wS=w4.setCell ⟨wr.heap.size,4,none⟩ (.slice p4 ps.length k4):=⟨_,rfl⟩
     have u6:wS.heap[wr.heap.size]?=some (.cells #[.int .i64 id,.int .i64 src,.int .i64 dst,.string ty,.slice p4 ps.length k4] 41 (0,0)):=by rw [hwS];exact za6 u5 4 (.slice p4 ps.length k4)
     have bcS:Below wr.heap.size wr wS:=by rw [hwS];exact zam bc4 none _ (Nat.le_refl _) bc4.size
     have hSz:wS.heap.size=w4.heap.size:=by rw [hwS];exact zbh _ _ _
     have hES:zfe wS wX.heap.size w4.heap.size [.int .i64 id,.int .i64 src,.int .i64 dst,.string ty,.slice p4 ps.length k4] ⟨id,src,dst,ty,ps⟩:=by
      refine ⟨_,rfl,HK.out.2.2.1,HK.out.2.2.2,hP4.out.keep (fun g a b _=>?_) (fun g _ e=>by cases e)⟩
      rw [hwS]
      exact Below.heap_setCell _ _ _ _ (by show g≠wr.heap.size;omega)
     have HES:=Lib.hid hES
     rw [← hwS]
     have cB:=zac (show wS.heap[W.heap.size+2]?=some (.cells #[A,B] 25 (0,0)) from (bcS.block _ (zaa u3)).trans u3) 1 rfl
     obtain ⟨F,hF⟩:∃ F,F=(L.map (·.c)).flatten:=⟨_,rfl⟩
     have own3:wS.ownsRow m 41 5 B j F:=by
      have q:=zaw HOWN.out fun g e=>bcS.block g (HOWN.out.lt g e).2
      rw [HK.out.1,← hF] at q
      exact q
     have HF:=Lib.hid hF
     have hjm:(j:Int)+1≤2097152:=by omega
     have hjm2:j+1≤2097152:=by omega
     have hmS:m≤wS.heap.size:=by have:=bcS.size;omega
     have hXS:wX.heap.size≤w4.heap.size:=HB4.out.size
     clear hwS hES c5 f5 u5 hF bc4
     go_wp2_with (first
      |((with_reducible refine zaf (.tmp 7) wr.heap.size 41 41 [.int .i64 id,.int .i64 src,.int .i64 dst,.string ty,.slice p4 ps.length k4] 5 _ u6 rfl Tryz.underlying41 rfl zan ?_ ?_ ?_ ?_);rfl;rfl;rfl)
      |((with_reducible refine zbd ?_ 23 41 (.tmp 52) ?_ (.agg #[.int .i64 id,.int .i64 src,.int .i64 dst,.string ty,.slice p4 ps.length k4]) [.int .i64 id,.int .i64 src,.int .i64 dst,.string ty,.slice p4 ps.length k4] ?_ rfl j0 _ 5 rfl (by omega) (by omega) Tryz.underlying23 kj kz0 kz1 ?_);rfl;rfl;rfl)
      |(at_builtin;refine wpList_append_own_at _ rfl _ _ 23 rfl m 41 j0 (.agg #[.int .i64 0,.int .i64 0,.int .i64 0,.string ⟨#[]⟩,.slice none 0 0]) 5 64 Tryz.underlying23 kj kz0 kz1 kz2 rfl (by decide) B j F rfl (own3.alloc _) ⟨wS.heap.size,0,none⟩ 1 1 [.int .i64 id,.int .i64 src,.int .i64 dst,.string ty,.slice p4 ps.length k4] rfl rfl (zbp _ _ _) (by simp [Value.oneCell']) ?_ ?_ ?_ ?_))
     all_goals (try (first |(unfold maxLen;omega) | omega |(simp;omega)))
     intro v5 w5 ho5 hg5 _ hloc5
     obtain ⟨p5,m5,k5,rfl⟩:∃ p m k,v5=.slice p m k:=by
      obtain ⟨p,k,e⟩:=zcf ho5
      exact ⟨p,_,k,e⟩
     have hBb:∀ g,B.ownBlock=some g→m≤g∧g < wr.heap.size:=HOWN.out.lt
     have old5:∀ g,g < wS.heap.size→B.ownBlock≠some g→w5.heap[g]?=wS.heap[g]?:=fun g hlt hne=>(hg5.block g (by simp;omega) (fun e=>hne e.symm)).trans (Below.heap_alloc _ _ _ hlt)
     have far5:∀ g,g < m→w5.heap[g]?=wr.heap[g]?:=fun g hlt=>(old5 g (by omega) (fun e=>by have:=hBb _ e;omega)).trans (bcS.block g (by omega))
     have hM:=HM.out
     have w1:=(far5 _ (by omega)).trans v1
     have w2:=(far5 _ (by omega)).trans v2
     have w3:=(far5 _ (by omega)).trans u3
     have bwS:Below W.heap.size W wS:=zab bw bcS bw.size
     have bw5:Below W.heap.size W w5:=(bwS.alloc bwS.size _).grown hg5 (by have:=bwS.size;simp;omega) (fun g e=>by have:=hBb g e;omega)
     have e5:g.edges.take (j+1)=g.edges.take j++[⟨id,src,dst,ty,ps⟩]:=HK.out.2.1
     have acc:AccO zdy 41 m w5.heap.size (g.edges.take (j+1)) (.slice p5 m5 k5) w5:=by
      rw [e5]
      refine AccO.next (wr:=wr) (w3:=wS) HIT.out.1 (fun g e=>⟨(hBb g e).1,HIT.out.2.1 g e⟩) HIT.out.2.2.1 HIT.out.2.2.2 hsz (fun g _ h=>bcS.block g h) bcS.size HES.out (Nat.le_of_lt hlo) hXS (Nat.le_of_eq hSz.symm) ?_ hg5 (hloc5.imp (fun e=>e) fun e=>by rw [e];simp [hSz])
      rw [HK.out.1,← HF.out]
      exact ho5
     have hN5:=HN.out.keep (w':=w5) (fun g _ b=>far5 g b) (by have h1:=hg5.size;have h2:=bcS.size;simp at h1;omega)
     have HC:=Lib.hid (And.intro acc (And.intro hN5 (And.intro w1 (And.intro w2 (And.intro w3 (And.intro bw5 hM))))))
     have c9:=zac w3 1 rfl
     have f9:=zbj w3 1
     have hm5:m≤w5.heap.size:=by have:=hN5.1;omega
     clear ho5 hg5 hloc5 hBb old5 far5 w1 w2 w3 bw5 acc hN5 own3 cB u6 bcS bwS hM e5
     go_wp2_with fail
     go_roundg (gk - 1)
     case measure=>omega
     case rel=>
      obtain ⟨q1,q2,q3,q4,q5,q6,q7⟩:=HC.out
      have hne:∀ g,g≠W.heap.size+2→(w5.setCell ⟨W.heap.size+2,1,none⟩ (.slice p5 m5 k5)).heap[g]?=w5.heap[g]?:=fun g h=>Below.heap_setCell _ _ _ _ h
      refine ⟨j+1,.slice p5 m5 k5,by omega,by go_num,Lib.hid ⟨⟨_,q1.keep (fun g a _=>hne g (by omega)) (Nat.le_of_eq (zbh _ _ _).symm)⟩,q2.keep (fun g a _=>hne g (by omega)) (Nat.le_of_eq (zbh _ _ _).symm),(hne _ (by omega)).trans q3,(hne _ (by omega)).trans q4,za6 q5 1 (.slice p5 m5 k5),zam q6 none (.slice p5 m5 k5) (by omega) (by omega),by rw [zbh];exact hm5⟩⟩
    ·have e:g.edges.take j=g.edges:=by rw [List.take_of_length_le];have:=HL.out.2;omega
     rw [e] at hA
     obtain ⟨top,hA⟩:=hA
     have HA:=Lib.hid hA
     have hAB:∀ u∈[A,B],u.oneCell'=true:=by
      intro u hu
      obtain ⟨pa,ka,ea⟩:=HN.out.form
      obtain ⟨pb,kb,eb⟩:=HA.out.form
      rw [ea,eb] at hu
      simp only [List.mem_cons,List.mem_nil_iff,or_false] at hu
      rcases hu with rfl | rfl <;> rfl
     have c1:=zac v1 1 rfl
     clear hA e v1
     go_wp2_with (first
      |((with_reducible refine zaf (.tmp 3) (W.heap.size+2) 25 25 [A,B] 2 _ u3 rfl Tryz.underlying25 rfl zbg ?_ ?_ ?_ ?_);rfl;rfl;rfl)
      |((with_reducible refine zah (.tmp 2) (.tmp 56) (W.heap.size+1) 25 25 _ [A,B] 2 v2 rfl ?_ ?_ ?_ ?_ zbg rfl hAB ?_);rfl;rfl;rfl;rfl;intro wX oX u5))
     have hM:=HM.out
     exact bodyPost_ret (results_cell_row (p:=2) (ty:=25) Tryz.results10 _ _ (W.heap.size+1) 25 _ (0,0) _ rfl u5 Tryz.underlying25 rfl zbg) rfl
      ⟨A,B,m,rfl,(HN.out.keep (fun g a b=>oX.block g (by omega) (by omega)) oX.size).base (by omega),(HA.out.keep (fun g a b=>oX.block g (by have:=HA.out.1;omega) (by omega)) oX.size).top (by have:=HA.out.1;have:=oX.size;omega) (Nat.le_refl _),by omega,zag bw oX (by omega) bw.size⟩
end Go.Proofs.YtcfmenkigolnoaaGreatDoor
