/- Texts of one kind, one behind the other: each says ahead of itself what it shows. -/
import Derived.Test.YteclpnfckjfibaaGreatDoorAbc
import Derived.Test.YteclpnfckjfibaaGreatDoorAbb
/- LP -/
namespace Go.Proofs.YteclpnfckjfibaaGreatDoor
open Go.RowKit
theorem RowE.drop {α:Type} {E:Elem α} {w:World} {P:Nat→Prop}:(l:List α)→(xs:List Value)→(i:Nat)→i≤l.length→RowE E w P xs l→RowE E w P (xs.drop (i*E.k)) (l.drop i)
 | l,xs,0,_,h=>by simpa using h
 | [],xs,i+1,h,_=>absurd h (by simp)
 | a::l,xs,i+1,hi,h=>by
   unfold RowE at h
   obtain ⟨c,ys,rfl,hc,hr⟩:=h
   rw [Nat.add_mul,Nat.one_mul,Nat.add_comm,← List.drop_drop,List.drop_left' (E.len hc),List.drop_succ_cons]
   exact RowE.drop l ys i (by simpa using hi) hr
theorem zah.drop {α:Type} {E:Elem α} {w:World} {P:Nat→Prop} {g off n cap:Nat} {l:List α} (h:zah E w P (.slice (some ⟨g,off,none⟩) n cap) l) (hk:E.k=1) (i m:Nat) (hi:i≤l.length) (hm:m=l.length - i):zah E w P (.slice (some ⟨g,off+i,none⟩) m (cap - i)) (l.drop i):=by
 obtain ⟨p,cap',e,hh⟩:=h
 cases e
 refine ⟨_,_,by rw [List.length_drop,hm],fun hne=>?_⟩
 obtain ⟨g',off',xs,e1,h1,h2,h3⟩:=hh (fun q=>hne (by rw [q,List.drop_nil]))
 cases e1
 refine ⟨g,off+i,xs.drop i,rfl,h1,fun j u hj=>?_,?_⟩
 ·rw [List.getElem?_drop] at hj
  rw [Nat.add_assoc]
  exact h2 _ _ hj
 ·have:=RowE.drop l xs i hi h3
  rwa [hk,Nat.mul_one] at this
theorem zl6 {q:Option Addr} {len l:Nat} (h:capK (.slice q len l)) (n:Nat) (hn:n≤len):capK (.slice q n l):=
 ⟨fun p m c e=>by cases e;exact Nat.le_trans hn (h.1 _ _ _ rfl),fun m c e=>by cases e;exact h.2 _ _ rfl⟩
theorem zcu.take {w:World} {V:Value} {q:Option Addr} {len l:Nat} {t:TabL} (h:zcu w V (.slice q len l) t) (n:Nat) (hn:n≤t.rows.length):zcu w V (.slice q n l) ⟨t.vars,t.rows.take n⟩:=by
 refine ⟨fun w' b=>?_⟩
 obtain ⟨V',R',e,hv,hr,h1,h2,h3,h4⟩:=h.at_ w' b
 cases e
 obtain ⟨p,c,e2⟩:=hr.slice
 cases e2
 exact ⟨_,_,rfl,hv,hr.take n hn,h1,zl6 h2 n hn,h3,by show (t.rows.take n).length≤_;rw [List.length_take];omega⟩
theorem zcu.half {w:World} {p:Option Addr} {len k:Nat} {R:Value} {t:TabL} (h:zcu w (.slice p len k) R t) (m:Nat) (hm:m=t.vars.length / 2):zah zax w (Old w) (.slice p m k) (zrm t):=by
 subst hm
 exact h.vars.take _ (by omega)
def zee (q:Option Addr) (l n:Nat):Option Addr:=if l=n then q else Option.map (fun x=>x.add n) q
theorem zcu.drop {w:World} {V:Value} {q:Option Addr} {len l:Nat} {t:TabL} (h:zcu w V (.slice q len l) t) (n m:Nat) (hn:n≤t.rows.length) (hm:m=t.rows.length - n):zcu w V (.slice (zee q l n) m (l - n)) ⟨t.vars,t.rows.drop n⟩:=by
 refine ⟨fun w' b=>?_⟩
 obtain ⟨V',R',e,hv,hr,h1,h2,h3,h4⟩:=h.at_ w' b
 cases e
 obtain ⟨p,c,e2⟩:=hr.slice
 cases e2
 have hl:=h2.1 _ _ _ rfl
 refine ⟨_,_,rfl,hv,?_,h1,⟨fun p m' c e=>by cases e;omega,fun m' c e=>?_⟩,h3,by show (t.rows.drop n).length≤_;rw [List.length_drop];omega⟩
 ·by_cases h0:t.rows.drop n=[]
  ·refine ⟨zee q l n,l - n,?_,fun q=>absurd h0 q⟩
   have:(t.rows.drop n).length=0:=by rw [h0];rfl
   rw [List.length_drop] at this
   show Value.slice _ m _=Value.slice _ (t.rows.drop n).length _
   rw [List.length_drop,hm]
  ·have hne:t.rows≠[]:=fun q=>h0 (by rw [q,List.drop_nil])
   obtain ⟨p',c',e3,hh⟩:=hr
   cases e3
   obtain ⟨g,off,xs,rfl,k1,k2,k3⟩:=hh hne
   have hlt:n < t.rows.length:=Nat.lt_of_not_le fun q=>h0 (List.drop_eq_nil_of_le q)
   unfold zee
   rw [if_neg (by omega),Option.map_some,zhp]
   exact zah.drop ⟨_,_,rfl,fun _=>⟨g,off,xs,rfl,k1,k2,k3⟩⟩ rfl n m hn hm
 ·injection e with e1 e2 e3
  have:q=none:=by
   unfold zee at e1
   split at e1
   ·exact e1
   ·simpa using e1
  have:=h2.2 _ _ (by rw [this])
  omega
set_option maxHeartbeats 12800000 in
set_option maxRecDepth 20000 in
theorem zy0 (a b:TabL) (VA RA VB RB VV NN:Value) (lang:Int) (W:World) (hG:Gd W) (h:zrk W a b VA RA VB RB) (hV:VV.oneCell'=true) (hN:NN.oneCell'=true):Calls Tryz.prog 6 #[.agg #[VA,RA,VB,RB,VV,.int .i64 lang,NN]] W fun e w'=>e=.returned (.bool true)∧Below W.heap.size W w':=by
 have HMAY:Hid (∀ w',Below W.heap.size W w'→Calls Tryz.prog 37 #[.agg #[VA,RA,VB,RB,VV,.int .i64 lang,NN]] w' fun e w2=>e=.returned (.bool (mayB a b))∧Below w'.heap.size w' w2):=Lib.hid fun w' k=>mayAt a b _ _ _ _ _ _ lang w' (h.below k) hV hN
 have HWK:Hid (∀ w',Below W.heap.size W w'→Calls Tryz.prog 11 #[] w' fun e w2=>e=.returned (.bool true)∧Below w'.heap.size w' w2):=Lib.hid fun w' k=>wakesAt w' (hG.below k)
 have HP:Hid (mayB a b=true→zww a b∧a.rows.length≤60∧b.rows.length≤60∧a.vars.length≤64):=Lib.hid fun q=>by
  obtain ⟨h1,h2,h3,h4,h5,h6,h7,h8⟩:=zwv q h.wa h.wb
  exact ⟨zyu h1 h2 h3 h4 h5 h6 h7 h8,h7,h8,by omega⟩
 have HO:Hid (∀ u∈[VA,RA,VB,RB,VV,.int .i64 lang,NN],u.oneCell'=true):=Lib.hid fun u hu=>by
  have oa:=(zcu.of h.ha).one
  have ob:=(zcu.of h.hb).one
  simp only [List.mem_cons,List.mem_nil_iff,or_false] at hu
  rcases hu with rfl | rfl | rfl | rfl | rfl | rfl | rfl
  ·exact oa.1
  ·exact oa.2
  ·exact ob.1
  ·exact ob.2
  ·exact hV
  ·rfl
  ·exact hN
 have TA0:=zcu.of h.ha
 have TB0:=zcu.of h.hb
 obtain ⟨pA,kA,qA,lA,e1,e2⟩:=TA0.slices
 subst e1 e2
 obtain ⟨pB,kB,qB,lB,e1,e2⟩:=TB0.slices
 subst e1 e2
 obtain ⟨W1,hW1⟩:∃ W1,W1=W.alloc (.cells #[.slice pA a.vars.length kA,.slice qA a.rows.length lA,.slice pB b.vars.length kB,.slice qB b.rows.length lB,VV,.int .i64 lang,NN] 28):=⟨_,rfl⟩
 have b1:Below W.heap.size W W1:=by rw [hW1];exact zau _ _
 obtain ⟨g0,hg0⟩:∃ g0,g0=W.heap.size:=⟨_,rfl⟩
 have hgW:W.heap.size≤g0:=by omega
 have u1:W1.heap[g0]?=some (.cells #[.slice pA a.vars.length kA,.slice qA a.rows.length lA,.slice pB b.vars.length kB,.slice qB b.rows.length lB,VV,.int .i64 lang,NN] 28):=by rw [hW1,hg0];exact zag _ _ rfl
 have HW:=Lib.hid hW1
 have HG0:=Lib.hid hg0
 replace TA0:=TA0.below b1
 replace TB0:=TB0.below b1
 replace hG:=hG.below b1
 obtain ⟨c0,hc0⟩:∃ c0,c0=mayB a b:=⟨_,rfl⟩
 rw [← hc0] at HMAY HP
 clear hW1 hg0 h hc0 hV hN
 cases c0 with
 | false=>
   go_enter Tryz.func6,Tryz.ntmps6
   go_upto_region 1 with fail
   rw [← HW.out,← HG0.out]
   go_wp2_with (first
    |((with_reducible refine zaf (.tmp 1) g0 28 28 [.slice pA a.vars.length kA,.slice qA a.rows.length lA,.slice pB b.vars.length kB,.slice qB b.rows.length lB,VV,.int .i64 lang,NN] 7 _ u1 rfl Tryz.underlying28 rfl zef ?_ ?_ ?_ ?_);rfl;rfl;rfl)
    |(go_at_call 37;(with_reducible refine (HMAY.out _ b1).mono ?_);rintro e w2 ⟨rfl,hb2⟩;replace b1:=zab b1 hb2 b1.size)
    |(go_at_call 11;(with_reducible refine (HWK.out _ b1).mono ?_);rintro e w3 ⟨rfl,hb3⟩;replace b1:=zab b1 hb3 b1.size))
   go_ret
   exact ⟨rfl,b1⟩
 | true=>
   obtain ⟨P,hna,hnb,hma⟩:=HP.out rfl
   have HPO:=Lib.hid P
   obtain ⟨n,hn⟩:∃ n,n=b.rows.length / 2:=⟨_,rfl⟩
   have hdiv:((b.rows.length:Nat):Int) / 2=(n:Int):=by omega
   obtain ⟨m,hm⟩:∃ m,m=a.vars.length / 2:=⟨_,rfl⟩
   have hdiv2:((a.vars.length:Nat):Int) / 2=(m:Int):=by omega
   have HN:=Lib.hid hn
   have HM:=Lib.hid hm
   have hn1:n≤b.rows.length:=by omega
   have hm1:m≤a.vars.length:=by omega
   have hnl:n≤lB:=Nat.le_trans hn1 (TB0.cap.2.1 _ _ _ rfl)
   have hnl2:(n:Int)≤lB:=by omega
   have hml:m≤kA:=Nat.le_trans hm1 (TA0.cap.1.1 _ _ _ rfl)
   have hml2:(m:Int)≤kA:=by omega
   have hll:b.rows.length≤lB:=TB0.cap.2.1 _ _ _ rfl
   have hn2:(n:Int)≤b.rows.length:=by omega
   have HVN:Hid ((zrm a).length≤2097152∧a.vars.length≤2097152):=Lib.hid ⟨by unfold zrm;rw [List.length_take];omega,by omega⟩
   clear hn hm
   clear P HP
   go_enter Tryz.func6,Tryz.ntmps6
   go_upto_region 1 with fail
   rw [← HW.out,← HG0.out]
   go_upto_region 3 with (first
    |((with_reducible refine zaf (.tmp 1) g0 28 28 [.slice pA a.vars.length kA,.slice qA a.rows.length lA,.slice pB b.vars.length kB,.slice qB b.rows.length lB,VV,.int .i64 lang,NN] 7 _ u1 rfl Tryz.underlying28 rfl zef ?_ ?_ ?_ ?_);rfl;rfl;rfl)
    |(go_at_call 37;(with_reducible refine (HMAY.out _ b1).mono ?_);rintro e w2 ⟨rfl,hb2⟩))
   replace b1:=zab b1 hb2 b1.size
   replace TA0:=TA0.below hb2
   replace TB0:=TB0.below hb2
   replace hG:=hG.below hb2
   replace u1:=(hb2.block _ (zaa u1)).trans u1
   clear hb2 HMAY HW HG0
   have d3:=zac u1 3 rfl
   go_upto_region 4 with fail
   refine wp_region_held_drew (S:=fun W'=>W'.heap[g0]?=some (.cells #[.slice pA a.vars.length kA,.slice qA a.rows.length lA,.slice pB b.vars.length kB,.slice qB b.rows.length lB,VV,.int .i64 lang,NN] 28)) (by kernel_rfl) u1 (fun hh=>?_)
   have bq:Below w2.heap.size w2 w2.drew:=(Below.refl _ _).drew
   replace b1:=zab b1 bq b1.size
   replace hG:=hG.below bq
   replace TA0:=TA0.below bq
   replace TB0:=TB0.below bq
   clear bq u1 d3
   generalize w2.drew=wD at*
   refine tg (i:=0) (.pointer (some ⟨g0,2,none⟩)) rfl (hh) ?_
   refine tg (i:=3) (.pointer (some ⟨g0,2,none⟩)) rfl (hh) ?_
   refine tg (i:=6) (.int .i64 (n:Int)) rfl (hh) ?_
   refine tg (i:=1) (.pointer (some ⟨g0,2,none⟩)) rfl (hh) ?_
   refine tg (i:=4) (.pointer (some ⟨g0,3,none⟩)) rfl (hh) ?_
   refine tk (i:=2) (v:=.slice pB b.vars.length kB) rfl (Or.inl ⟨by rfl,fun W' h=>by have c0:=zac h 2 rfl;go_simp⟩) (hh) ?_
   refine tk (i:=5) (v:=.slice qB b.rows.length lB) rfl (Or.inl ⟨by rfl,fun W' h=>by have c0:=zac h 3 rfl;go_simp⟩) (hh) ?_
   refine tg (i:=7) (.slice qB n lB) rfl (hh) ?_
   refine tg (i:=8) (.agg #[.slice pB b.vars.length kB,.slice qB n lB]) rfl (hh) ?_
   refine tr 9 rfl (fun K hK=>?_)
   try rw [if_pos (by rfl)]
   go_simp
   refine hK.out _ _ ((zao _ hh)) (fun _=>?_)
   clear hK K
   try simp only [putS]
   refine tr 10 rfl (fun K hK=>?_)
   try rw [if_pos (by rfl)]
   go_simp
   refine hK.out _ _ ((zao _ hh)) (fun _=>?_)
   clear hK K
   try simp only [putS]
   refine wpAnyH_done (by kernel_rfl) ?_ _
   have u1:=zao (.cells #[.slice pB b.vars.length kB,.slice qB n lB] 25) hh
   have v1:(wD.alloc (.cells #[.slice pB b.vars.length kB,.slice qB n lB] 25)).heap[wD.heap.size]?=some (.cells #[.slice pB b.vars.length kB,.slice qB n lB] 25):=zag _ _ rfl
   have bz:Below wD.heap.size wD (wD.alloc (.cells #[.slice pB b.vars.length kB,.slice qB n lB] 25)):=zau _ _
   replace b1:=zab b1 bz b1.size
   replace hG:=hG.below bz
   replace TA0:=TA0.below bz
   replace TB0:=TB0.below bz
   have T1:zcu (wD.alloc (.cells #[.slice pB b.vars.length kB,.slice qB n lB] 25)) (.slice pB b.vars.length kB) (.slice qB n lB) (zcs b):=by
    unfold zcs
    rw [← HN.out]
    exact TB0.take n hn1
   obtain ⟨g1,hg1⟩:∃ g1,g1=wD.heap.size:=⟨_,rfl⟩
   obtain ⟨w4,hw4⟩:∃ w4,w4=wD.alloc (.cells #[.slice pB b.vars.length kB,.slice qB n lB] 25):=⟨_,rfl⟩
   rw [← hw4] at u1 v1 b1 hG TA0 TB0 T1 ⊢
   rw [← hg1] at v1 ⊢
   clear bz hh hg1 hw4
   go_upto_region 5 with fail
   refine wp_region_held_drew (S:=fun W'=>W'.heap[g0]?=some (.cells #[.slice pA a.vars.length kA,.slice qA a.rows.length lA,.slice pB b.vars.length kB,.slice qB b.rows.length lB,VV,.int .i64 lang,NN] 28)∧W'.heap[g1]?=some (.cells #[.slice pB b.vars.length kB,.slice qB n lB] 25)) (by kernel_rfl) ⟨u1,v1⟩ (fun hh=>?_)
   have bq:Below w4.heap.size w4 w4.drew:=(Below.refl _ _).drew
   replace b1:=zab b1 bq b1.size
   replace hG:=hG.below bq
   replace TA0:=TA0.below bq
   replace TB0:=TB0.below bq
   replace T1:=T1.below bq
   clear bq u1 v1
   generalize w4.drew=wD at*
   refine tg (i:=0) (.pointer (some ⟨g0,2,none⟩)) rfl (hh) ?_
   refine tg (i:=3) (.pointer (some ⟨g0,2,none⟩)) rfl (hh) ?_
   refine tg (i:=6) (.int .i64 (n:Int)) rfl (hh) ?_
   refine tg (i:=1) (.pointer (some ⟨g0,2,none⟩)) rfl (hh) ?_
   refine tg (i:=4) (.pointer (some ⟨g0,3,none⟩)) rfl (hh) ?_
   refine tk (i:=2) (v:=.slice pB b.vars.length kB) rfl (Or.inl ⟨by rfl,fun W' h=>by have c0:=zac h.1 2 rfl;go_simp⟩) (hh) ?_
   refine tk (i:=5) (v:=.slice qB b.rows.length lB) rfl (Or.inl ⟨by rfl,fun W' h=>by have c0:=zac h.1 3 rfl;go_simp⟩) (hh) ?_
   refine tk (i:=7) (v:=.slice (zee qB lB n) (b.rows.length - n) (lB - n)) rfl (Or.inl ⟨by rfl,fun W _=>by go_simp;rfl⟩) (hh) ?_
   refine tg (i:=8) (.agg #[.slice pB b.vars.length kB,.slice (zee qB lB n) (b.rows.length - n) (lB - n)]) rfl (hh) ?_
   refine tr 9 rfl (fun K hK=>?_)
   try rw [if_pos (by rfl)]
   go_simp
   refine hK.out _ _ (⟨zao _ hh.1,zao _ hh.2⟩) (fun _=>?_)
   clear hK K
   try simp only [putS]
   refine tr 10 rfl (fun K hK=>?_)
   try rw [if_pos (by rfl)]
   go_simp
   refine hK.out _ _ (⟨zao _ hh.1,zao _ hh.2⟩) (fun _=>?_)
   clear hK K
   try simp only [putS]
   refine wpAnyH_done (by kernel_rfl) ?_ _
   have u1:=zao (.cells #[.slice pB b.vars.length kB,.slice (zee qB lB n) (b.rows.length - n) (lB - n)] 25) hh.1
   have v1:=zao (.cells #[.slice pB b.vars.length kB,.slice (zee qB lB n) (b.rows.length - n) (lB - n)] 25) hh.2
   have v2:(wD.alloc (.cells #[.slice pB b.vars.length kB,.slice (zee qB lB n) (b.rows.length - n) (lB - n)] 25)).heap[wD.heap.size]?=some (.cells #[.slice pB b.vars.length kB,.slice (zee qB lB n) (b.rows.length - n) (lB - n)] 25):=zag _ _ rfl
   have bz:Below wD.heap.size wD (wD.alloc (.cells #[.slice pB b.vars.length kB,.slice (zee qB lB n) (b.rows.length - n) (lB - n)] 25)):=zau _ _
   replace b1:=zab b1 bz b1.size
   replace hG:=hG.below bz
   replace TA0:=TA0.below bz
   replace TB0:=TB0.below bz
   replace T1:=T1.below bz
   have T2:zcu (wD.alloc (.cells #[.slice pB b.vars.length kB,.slice (zee qB lB n) (b.rows.length - n) (lB - n)] 25)) (.slice pB b.vars.length kB) (.slice (zee qB lB n) (b.rows.length - n) (lB - n)) (zc0 b):=by
    unfold zc0
    rw [← HN.out]
    exact TB0.drop n _ hn1 rfl
   obtain ⟨g2,hg2⟩:∃ g2,g2=wD.heap.size:=⟨_,rfl⟩
   obtain ⟨w5,hw5⟩:∃ w5,w5=wD.alloc (.cells #[.slice pB b.vars.length kB,.slice (zee qB lB n) (b.rows.length - n) (lB - n)] 25):=⟨_,rfl⟩
   rw [← hw5] at u1 v1 v2 b1 hG TA0 TB0 T1 T2 ⊢
   rw [← hg2] at v2 ⊢
   clear bz hh hg2 hw5
   generalize zee qB lB n=q2 at*
   generalize b.rows.length - n=n2 at*
   generalize lB - n=l2 at*
   have HU:=Lib.hid (zlr (zcs b) (zc0 b) _ _ _ _ w5 hG T1.here T2.here HPO.out.nu)
   go_upto_region 7 with (first
    |((with_reducible refine zaf (.tmp 4) g1 25 25 [.slice pB b.vars.length kB,.slice qB n lB] 2 _ v1 rfl Tryz.underlying25 rfl zae ?_ ?_ ?_ ?_);rfl;rfl;rfl)
    |((with_reducible refine zaf (.tmp 5) g2 25 25 [.slice pB b.vars.length kB,.slice q2 n2 l2] 2 _ v2 rfl Tryz.underlying25 rfl zae ?_ ?_ ?_ ?_);rfl;rfl;rfl)
    |(go_at_call 26;(with_reducible refine HU.out.mono ?_);rintro e w6 hu;go_loud (obtain ⟨Vu,Ru,rfl,hb6,TU⟩:=zb8 hu;rw [HPO.out.hu] at TU;obtain ⟨pu,ku,qu,lu,eu,fu⟩:=TU.slices;subst eu fu;clear hu)))
   obtain ⟨gu,hgu⟩:∃ gu,gu=w6.heap.size:=⟨_,rfl⟩
   obtain ⟨w7,hw7⟩:∃ w7,w7=w6.alloc (.cells #[.slice pu b.vars.length ku,.slice qu b.rows.length lu] 25):=⟨_,rfl⟩
   rw [← hw7,← hgu]
   have b67:Below w6.heap.size w6 w7:=by rw [hw7];exact zau _ _
   have v3:w7.heap[gu]?=some (.cells #[.slice pu b.vars.length ku,.slice qu b.rows.length lu] 25):=by rw [hw7,hgu];exact zag _ _ rfl
   have bz:=zab hb6 b67 hb6.size
   replace TU:=TU.below b67
   replace u1:=(bz.block _ (zaa u1)).trans u1
   replace v1:=(bz.block _ (zaa v1)).trans v1
   replace v2:=(bz.block _ (zaa v2)).trans v2
   replace b1:=zab b1 bz b1.size
   replace hG:=hG.below bz
   replace TA0:=TA0.below bz
   replace TB0:=TB0.below bz
   replace T1:=T1.below bz
   replace T2:=T2.below bz
   clear bz b67 hb6 hw7 hgu HU
   refine wp_region_held_drew (S:=fun W'=>W'.heap[g0]?=some (.cells #[.slice pA a.vars.length kA,.slice qA a.rows.length lA,.slice pB b.vars.length kB,.slice qB b.rows.length lB,VV,.int .i64 lang,NN] 28)∧W'.heap[g1]?=some (.cells #[.slice pB b.vars.length kB,.slice qB n lB] 25)∧W'.heap[g2]?=some (.cells #[.slice pB b.vars.length kB,.slice q2 n2 l2] 25)∧W'.heap[gu]?=some (.cells #[.slice pu b.vars.length ku,.slice qu b.rows.length lu] 25)) (by kernel_rfl) ⟨u1,v1,v2,v3⟩ (fun hh=>?_)
   have hh1:=hh.1
   have hh2:=hh.2.1
   have hh3:=hh.2.2.1
   have hh4:=hh.2.2.2
   clear hh
   have bq:Below w7.heap.size w7 w7.drew:=(Below.refl _ _).drew
   replace b1:=zab b1 bq b1.size
   replace hG:=hG.below bq
   replace TA0:=TA0.below bq
   replace TB0:=TB0.below bq
   replace T1:=T1.below bq
   replace T2:=T2.below bq
   replace TU:=TU.below bq
   clear bq u1 v1 v2 v3
   generalize w7.drew=wD at*
   refine tk (i:=0) (v:=.agg #[.slice pu b.vars.length ku,.slice qu b.rows.length lu]) rfl (yieldsIf_load_mid (by rfl) 25 (.tmp 6) rfl gu 0 rfl [.slice pu b.vars.length ku,.slice qu b.rows.length lu] _ (fun W h=>zb7 h.2.2.2 0 _ (fun j v hv=>by match j,hv with | 0,e | 1,e=>simpa using e | j+2,e=>simp at e)) Tryz.underlying25 rfl zae) (⟨hh1,hh2,hh3,hh4⟩) ?_
   refine tg (i:=1) (.pointer (some ⟨g0,2,none⟩)) rfl (⟨hh1,hh2,hh3,hh4⟩) ?_
   refine tk (i:=2) (v:=.agg #[.slice pB b.vars.length kB,.slice qB b.rows.length lB]) rfl (yieldsIf_load_mid (by rfl) 25 (.tmp 41) rfl g0 2 rfl [.slice pB b.vars.length kB,.slice qB b.rows.length lB] _ (fun W h=>zbe h.1 [.slice pA a.vars.length kA,.slice qA a.rows.length lA] [VV,.int .i64 lang,NN] rfl) Tryz.underlying25 rfl zae) (⟨hh1,hh2,hh3,hh4⟩) ?_
   refine tr 3 rfl (fun K hK=>?_)
   try rw [if_pos (by rfl)]
   go_simp
   refine (zl1 b _ _ _ _ wD TU.here TB0.here).mono ?_
   rintro e3 w3_ ⟨rfl,hb3⟩
   replace hh1:=(hb3.block _ (zaa hh1)).trans hh1
   replace hh2:=(hb3.block _ (zaa hh2)).trans hh2
   replace hh3:=(hb3.block _ (zaa hh3)).trans hh3
   replace hh4:=(hb3.block _ (zaa hh4)).trans hh4
   replace b1:=zab b1 hb3 b1.size
   replace hG:=hG.below hb3
   replace TA0:=TA0.below hb3
   replace TB0:=TB0.below hb3
   replace T1:=T1.below hb3
   replace T2:=T2.below hb3
   replace TU:=TU.below hb3
   clear hb3
   clear TU
   refine hK.out _ _ (⟨hh1,hh2,hh3,hh4⟩) (fun _=>?_)
   clear hK K
   try simp only [putS]
   refine tg (i:=4) (.bool false) rfl (⟨hh1,hh2,hh3,hh4⟩) ?_
   refine tg (i:=5) (.bool false) rfl (⟨hh1,hh2,hh3,hh4⟩) ?_
   refine tg (i:=6) (.pointer (some ⟨g0,0,none⟩)) rfl (⟨hh1,hh2,hh3,hh4⟩) ?_
   refine tg (i:=8) (.pointer (some ⟨g0,2,none⟩)) rfl (⟨hh1,hh2,hh3,hh4⟩) ?_
   refine tg (i:=11) (.pointer (some ⟨g0,0,none⟩)) rfl (⟨hh1,hh2,hh3,hh4⟩) ?_
   refine tk (i:=13) (v:=.agg #[.slice pB b.vars.length kB,.slice qB n lB]) rfl (yieldsIf_load_mid (by rfl) 25 (.tmp 4) rfl g1 0 rfl [.slice pB b.vars.length kB,.slice qB n lB] _ (fun W h=>zb7 h.2.1 0 _ (fun j v hv=>by match j,hv with | 0,e | 1,e=>simpa using e | j+2,e=>simp at e)) Tryz.underlying25 rfl zae) (⟨hh1,hh2,hh3,hh4⟩) ?_
   refine tk (i:=15) (v:=.agg #[.slice pB b.vars.length kB,.slice q2 n2 l2]) rfl (yieldsIf_load_mid (by rfl) 25 (.tmp 5) rfl g2 0 rfl [.slice pB b.vars.length kB,.slice q2 n2 l2] _ (fun W h=>zb7 h.2.2.1 0 _ (fun j v hv=>by match j,hv with | 0,e | 1,e=>simpa using e | j+2,e=>simp at e)) Tryz.underlying25 rfl zae) (⟨hh1,hh2,hh3,hh4⟩) ?_
   refine tk (i:=7) (v:=.agg #[.slice pA a.vars.length kA,.slice qA a.rows.length lA]) rfl (yieldsIf_load_mid (by rfl) 25 (.tmp 46) rfl g0 0 rfl [.slice pA a.vars.length kA,.slice qA a.rows.length lA] _ (fun W h=>zbe h.1 [] ([.slice pB b.vars.length kB,.slice qB b.rows.length lB]++[VV,.int .i64 lang,NN]) rfl) Tryz.underlying25 rfl zae) (⟨hh1,hh2,hh3,hh4⟩) ?_
   refine tk (i:=9) (v:=.agg #[.slice pB b.vars.length kB,.slice qB b.rows.length lB]) rfl (yieldsIf_load_mid (by rfl) 25 (.tmp 48) rfl g0 2 rfl [.slice pB b.vars.length kB,.slice qB b.rows.length lB] _ (fun W h=>zbe h.1 [.slice pA a.vars.length kA,.slice qA a.rows.length lA] [VV,.int .i64 lang,NN] rfl) Tryz.underlying25 rfl zae) (⟨hh1,hh2,hh3,hh4⟩) ?_
   refine tk (i:=12) (v:=.agg #[.slice pA a.vars.length kA,.slice qA a.rows.length lA]) rfl (yieldsIf_load_mid (by rfl) 25 (.tmp 51) rfl g0 0 rfl [.slice pA a.vars.length kA,.slice qA a.rows.length lA] _ (fun W h=>zbe h.1 [] ([.slice pB b.vars.length kB,.slice qB b.rows.length lB]++[VV,.int .i64 lang,NN]) rfl) Tryz.underlying25 rfl zae) (⟨hh1,hh2,hh3,hh4⟩) ?_
   refine tr 10 rfl (fun K hK=>?_)
   try rw [if_pos (by rfl)]
   go_simp
   refine (zns a b _ _ _ _ w3_ hG TA0.here TB0.here HPO.out.w1).mono ?_
   rintro e10 w10_ h10
   obtain ⟨V10,R10,rfl,hb10,M1⟩:=zb8 h10
   clear h10
   replace hh1:=(hb10.block _ (zaa hh1)).trans hh1
   replace hh2:=(hb10.block _ (zaa hh2)).trans hh2
   replace hh3:=(hb10.block _ (zaa hh3)).trans hh3
   replace hh4:=(hb10.block _ (zaa hh4)).trans hh4
   replace b1:=zab b1 hb10 b1.size
   replace hG:=hG.below hb10
   replace TA0:=TA0.below hb10
   replace TB0:=TB0.below hb10
   replace T1:=T1.below hb10
   replace T2:=T2.below hb10
   clear hb10
   refine hK.out _ _ (⟨hh1,hh2,hh3,hh4⟩) (fun _=>?_)
   clear hK K
   try simp only [putS]
   refine tr 14 rfl (fun K hK=>?_)
   try rw [if_pos (by rfl)]
   go_simp
   refine (zns a (zcs b) _ _ _ _ w10_ hG TA0.here T1.here HPO.out.w2).mono ?_
   rintro e14 w14_ h14
   obtain ⟨V14,R14,rfl,hb14,M2⟩:=zb8 h14
   clear h14
   replace hh1:=(hb14.block _ (zaa hh1)).trans hh1
   replace hh2:=(hb14.block _ (zaa hh2)).trans hh2
   replace hh3:=(hb14.block _ (zaa hh3)).trans hh3
   replace hh4:=(hb14.block _ (zaa hh4)).trans hh4
   replace b1:=zab b1 hb14 b1.size
   replace hG:=hG.below hb14
   replace TA0:=TA0.below hb14
   replace TB0:=TB0.below hb14
   replace T1:=T1.below hb14
   replace T2:=T2.below hb14
   replace M1:=M1.below hb14
   clear hb14
   refine hK.out _ _ (⟨hh1,hh2,hh3,hh4⟩) (fun _=>?_)
   clear hK K
   try simp only [putS]
   refine tr 16 rfl (fun K hK=>?_)
   try rw [if_pos (by rfl)]
   go_simp
   refine (zns (zc8 a (zcs b)) (zc0 b) _ _ _ _ w14_ hG M2.here T2.here HPO.out.w3).mono ?_
   rintro e16 w16_ h16
   obtain ⟨V16,R16,rfl,hb16,M3⟩:=zb8 h16
   clear h16
   rw [← HPO.out.hm] at M3
   replace hh1:=(hb16.block _ (zaa hh1)).trans hh1
   replace hh2:=(hb16.block _ (zaa hh2)).trans hh2
   replace hh3:=(hb16.block _ (zaa hh3)).trans hh3
   replace hh4:=(hb16.block _ (zaa hh4)).trans hh4
   replace b1:=zab b1 hb16 b1.size
   replace hG:=hG.below hb16
   replace TA0:=TA0.below hb16
   replace TB0:=TB0.below hb16
   replace T1:=T1.below hb16
   replace T2:=T2.below hb16
   replace M1:=M1.below hb16
   replace M2:=M2.below hb16
   clear hb16
   refine hK.out _ _ (⟨hh1,hh2,hh3,hh4⟩) (fun _=>?_)
   clear hK K
   try simp only [putS]
   refine tr 17 rfl (fun K hK=>?_)
   try rw [if_pos (by rfl)]
   go_simp
   refine (zl1 (zc8 a b) _ _ _ _ w16_ M1.here M3.here).mono ?_
   rintro e17 w17_ ⟨rfl,hb17⟩
   replace hh1:=(hb17.block _ (zaa hh1)).trans hh1
   replace hh2:=(hb17.block _ (zaa hh2)).trans hh2
   replace hh3:=(hb17.block _ (zaa hh3)).trans hh3
   replace hh4:=(hb17.block _ (zaa hh4)).trans hh4
   replace b1:=zab b1 hb17 b1.size
   replace hG:=hG.below hb17
   replace TA0:=TA0.below hb17
   replace TB0:=TB0.below hb17
   replace T1:=T1.below hb17
   replace T2:=T2.below hb17
   replace M1:=M1.below hb17
   replace M2:=M2.below hb17
   replace M3:=M3.below hb17
   clear hb17
   clear M1 M2 M3
   refine hK.out _ _ (⟨hh1,hh2,hh3,hh4⟩) (fun _=>?_)
   clear hK K
   try simp only [putS]
   refine tg (i:=18) (.bool false) rfl (⟨hh1,hh2,hh3,hh4⟩) ?_
   refine tg (i:=19) (.bool false) rfl (⟨hh1,hh2,hh3,hh4⟩) ?_
   refine tg (i:=20) (.bool false) rfl (⟨hh1,hh2,hh3,hh4⟩) ?_
   refine tg (i:=21) (.pointer (some ⟨g0,0,none⟩)) rfl (⟨hh1,hh2,hh3,hh4⟩) ?_
   refine tg (i:=23) (.pointer (some ⟨g0,2,none⟩)) rfl (⟨hh1,hh2,hh3,hh4⟩) ?_
   refine tg (i:=26) (.pointer (some ⟨g0,0,none⟩)) rfl (⟨hh1,hh2,hh3,hh4⟩) ?_
   refine tk (i:=28) (v:=.agg #[.slice pB b.vars.length kB,.slice qB n lB]) rfl (yieldsIf_load_mid (by rfl) 25 (.tmp 4) rfl g1 0 rfl [.slice pB b.vars.length kB,.slice qB n lB] _ (fun W h=>zb7 h.2.1 0 _ (fun j v hv=>by match j,hv with | 0,e | 1,e=>simpa using e | j+2,e=>simp at e)) Tryz.underlying25 rfl zae) (⟨hh1,hh2,hh3,hh4⟩) ?_
   refine tg (i:=30) (.pointer (some ⟨g0,0,none⟩)) rfl (⟨hh1,hh2,hh3,hh4⟩) ?_
   refine tk (i:=32) (v:=.agg #[.slice pB b.vars.length kB,.slice q2 n2 l2]) rfl (yieldsIf_load_mid (by rfl) 25 (.tmp 5) rfl g2 0 rfl [.slice pB b.vars.length kB,.slice q2 n2 l2] _ (fun W h=>zb7 h.2.2.1 0 _ (fun j v hv=>by match j,hv with | 0,e | 1,e=>simpa using e | j+2,e=>simp at e)) Tryz.underlying25 rfl zae) (⟨hh1,hh2,hh3,hh4⟩) ?_
   refine tk (i:=22) (v:=.agg #[.slice pA a.vars.length kA,.slice qA a.rows.length lA]) rfl (yieldsIf_load_mid (by rfl) 25 (.tmp 61) rfl g0 0 rfl [.slice pA a.vars.length kA,.slice qA a.rows.length lA] _ (fun W h=>zbe h.1 [] ([.slice pB b.vars.length kB,.slice qB b.rows.length lB]++[VV,.int .i64 lang,NN]) rfl) Tryz.underlying25 rfl zae) (⟨hh1,hh2,hh3,hh4⟩) ?_
   refine tk (i:=24) (v:=.agg #[.slice pB b.vars.length kB,.slice qB b.rows.length lB]) rfl (yieldsIf_load_mid (by rfl) 25 (.tmp 63) rfl g0 2 rfl [.slice pB b.vars.length kB,.slice qB b.rows.length lB] _ (fun W h=>zbe h.1 [.slice pA a.vars.length kA,.slice qA a.rows.length lA] [VV,.int .i64 lang,NN] rfl) Tryz.underlying25 rfl zae) (⟨hh1,hh2,hh3,hh4⟩) ?_
   refine tk (i:=27) (v:=.agg #[.slice pA a.vars.length kA,.slice qA a.rows.length lA]) rfl (yieldsIf_load_mid (by rfl) 25 (.tmp 66) rfl g0 0 rfl [.slice pA a.vars.length kA,.slice qA a.rows.length lA] _ (fun W h=>zbe h.1 [] ([.slice pB b.vars.length kB,.slice qB b.rows.length lB]++[VV,.int .i64 lang,NN]) rfl) Tryz.underlying25 rfl zae) (⟨hh1,hh2,hh3,hh4⟩) ?_
   refine tk (i:=31) (v:=.agg #[.slice pA a.vars.length kA,.slice qA a.rows.length lA]) rfl (yieldsIf_load_mid (by rfl) 25 (.tmp 70) rfl g0 0 rfl [.slice pA a.vars.length kA,.slice qA a.rows.length lA] _ (fun W h=>zbe h.1 [] ([.slice pB b.vars.length kB,.slice qB b.rows.length lB]++[VV,.int .i64 lang,NN]) rfl) Tryz.underlying25 rfl zae) (⟨hh1,hh2,hh3,hh4⟩) ?_
   refine tr 25 rfl (fun K hK=>?_)
   try rw [if_pos (by rfl)]
   go_simp
   refine (zsd a b _ _ _ _ w17_ hG TA0.here TB0.here HPO.out.w1 HPO.out.n1).mono ?_
   rintro e25 w25_ h25
   obtain ⟨V25,R25,rfl,hb25,J1⟩:=zb8 h25
   clear h25
   replace hh1:=(hb25.block _ (zaa hh1)).trans hh1
   replace hh2:=(hb25.block _ (zaa hh2)).trans hh2
   replace hh3:=(hb25.block _ (zaa hh3)).trans hh3
   replace hh4:=(hb25.block _ (zaa hh4)).trans hh4
   replace b1:=zab b1 hb25 b1.size
   replace hG:=hG.below hb25
   replace TA0:=TA0.below hb25
   replace TB0:=TB0.below hb25
   replace T1:=T1.below hb25
   replace T2:=T2.below hb25
   clear hb25
   refine hK.out _ _ (⟨hh1,hh2,hh3,hh4⟩) (fun _=>?_)
   clear hK K
   try simp only [putS]
   refine tr 29 rfl (fun K hK=>?_)
   try rw [if_pos (by rfl)]
   go_simp
   refine (zsd a (zcs b) _ _ _ _ w25_ hG TA0.here T1.here HPO.out.w2 HPO.out.n2).mono ?_
   rintro e29 w29_ h29
   obtain ⟨V29,R29,rfl,hb29,J2⟩:=zb8 h29
   clear h29
   replace hh1:=(hb29.block _ (zaa hh1)).trans hh1
   replace hh2:=(hb29.block _ (zaa hh2)).trans hh2
   replace hh3:=(hb29.block _ (zaa hh3)).trans hh3
   replace hh4:=(hb29.block _ (zaa hh4)).trans hh4
   replace b1:=zab b1 hb29 b1.size
   replace hG:=hG.below hb29
   replace TA0:=TA0.below hb29
   replace TB0:=TB0.below hb29
   replace T1:=T1.below hb29
   replace T2:=T2.below hb29
   replace J1:=J1.below hb29
   clear hb29
   refine hK.out _ _ (⟨hh1,hh2,hh3,hh4⟩) (fun _=>?_)
   clear hK K
   try simp only [putS]
   refine tr 33 rfl (fun K hK=>?_)
   try rw [if_pos (by rfl)]
   go_simp
   refine (zsd a (zc0 b) _ _ _ _ w29_ hG TA0.here T2.here HPO.out.w4 HPO.out.n3).mono ?_
   rintro e33 w33_ h33
   obtain ⟨V33,R33,rfl,hb33,J3⟩:=zb8 h33
   clear h33
   replace hh1:=(hb33.block _ (zaa hh1)).trans hh1
   replace hh2:=(hb33.block _ (zaa hh2)).trans hh2
   replace hh3:=(hb33.block _ (zaa hh3)).trans hh3
   replace hh4:=(hb33.block _ (zaa hh4)).trans hh4
   replace b1:=zab b1 hb33 b1.size
   replace hG:=hG.below hb33
   replace TA0:=TA0.below hb33
   replace TB0:=TB0.below hb33
   replace T1:=T1.below hb33
   replace T2:=T2.below hb33
   replace J1:=J1.below hb33
   replace J2:=J2.below hb33
   clear hb33
   refine hK.out _ _ (⟨hh1,hh2,hh3,hh4⟩) (fun _=>?_)
   clear hK K
   try simp only [putS]
   refine tr 34 rfl (fun K hK=>?_)
   try rw [if_pos (by rfl)]
   go_simp
   refine (zlr _ _ _ _ _ _ w33_ hG J2.here J3.here HPO.out.n4).mono ?_
   rintro e34 w34_ h34
   obtain ⟨V34,R34,rfl,hb34,J4⟩:=zb8 h34
   clear h34
   replace hh1:=(hb34.block _ (zaa hh1)).trans hh1
   replace hh2:=(hb34.block _ (zaa hh2)).trans hh2
   replace hh3:=(hb34.block _ (zaa hh3)).trans hh3
   replace hh4:=(hb34.block _ (zaa hh4)).trans hh4
   replace b1:=zab b1 hb34 b1.size
   replace hG:=hG.below hb34
   replace TA0:=TA0.below hb34
   replace TB0:=TB0.below hb34
   replace T1:=T1.below hb34
   replace T2:=T2.below hb34
   replace J1:=J1.below hb34
   replace J2:=J2.below hb34
   replace J3:=J3.below hb34
   clear hb34
   refine hK.out _ _ (⟨hh1,hh2,hh3,hh4⟩) (fun _=>?_)
   clear hK K
   try simp only [putS]
   refine tr 35 rfl (fun K hK=>?_)
   try rw [if_pos (by rfl)]
   go_simp
   refine (zls _ _ _ _ _ _ w34_ hG J1.here J4.here HPO.out.v1 HPO.out.v2).mono ?_
   rintro e35 w35_ ⟨rfl,hb35⟩
   rw [HPO.out.hj]
   replace hh1:=(hb35.block _ (zaa hh1)).trans hh1
   replace hh2:=(hb35.block _ (zaa hh2)).trans hh2
   replace hh3:=(hb35.block _ (zaa hh3)).trans hh3
   replace hh4:=(hb35.block _ (zaa hh4)).trans hh4
   replace b1:=zab b1 hb35 b1.size
   replace hG:=hG.below hb35
   replace TA0:=TA0.below hb35
   replace TB0:=TB0.below hb35
   replace T1:=T1.below hb35
   replace T2:=T2.below hb35
   replace J1:=J1.below hb35
   replace J2:=J2.below hb35
   replace J3:=J3.below hb35
   replace J4:=J4.below hb35
   clear hb35
   clear J1 J2 J3 J4
   refine hK.out _ _ (⟨hh1,hh2,hh3,hh4⟩) (fun _=>?_)
   clear hK K
   try simp only [putS]
   refine tg (i:=36) (.bool false) rfl (⟨hh1,hh2,hh3,hh4⟩) ?_
   refine tg (i:=37) (.bool false) rfl (⟨hh1,hh2,hh3,hh4⟩) ?_
   refine wpAnyH_done (by kernel_rfl) ?_ _
   have u1:=hh1
   clear hh1 hh2 hh3 hh4 T1 T2
   have rA:w35_.rangeAt g0 0 [.slice pA a.vars.length kA,.slice qA a.rows.length lA]:=zbe u1 [] [.slice pB b.vars.length kB,.slice qB b.rows.length lB,VV,.int .i64 lang,NN] rfl
   have rB:w35_.rangeAt g0 2 [.slice pB b.vars.length kB,.slice qB b.rows.length lB]:=zbe u1 [.slice pA a.vars.length kA,.slice qA a.rows.length lA] [VV,.int .i64 lang,NN] rfl
   have HU:=Lib.hid (zlr a b _ _ _ _ w35_ hG TA0.here TB0.here HPO.out.n5)
   go_upto_region 10 with (first
    |((with_reducible refine za3 (.tmp 78) g0 0 25 [.slice pA a.vars.length kA,.slice qA a.rows.length lA] 2 _ rA rfl Tryz.underlying25 rfl zae ?_ ?_ ?_ ?_);rfl;rfl;rfl)
    |((with_reducible refine za3 (.tmp 80) g0 2 25 [.slice pB b.vars.length kB,.slice qB b.rows.length lB] 2 _ rB rfl Tryz.underlying25 rfl zae ?_ ?_ ?_ ?_);rfl;rfl;rfl)
    |(go_at_call 26;(with_reducible refine HU.out.mono ?_);rintro e w9 hu;go_loud (obtain ⟨Vx,Rx,rfl,hb9,TX⟩:=zb8 hu;obtain ⟨px,kx,qx,lx,ex,fx⟩:=TX.slices;subst ex fx;clear hu)))
   obtain ⟨gx,hgx⟩:∃ gx,gx=w9.heap.size:=⟨_,rfl⟩
   obtain ⟨wx,hwx⟩:∃ wx,wx=w9.alloc (.cells #[.slice px (zaw a b).vars.length kx,.slice qx (zaw a b).rows.length lx] 25):=⟨_,rfl⟩
   rw [← hwx,← hgx]
   have b9x:Below w9.heap.size w9 wx:=by rw [hwx];exact zau _ _
   have v1:wx.heap[gx]?=some (.cells #[.slice px (zaw a b).vars.length kx,.slice qx (zaw a b).rows.length lx] 25):=by rw [hwx,hgx];exact zag _ _ rfl
   have bz:=zab hb9 b9x hb9.size
   replace TX:=TX.below b9x
   replace u1:=(bz.block _ (zaa u1)).trans u1
   replace b1:=zab b1 bz b1.size
   replace hG:=hG.below bz
   replace TA0:=TA0.below bz
   replace TB0:=TB0.below bz
   clear bz
   clear b9x hb9 hwx hgx HU rA rB
   have rA:wx.rangeAt g0 0 [.slice pA a.vars.length kA,.slice qA a.rows.length lA]:=zbe u1 [] [.slice pB b.vars.length kB,.slice qB b.rows.length lB,VV,.int .i64 lang,NN] rfl
   have rB:wx.rangeAt g0 2 [.slice pB b.vars.length kB,.slice qB b.rows.length lB]:=zbe u1 [.slice pA a.vars.length kA,.slice qA a.rows.length lA] [VV,.int .i64 lang,NN] rfl
   have HU:=Lib.hid (zlr b a _ _ _ _ wx hG TB0.here TA0.here HPO.out.n6)
   go_upto_region 11 with (first
    |((with_reducible refine za3 (.tmp 85) g0 0 25 [.slice pA a.vars.length kA,.slice qA a.rows.length lA] 2 _ rA rfl Tryz.underlying25 rfl zae ?_ ?_ ?_ ?_);rfl;rfl;rfl)
    |((with_reducible refine za3 (.tmp 83) g0 2 25 [.slice pB b.vars.length kB,.slice qB b.rows.length lB] 2 _ rB rfl Tryz.underlying25 rfl zae ?_ ?_ ?_ ?_);rfl;rfl;rfl)
    |(go_at_call 26;(with_reducible refine HU.out.mono ?_);rintro e w10 hu;go_loud (obtain ⟨Vy,Ry,rfl,hb10,TY⟩:=zb8 hu;obtain ⟨py,ky,qy,ly,ey,fy⟩:=TY.slices;subst ey fy;clear hu)))
   obtain ⟨gy,hgy⟩:∃ gy,gy=w10.heap.size:=⟨_,rfl⟩
   obtain ⟨wy,hwy⟩:∃ wy,wy=w10.alloc (.cells #[.slice py (zaw b a).vars.length ky,.slice qy (zaw b a).rows.length ly] 25):=⟨_,rfl⟩
   rw [← hwy,← hgy]
   have b9x:Below w10.heap.size w10 wy:=by rw [hwy];exact zau _ _
   have v2:wy.heap[gy]?=some (.cells #[.slice py (zaw b a).vars.length ky,.slice qy (zaw b a).rows.length ly] 25):=by rw [hwy,hgy];exact zag _ _ rfl
   have bz:=zab hb10 b9x hb10.size
   replace TY:=TY.below b9x
   replace u1:=(bz.block _ (zaa u1)).trans u1
   replace v1:=(bz.block _ (zaa v1)).trans v1
   replace b1:=zab b1 bz b1.size
   replace hG:=hG.below bz
   replace TA0:=TA0.below bz
   replace TB0:=TB0.below bz
   replace TX:=TX.below bz
   clear bz
   clear b9x hb10 hwy hgy HU rA rB
   refine wp_region_held_drew (S:=fun W'=>W'.heap[g0]?=some (.cells #[.slice pA a.vars.length kA,.slice qA a.rows.length lA,.slice pB b.vars.length kB,.slice qB b.rows.length lB,VV,.int .i64 lang,NN] 28)∧W'.heap[gx]?=some (.cells #[.slice px (zaw a b).vars.length kx,.slice qx (zaw a b).rows.length lx] 25)∧W'.heap[gy]?=some (.cells #[.slice py (zaw b a).vars.length ky,.slice qy (zaw b a).rows.length ly] 25)) (by kernel_rfl) ⟨u1,v1,v2⟩ (fun hh=>?_)
   have hh1:=hh.1
   have hh2:=hh.2.1
   have hh3:=hh.2.2
   clear hh
   have bq:Below wy.heap.size wy wy.drew:=(Below.refl _ _).drew
   replace b1:=zab b1 bq b1.size
   replace hG:=hG.below bq
   replace TA0:=TA0.below bq
   replace TX:=TX.below bq
   replace TY:=TY.below bq
   clear bq u1 v1 v2 TB0
   generalize wy.drew=wD at*
   refine tk (i:=0) (v:=.agg #[.slice px (zaw a b).vars.length kx,.slice qx (zaw a b).rows.length lx]) rfl (yieldsIf_load_mid (by rfl) 25 (.tmp 7) rfl gx 0 rfl [.slice px (zaw a b).vars.length kx,.slice qx (zaw a b).rows.length lx] _ (fun W h=>zb7 h.2.1 0 _ (fun j v hv=>by match j,hv with | 0,e | 1,e=>simpa using e | j+2,e=>simp at e)) Tryz.underlying25 rfl zae) (⟨hh1,hh2,hh3⟩) ?_
   refine tk (i:=1) (v:=.agg #[.slice py (zaw b a).vars.length ky,.slice qy (zaw b a).rows.length ly]) rfl (yieldsIf_load_mid (by rfl) 25 (.tmp 8) rfl gy 0 rfl [.slice py (zaw b a).vars.length ky,.slice qy (zaw b a).rows.length ly] _ (fun W h=>zb7 h.2.2 0 _ (fun j v hv=>by match j,hv with | 0,e | 1,e=>simpa using e | j+2,e=>simp at e)) Tryz.underlying25 rfl zae) (⟨hh1,hh2,hh3⟩) ?_
   refine tg (i:=2) (.pointer (some ⟨gx,0,none⟩)) rfl (⟨hh1,hh2,hh3⟩) ?_
   refine tk (i:=3) (v:=.slice px (zaw a b).vars.length kx) rfl (Or.inl ⟨by rfl,fun W' h=>by have c0:=zac h.2.1 0 rfl;go_simp⟩) (⟨hh1,hh2,hh3⟩) ?_
   refine tr 4 rfl (fun K hK=>?_)
   try rw [if_pos (by rfl)]
   go_simp
   refine (zhg (zaw b a) (zaw a b).vars _ _ _ wD hG TY.here TX.vars TX.cap.1 HPO.out.n7).mono ?_
   rintro e4 w4_ h4
   obtain ⟨V4,R4,rfl,hb4,PX⟩:=zb8 h4
   clear h4
   replace hh1:=(hb4.block _ (zaa hh1)).trans hh1
   replace hh2:=(hb4.block _ (zaa hh2)).trans hh2
   replace hh3:=(hb4.block _ (zaa hh3)).trans hh3
   replace b1:=zab b1 hb4 b1.size
   replace hG:=hG.below hb4
   replace TA0:=TA0.below hb4
   replace TX:=TX.below hb4
   replace TY:=TY.below hb4
   clear hb4
   refine hK.out _ _ (⟨hh1,hh2,hh3⟩) (fun _=>?_)
   clear hK K
   try simp only [putS]
   refine tr 5 rfl (fun K hK=>?_)
   try rw [if_pos (by rfl)]
   go_simp
   refine (zls _ _ _ _ _ _ w4_ hG TX.here PX.here HPO.out.v3 HPO.out.v4).mono ?_
   rintro e5 w5_ ⟨rfl,hb5⟩
   rw [HPO.out.hx]
   replace hh1:=(hb5.block _ (zaa hh1)).trans hh1
   replace hh2:=(hb5.block _ (zaa hh2)).trans hh2
   replace hh3:=(hb5.block _ (zaa hh3)).trans hh3
   replace b1:=zab b1 hb5 b1.size
   replace hG:=hG.below hb5
   replace TA0:=TA0.below hb5
   replace TX:=TX.below hb5
   replace TY:=TY.below hb5
   replace PX:=PX.below hb5
   clear hb5
   clear TX TY PX
   refine hK.out _ _ (⟨hh1,hh2,hh3⟩) (fun _=>?_)
   clear hK K
   try simp only [putS]
   refine tg (i:=6) (.bool false) rfl (⟨hh1,hh2,hh3⟩) ?_
   refine wpAnyH_done (by kernel_rfl) ?_ _
   have u1:=hh1
   have d0:=zac u1 0 rfl
   clear hh1 hh2 hh3
   go_upto_region 14 with fail
   refine wp_region_held_drew (S:=fun W'=>W'.heap[g0]?=some (.cells #[.slice pA a.vars.length kA,.slice qA a.rows.length lA,.slice pB b.vars.length kB,.slice qB b.rows.length lB,VV,.int .i64 lang,NN] 28)) (by kernel_rfl) u1 (fun hh=>?_)
   have bq:Below w5_.heap.size w5_ w5_.drew:=(Below.refl _ _).drew
   replace b1:=zab b1 bq b1.size
   replace hG:=hG.below bq
   replace TA0:=TA0.below bq
   clear bq u1 d0
   generalize w5_.drew=wD at*
   refine tg (i:=0) (.pointer (some ⟨g0,0,none⟩)) rfl (hh) ?_
   refine tg (i:=2) (.pointer (some ⟨g0,0,none⟩)) rfl (hh) ?_
   refine tg (i:=6) (.slice pA m kA) rfl (hh) ?_
   refine tg (i:=8) (.pointer (some ⟨g0,0,none⟩)) rfl (hh) ?_
   refine tg (i:=10) (.slice pA m kA) rfl (hh) ?_
   refine tk (i:=1) (v:=.agg #[.slice pA a.vars.length kA,.slice qA a.rows.length lA]) rfl (yieldsIf_load_mid (by rfl) 25 (.tmp 104) rfl g0 0 rfl [.slice pA a.vars.length kA,.slice qA a.rows.length lA] _ (fun W h=>zbe h [] ([.slice pB b.vars.length kB,.slice qB b.rows.length lB]++[VV,.int .i64 lang,NN]) rfl) Tryz.underlying25 rfl zae) (hh) ?_
   refine tg (i:=3) (.pointer (some ⟨g0,0,none⟩)) rfl (hh) ?_
   refine tk (i:=9) (v:=.agg #[.slice pA a.vars.length kA,.slice qA a.rows.length lA]) rfl (yieldsIf_load_mid (by rfl) 25 (.tmp 112) rfl g0 0 rfl [.slice pA a.vars.length kA,.slice qA a.rows.length lA] _ (fun W h=>zbe h [] ([.slice pB b.vars.length kB,.slice qB b.rows.length lB]++[VV,.int .i64 lang,NN]) rfl) Tryz.underlying25 rfl zae) (hh) ?_
   refine tk (i:=4) (v:=.slice pA a.vars.length kA) rfl (Or.inl ⟨by rfl,fun W' h=>by have c0:=zac h 0 rfl;go_simp⟩) (hh) ?_
   refine tr 5 rfl (fun K hK=>?_)
   try rw [if_pos (by rfl)]
   go_simp
   refine (zhg a a.vars _ _ _ wD hG TA0.here TA0.vars TA0.cap.1 HVN.out.2).mono ?_
   rintro e5 w5_ h5
   obtain ⟨V5,R5,rfl,hb5,P1⟩:=zb8 h5
   clear h5
   replace hh:=(hb5.block _ (zaa hh)).trans hh
   replace b1:=zab b1 hb5 b1.size
   replace hG:=hG.below hb5
   replace TA0:=TA0.below hb5
   clear hb5
   refine hK.out _ _ (hh) (fun _=>?_)
   clear hK K
   try simp only [putS]
   refine tr 7 rfl (fun K hK=>?_)
   try rw [if_pos (by rfl)]
   go_simp
   refine (zhg (zct a a.vars) (zrm a) _ _ _ w5_ hG P1.here (TA0.half m HM.out) (zl6 TA0.cap.1 m hm1) HVN.out.1).mono ?_
   rintro e7 w7_ h7
   obtain ⟨V7,R7,rfl,hb7,P2⟩:=zb8 h7
   clear h7
   rw [HPO.out.hp] at P2
   replace hh:=(hb7.block _ (zaa hh)).trans hh
   replace b1:=zab b1 hb7 b1.size
   replace hG:=hG.below hb7
   replace TA0:=TA0.below hb7
   replace P1:=P1.below hb7
   clear hb7
   refine hK.out _ _ (hh) (fun _=>?_)
   clear hK K
   try simp only [putS]
   refine tr 11 rfl (fun K hK=>?_)
   try rw [if_pos (by rfl)]
   go_simp
   refine (zhg a (zrm a) _ _ _ w7_ hG TA0.here (TA0.half m HM.out) (zl6 TA0.cap.1 m hm1) HVN.out.1).mono ?_
   rintro e11 w11_ h11
   obtain ⟨V11,R11,rfl,hb11,P3⟩:=zb8 h11
   clear h11
   replace hh:=(hb11.block _ (zaa hh)).trans hh
   replace b1:=zab b1 hb11 b1.size
   replace hG:=hG.below hb11
   replace TA0:=TA0.below hb11
   replace P1:=P1.below hb11
   replace P2:=P2.below hb11
   clear hb11
   refine hK.out _ _ (hh) (fun _=>?_)
   clear hK K
   try simp only [putS]
   refine tr 12 rfl (fun K hK=>?_)
   try rw [if_pos (by rfl)]
   go_simp
   refine (zl1 _ _ _ _ _ w11_ P2.here P3.here).mono ?_
   rintro e12 w12_ ⟨rfl,hb12⟩
   replace hh:=(hb12.block _ (zaa hh)).trans hh
   replace b1:=zab b1 hb12 b1.size
   replace hG:=hG.below hb12
   replace TA0:=TA0.below hb12
   replace P1:=P1.below hb12
   replace P2:=P2.below hb12
   replace P3:=P3.below hb12
   clear hb12
   clear P1 P2 P3
   refine hK.out _ _ (hh) (fun _=>?_)
   clear hK K
   try simp only [putS]
   refine tg (i:=13) (.bool true) rfl (hh) ?_
   refine tg (i:=14) (.pointer (some ⟨g0,0,none⟩)) rfl (hh) ?_
   refine tg (i:=16) (.pointer (some ⟨g0,0,none⟩)) rfl (hh) ?_
   refine tg (i:=20) (.pointer (some ⟨g0,0,none⟩)) rfl (hh) ?_
   refine tk (i:=15) (v:=.agg #[.slice pA a.vars.length kA,.slice qA a.rows.length lA]) rfl (yieldsIf_load_mid (by rfl) 25 (.tmp 118) rfl g0 0 rfl [.slice pA a.vars.length kA,.slice qA a.rows.length lA] _ (fun W h=>zbe h [] ([.slice pB b.vars.length kB,.slice qB b.rows.length lB]++[VV,.int .i64 lang,NN]) rfl) Tryz.underlying25 rfl zae) (hh) ?_
   refine tk (i:=17) (v:=.agg #[.slice pA a.vars.length kA,.slice qA a.rows.length lA]) rfl (yieldsIf_load_mid (by rfl) 25 (.tmp 120) rfl g0 0 rfl [.slice pA a.vars.length kA,.slice qA a.rows.length lA] _ (fun W h=>zbe h [] ([.slice pB b.vars.length kB,.slice qB b.rows.length lB]++[VV,.int .i64 lang,NN]) rfl) Tryz.underlying25 rfl zae) (hh) ?_
   refine tk (i:=21) (v:=.agg #[.slice pA a.vars.length kA,.slice qA a.rows.length lA]) rfl (yieldsIf_load_mid (by rfl) 25 (.tmp 124) rfl g0 0 rfl [.slice pA a.vars.length kA,.slice qA a.rows.length lA] _ (fun W h=>zbe h [] ([.slice pB b.vars.length kB,.slice qB b.rows.length lB]++[VV,.int .i64 lang,NN]) rfl) Tryz.underlying25 rfl zae) (hh) ?_
   refine tr 18 rfl (fun K hK=>?_)
   try rw [if_pos (by rfl)]
   go_simp
   refine (zlr a a _ _ _ _ w12_ hG TA0.here TA0.here HPO.out.n8).mono ?_
   rintro e18 w18_ h18
   obtain ⟨V18,R18,rfl,hb18,U1⟩:=zb8 h18
   clear h18
   replace hh:=(hb18.block _ (zaa hh)).trans hh
   replace b1:=zab b1 hb18 b1.size
   replace hG:=hG.below hb18
   replace TA0:=TA0.below hb18
   clear hb18
   refine hK.out _ _ (hh) (fun _=>?_)
   clear hK K
   try simp only [putS]
   refine tr 19 rfl (fun K hK=>?_)
   try rw [if_pos (by rfl)]
   go_simp
   refine (zmx _ _ _ w18_ hG U1.here HPO.out.v5).mono ?_
   rintro e19 w19_ h19
   obtain ⟨V19,R19,rfl,hb19,D1⟩:=zb8 h19
   clear h19
   replace hh:=(hb19.block _ (zaa hh)).trans hh
   replace b1:=zab b1 hb19 b1.size
   replace hG:=hG.below hb19
   replace TA0:=TA0.below hb19
   replace U1:=U1.below hb19
   clear hb19
   refine hK.out _ _ (hh) (fun _=>?_)
   clear hK K
   try simp only [putS]
   refine tr 22 rfl (fun K hK=>?_)
   try rw [if_pos (by rfl)]
   go_simp
   refine (zmx a _ _ w19_ hG TA0.here HPO.out.v6).mono ?_
   rintro e22 w22_ h22
   obtain ⟨V22,R22,rfl,hb22,D2⟩:=zb8 h22
   clear h22
   replace hh:=(hb22.block _ (zaa hh)).trans hh
   replace b1:=zab b1 hb22 b1.size
   replace hG:=hG.below hb22
   replace TA0:=TA0.below hb22
   replace U1:=U1.below hb22
   replace D1:=D1.below hb22
   clear hb22
   refine hK.out _ _ (hh) (fun _=>?_)
   clear hK K
   try simp only [putS]
   refine tr 23 rfl (fun K hK=>?_)
   try rw [if_pos (by rfl)]
   go_simp
   refine (zls _ _ _ _ _ _ w22_ hG D1.here D2.here HPO.out.v7 HPO.out.v8).mono ?_
   rintro e23 w23_ ⟨rfl,hb23⟩
   rw [HPO.out.hd]
   replace hh:=(hb23.block _ (zaa hh)).trans hh
   replace b1:=zab b1 hb23 b1.size
   replace hG:=hG.below hb23
   replace TA0:=TA0.below hb23
   replace U1:=U1.below hb23
   replace D1:=D1.below hb23
   replace D2:=D2.below hb23
   clear hb23
   clear U1 D1 D2
   refine hK.out _ _ (hh) (fun _=>?_)
   clear hK K
   try simp only [putS]
   refine tg (i:=24) (.bool true) rfl (hh) ?_
   refine tg (i:=25) (.bool true) rfl (hh) ?_
   refine tr 26 rfl (fun K hK=>?_)
   try rw [if_pos (by rfl)]
   go_simp
   refine (HWK.out _ b1).mono ?_
   rintro e26 w26_ ⟨rfl,hb26⟩
   replace hh:=(hb26.block _ (zaa hh)).trans hh
   replace b1:=zab b1 hb26 b1.size
   replace hG:=hG.below hb26
   replace TA0:=TA0.below hb26
   clear hb26
   refine hK.out _ _ (hh) (fun _=>?_)
   clear hK K
   try simp only [putS]
   refine tg (i:=27) (.bool true) rfl (hh) ?_
   refine tg (i:=28) (.bool true) rfl (hh) ?_
   refine wpAnyH_done (by kernel_rfl) ?_ _
   go_wp2_with fail
   go_ret
   exact ⟨rfl,b1⟩
end Go.Proofs.YteclpnfckjfibaaGreatDoor
