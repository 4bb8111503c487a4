/- Texts of one kind, one behind the other: each says ahead of itself what it shows. -/
import Derived.Test.YteclpnfckjfibaaGreatDoorAai
import Derived.Test.YteclpnfckjfibaaGreatDoorAbb
import Derived.Test.YteclpnfckjfibaaGreatDoorAas
import Derived.Test.YteclpnfckjfibaaGreatDoorAah
import Derived.Test.YteclpnfckjfibaaGreatDoorAak
/- EQT -/
namespace Go.Proofs.YteclpnfckjfibaaGreatDoor
open Go.RowKit
def YesB (W:World) (e:Ending) (w':World):Prop:=e=.returned (.bool true)∧Below W.heap.size W w'
set_option maxHeartbeats 1600000 in
set_option maxRecDepth 20000 in
theorem zqh (V U:Value) (ts:List ByteArray) (P Q:Nat→Prop) (W:World) (h1:zah zax W P V ts) (h2:zah zax W Q U ts) (hP:∀ g,P g→g < W.heap.size) (hQ:∀ g,Q g→g < W.heap.size) (hn:ts.length≤2097152):Calls Tryz.prog 50 #[V,U] W (YesB W):=by
 obtain ⟨p1,c1,rfl⟩:=h1.slice
 obtain ⟨p2,c2,rfl⟩:=h2.slice
 obtain ⟨n,hl⟩:∃ n,n=ts.length:=⟨_,rfl⟩
 rw [← hl]
 rw [← hl] at hn
 have H1:=Lib.hid (h1.stays (P':=P) (fun g hg=>⟨hg,rfl⟩:zd3 P P W W))
 have H2:=Lib.hid h2
 have HP:=Lib.hid hP
 have HQ:=Lib.hid hQ
 have HL:=Lib.hid hl
 clear h1 h2 hl hP hQ
 go_enter Tryz.func50,Tryz.ntmps50
 go_wp2_with fail
 go_loopg [5] n (fun gg s5 wr=>∃ j:Nat,j+gg=n∧s5=.int .i64 j∧Hid (Below W.heap.size W wr))
 case atStart=>exact ⟨0,by omega,rfl,Lib.hid (Below.refl _ _)⟩
 case round=>
  obtain ⟨j,hjg,rfl,HB⟩:=hrel
  by_cases hj:(j:Int) < n
  ·have hj1:j < ts.length:=by have:=HL.out;omega
   obtain ⟨g1,o1,cc1,d1,e1,hg1,hr1,hra1⟩:=H1.out.at_ j hj1
   obtain ⟨g2,o2,cc2,d2,e2,hg2,hr2,hra2⟩:=H2.out.at_ j hj1
   injection e1 with e11 e12 e13
   injection e2 with e21 e22 e23
   subst e11 e21
   obtain ⟨rfl,_⟩:=hr1
   obtain ⟨rfl,_⟩:=hr2
   obtain ⟨x,hx⟩:∃ x,x=ts[j]:=⟨_,rfl⟩
   have k1:wr.cell? ⟨g1,o1+j,none⟩=some (.string x):=by
    have h:=hra1 0 _ rfl
    rw [hx]
    exact zbj (by simpa [zax] using h) HB.out
   have k2:wr.cell? ⟨g2,o2+j,none⟩=some (.string x):=by
    have h:=hra2 0 _ rfl
    rw [hx]
    exact zbj (by simpa [zax] using h) HB.out
   clear hra1 hra2 hx hg1 hg2 e12 e13 e22 e23
   go_upto_region 6 with fail
   go_quiet (fail)
   have HB2:=Lib.hid (HB.out.trans (zeo (Below.refl _ wr) nq |>.mono HB.out.size))
   clear k1 k2 HB
   generalize wr.drewN nq=w9 at*
   go_wp2_with fail
   go_roundg (gk - 1)
   case measure=>omega
   case rel=>exact ⟨j+1,by omega,by go_num,HB2⟩
  ·go_wp2_with fail
   go_ret
   exact ⟨rfl,HB.out⟩
theorem zt4 (l:List Val):∀ v∈l,zrn v:=zl0 l
theorem zyw (l:List Val) (V U:Value) (P Q:Nat→Prop) (W:World) (h1:zah valE W P V l) (h2:zah valE W Q U l) (hn:l.length≤2097152):Calls Tryz.prog 60 #[V,U] W (YesB W):=by
 have k1:=zbf.held l (zci l h1)
 have k2:=zbf.held l (zci l h2)
 obtain ⟨p1,c1,rfl⟩:=h1.slice
 obtain ⟨p2,c2,rfl⟩:=h2.slice
 have h:=zwz l l p1 p2 c1 c2 W k1 k2 hn (zt4 l)
 rw [zew,beq_self_eq_true] at h
 exact h
set_option maxHeartbeats 3200000 in
set_option maxRecDepth 20000 in
theorem zyx (V U:Value) (l:List (List Val)) (W:World) (h1:zah rowE W (Old W) V l) (h2:zah rowE W (Old W) U l) (hn:l.length≤2097152):Calls Tryz.prog 82 #[V,U] W (YesB W):=by
 obtain ⟨p1,c1,rfl⟩:=h1.slice
 obtain ⟨p2,c2,rfl⟩:=h2.slice
 obtain ⟨n,hl⟩:∃ n,n=l.length:=⟨_,rfl⟩
 rw [← hl]
 rw [← hl] at hn
 have H1:=Lib.hid h1
 have H2:=Lib.hid h2
 have HL:=Lib.hid hl
 clear h1 h2 hl
 go_enter Tryz.func82,Tryz.ntmps82
 go_wp2_with fail
 go_loopg [5] n (fun gg s5 wr=>∃ j:Nat,j+gg=n∧s5=.int .i64 j∧Hid (Below W.heap.size W wr))
 case atStart=>exact ⟨0,by omega,rfl,Lib.hid (Below.refl _ _)⟩
 case round=>
  obtain ⟨j,hjg,rfl,HB⟩:=hrel
  by_cases hj:(j:Int) < n
  ·have hj1:j < l.length:=by have:=HL.out;omega
   obtain ⟨g1,o1,cc1,d1,e1,hg1,hr1,hra1⟩:=(H1.out.stays (zad HB.out)).at_ j hj1
   obtain ⟨g2,o2,cc2,d2,e2,hg2,hr2,hra2⟩:=(H2.out.stays (zad HB.out)).at_ j hj1
   injection e1 with e11 e12 e13
   injection e2 with e21 e22 e23
   subst e11 e21
   obtain ⟨x,hx⟩:∃ x,x=l[j]:=⟨_,rfl⟩
   rw [← hx] at hr1 hr2
   obtain ⟨u1,rfl,hu1,_,hlu⟩:=hr1
   obtain ⟨u2,rfl,hu2,_,_⟩:=hr2
   have k1:wr.cell? ⟨g1,o1+j,none⟩=some u1:=by
    have h:=hra1 0 _ rfl
    simpa [rowE] using h
   have k2:wr.cell? ⟨g2,o2+j,none⟩=some u2:=by
    have h:=hra2 0 _ rfl
    simpa [rowE] using h
   obtain ⟨q1,f1,rfl⟩:=hu1.slice
   obtain ⟨q2,f2,rfl⟩:=hu2.slice
   have HC:Hid (∀ w',Below wr.heap.size wr w'→Calls Tryz.prog 60 #[.slice q1 x.length f1,.slice q2 x.length f2] w' (YesB w')):=Lib.hid fun w' b=>zyw x _ _ _ _ w' (hu1.stays (zad b)) (hu2.stays (zad b)) hlu
   clear hra1 hra2 hx hg1 hg2 e12 e13 e22 e23 hu1 hu2
   have hB:=HB.out
   clear HB
   go_upto_region 6 with fail
   refine wp_region_held_drew (S:=fun W'=>W'.cell? ⟨g1,o1+j,none⟩=some (.slice q1 x.length f1)∧W'.cell? ⟨g2,o2+j,none⟩=some (.slice q2 x.length f2)) (by kernel_rfl) ⟨k1,k2⟩ (fun hh=>?_)
   have hh1:=hh.1
   have hh2:=hh.2
   clear hh k1 k2
   replace hB:=hB.drew
   have bq:Below wr.heap.size wr wr.drew:=(Below.refl _ _).drew
   generalize wr.drew=wD at*
   refine tg (i:=0) (.slice (some ⟨g1,o1,none⟩) n c1) rfl (⟨hh1,hh2⟩) ?_
   refine tg (i:=1) (.int .i64 (j:Int)) rfl (⟨hh1,hh2⟩) ?_
   refine tg (i:=4) (.slice (some ⟨g2,o2,none⟩) n c2) rfl (⟨hh1,hh2⟩) ?_
   refine tg (i:=5) (.int .i64 (j:Int)) rfl (⟨hh1,hh2⟩) ?_
   refine tg (i:=2) (.pointer (some ⟨g1,o1+j,none⟩)) rfl (⟨hh1,hh2⟩) ?_
   refine tg (i:=6) (.pointer (some ⟨g2,o2+j,none⟩)) rfl (⟨hh1,hh2⟩) ?_
   refine tk (i:=3) (v:=.slice q1 x.length f1) rfl (Or.inl ⟨by rfl,fun W' h=>by have c0:=h.1;go_simp⟩) (⟨hh1,hh2⟩) ?_
   refine tk (i:=7) (v:=.slice q2 x.length f2) rfl (Or.inl ⟨by rfl,fun W' h=>by have c0:=h.2;go_simp⟩) (⟨hh1,hh2⟩) ?_
   refine tr 8 rfl (fun K hK=>?_)
   try rw [if_pos (by rfl)]
   go_simp
   refine (HC.out _ bq).mono ?_
   rintro e0 w8 ⟨rfl,hb8⟩
   replace hh1:=zbj hh1 hb8
   replace hh2:=zbj hh2 hb8
   have hB8:=hB.trans (hb8.mono hB.size)
   refine hK.out _ _ (⟨hh1,hh2⟩) (fun _=>?_)
   clear hK K
   try simp only [putS]
   refine tg (i:=9) (.bool false) rfl (⟨hh1,hh2⟩) ?_
   refine wpAnyH_done (by kernel_rfl) ?_ _
   have HB8:=Lib.hid hB8
   clear hB hB8 bq hh1 hh2 HC hb8
   go_wp2_with fail
   go_roundg (gk - 1)
   case measure=>omega
   case rel=>exact ⟨j+1,by omega,by go_num,HB8⟩
  ·go_wp2_with fail
   go_ret
   exact ⟨rfl,HB.out⟩
set_option maxHeartbeats 3200000 in
set_option maxRecDepth 20000 in
theorem zl1 (t:TabL) (V R V2 R2:Value) (W0:World) (h:tabE.rel W0 (Old W0) [V,R] t) (h2:tabE.rel W0 (Old W0) [V2,R2] t):Calls Tryz.prog 28 #[.agg #[V,R],.agg #[V2,R2]] W0 (YesB W0):=by
 obtain ⟨V',R',e,hv,hr,hcv,hcr,hlv,hlr⟩:=h
 cases e
 obtain ⟨V',R',e,hv2,hr2,hcv2,hcr2,_,_⟩:=h2
 cases e
 obtain ⟨p1,c1,rfl⟩:=hv.slice
 obtain ⟨p2,c2,rfl⟩:=hr.slice
 obtain ⟨p3,c3,rfl⟩:=hv2.slice
 obtain ⟨p4,c4,rfl⟩:=hr2.slice
 obtain ⟨W1,hW1⟩:∃ W1,W1=(W0.alloc (.cells #[.slice p1 t.vars.length c1,.slice p2 t.rows.length c2] 25)).alloc (.cells #[.slice p3 t.vars.length c3,.slice p4 t.rows.length c4] 25):=⟨_,rfl⟩
 have b1:Below W0.heap.size W0 W1:=by rw [hW1];exact zc1 _ _ _
 have s1:W0.heap.size+1 < W1.heap.size:=by rw [hW1];simp
 have u2:W1.heap[W0.heap.size]?=some (.cells #[.slice p1 t.vars.length c1,.slice p2 t.rows.length c2] 25):=by rw [hW1];exact zao _ (zag _ _ rfl)
 have u3:W1.heap[W0.heap.size+1]?=some (.cells #[.slice p3 t.vars.length c3,.slice p4 t.rows.length c4] 25):=by rw [hW1];exact zag _ _ (by simp)
 have HC1:=Lib.hid (zqh _ _ t.vars (Old W1) (Old W1) W1 (hv.stays (zad b1)) (hv2.stays (zad b1)) (fun _ h=>h) (fun _ h=>h) hlv)
 have HC2:Hid (∀ w',Below W1.heap.size W1 w'→Calls Tryz.prog 82 #[.slice p2 t.rows.length c2,.slice p4 t.rows.length c4] w' (YesB w')):=Lib.hid fun w' b=>zyx _ _ t.rows w' (hr.stays (zad (zab b1 b b1.size))) (hr2.stays (zad (zab b1 b b1.size))) hlr
 have HW:=Lib.hid hW1
 have HB1:=Lib.hid b1
 have a0:=zac u2 0 rfl
 have a1:=zac u3 0 rfl
 clear hv hr hv2 hr2 hcv hcr hcv2 hcr2 hW1 b1
 go_enter Tryz.func28,Tryz.ntmps28
 go_upto_region 1 with fail
 rw [← HW.out]
 go_wp2_with (first
  |(go_at_call 50;(with_reducible refine HC1.out.mono ?_);rintro e w1 ⟨rfl,hb1⟩;replace u2:=(hb1.block _ (zaa u2)).trans u2;replace u3:=(hb1.block _ (zaa u3)).trans u3;have a2:=zac u2 1 rfl;have a3:=zac u3 1 rfl)
  |(go_at_call 82;(with_reducible refine (HC2.out _ hb1).mono ?_);rintro e w2 ⟨rfl,hb2⟩))
 go_ret
 exact ⟨rfl,zab HB1.out (hb1.trans (hb2.mono hb1.size)) HB1.out.size⟩
end Go.Proofs.YteclpnfckjfibaaGreatDoor

/- LT -/
namespace Go.Proofs.YteclpnfckjfibaaGreatDoor
open Go.RowKit
structure zcu (w:World) (V R:Value) (t:TabL):Prop where
 at_:∀ w',Below w.heap.size w w'→tabE.rel w' (Old w') [V,R] t
theorem zcu.here {w:World} {V R:Value} {t:TabL} (h:zcu w V R t):tabE.rel w (Old w) [V,R] t:=h.at_ w (Below.refl _ _)
theorem zcu.below {w w':World} {V R:Value} {t:TabL} (h:zcu w V R t) (b:Below w.heap.size w w'):zcu w' V R t:=⟨fun w2 b2=>h.at_ w2 (zab b b2 b.size)⟩
theorem zcu.of {w:World} {V R:Value} {t:TabL} (h:tabE.rel w (Old w) [V,R] t):zcu w V R t:=⟨fun _ b=>tabE.stays (zad b) h⟩
theorem zqi {u a b:Value} (h:u.cells=[a,b].toArray):u=.agg #[a,b]:=by
 cases u
 case agg cs=>exact congrArg Value.agg h
 all_goals
  have:=congrArg Array.size h
  simp [Value.cells] at this
theorem zb8 {t:TabL} {W:World} {e:Ending} {w':World} (h:zbr tabE t W e w'):∃ V R,e=.returned (.agg #[V,R])∧Below W.heap.size W w'∧zcu w' V R t:=by
 obtain ⟨u,c,rfl,hu,hr,hb⟩:=h
 obtain ⟨V,R,rfl,hr2⟩:=id hr
 have e:=zqi hu
 subst e
 refine ⟨V,R,rfl,hb,⟨fun w2 b=>tabE.stays (fun g hg=>⟨?_,b.block g hg.2⟩) hr⟩⟩
 exact Nat.lt_of_lt_of_le hg.2 b.size
theorem zcu.one {w:World} {V R:Value} {t:TabL} (h:zcu w V R t):V.oneCell'=true∧R.oneCell'=true:=⟨tabE.one h.here V (by simp),tabE.one h.here R (by simp)⟩
end Go.Proofs.YteclpnfckjfibaaGreatDoor

/- WK -/
namespace Go.Proofs.YteclpnfckjfibaaGreatDoor
open Go.RowKit
def numC (n:Int):Val:=.mk 2 false n ⟨#[]⟩ ⟨#[]⟩ []
def numL (n:Int):List Value:=[.int .i64 2,.bool false,.int .i64 n,.string ⟨#[]⟩,.string ⟨#[]⟩,.slice none 0 0]
theorem zib (n:Int) (h0:0≤n) (h1:n≤100) (W:World) (P:Nat→Prop):zdn W P (numL n) (numC n):=
 ⟨_,rfl,⟨by decide,by decide,by decide,by omega,by omega⟩,by unfold zbf;exact ⟨_,_,rfl⟩⟩
theorem zyy (W:World) (P:Nat→Prop):zdn W P [.int .i64 0,.bool false,.int .i64 0,.string ⟨#[]⟩,.string ⟨#[]⟩,.slice none 0 0] zfz:=
 ⟨_,rfl,⟨by decide,by decide,by decide,by decide,by decide⟩,by unfold zbf;exact ⟨_,_,rfl⟩⟩
set_option maxHeartbeats 1600000 in
theorem zyz (n:Int) (h0:0≤n) (h1:n≤100) (W:World):Calls Tryz.prog 49 #[.int .i64 n] W fun e w'=>e=.returned (.agg #[.int .i64 2,.bool false,.int .i64 n,.string ⟨#[]⟩,.string ⟨#[]⟩,.slice none 0 0])∧Below W.heap.size W w':=by
 obtain ⟨W1,hW1⟩:∃ W1,W1=W.alloc (.cells #[.int .i64 0,.bool false,.int .i64 0,.string ⟨#[]⟩,.string ⟨#[]⟩,.slice none 0 0] 48):=⟨_,rfl⟩
 have b1:Below W.heap.size W W1:=by rw [hW1];exact zau _ _
 have u1:W1.heap[W.heap.size]?=some (.cells #[.int .i64 0,.bool false,.int .i64 0,.string ⟨#[]⟩,.string ⟨#[]⟩,.slice none 0 0] 48):=by rw [hW1];exact zag _ _ rfl
 have HW:=Lib.hid hW1
 have HB:=Lib.hid b1
 have HO:Hid (∀ u∈[Value.int .i64 2,.bool false,.int .i64 n,.string ⟨#[]⟩,.string ⟨#[]⟩,.slice none 0 0],u.oneCell'=true):=Lib.hid (valE.one (show valE.rel W (Old W) (numL n) (numC n) from zib n h0 h1 W (Old W)))
 clear hW1 b1
 go_enter Tryz.func49,Tryz.ntmps49
 go_upto_region 1 with fail
 rw [← HW.out]
 go_wp2_with (first
  |((with_reducible refine zap (.tmp 2) (.tmp 4) W.heap.size 48 48 _ [.int .i64 2,.bool false,.int .i64 n,.string ⟨#[]⟩,.string ⟨#[]⟩,.slice none 0 0] 6 u1 rfl ?_ ?_ ?_ ?_ zam rfl HO.out ?_);rfl;rfl;rfl;rfl;intro wX oX vX))
 exact bodyPost_ret (results_cell_row (p:=2) (ty:=48) Tryz.results49 _ _ W.heap.size 48 _ (0,0) _ rfl vX Tryz.underlying48 rfl zam) rfl ⟨rfl,zaj HB.out oX (Nat.le_refl _) HB.out.size⟩
theorem zc3 {α:Type} {E:Elem α} {w:World} {P:Nat→Prop} {g:Nat} {c:Array Value} {t:TypeId} {l:List α} (h:w.heap[g]?=some (.cells c t)) (hP:P g) (hr:RowE E w P c.toList l) (n:Nat) (hn:n=l.length):zah E w P (.slice (some ⟨g,0,none⟩) n n) l:=
 ⟨_,_,by rw [hn],fun _=>⟨g,0,c.toList,rfl,hP,zb7 h 0 _ (fun j u hu=>by rw [Nat.zero_add];simpa using hu),hr⟩⟩
theorem zl2 (w:World) (P:Nat→Prop):(l:List ByteArray)→(∀ x∈l,x.size≤2097152)→RowE zax w P (l.map Value.string) l
 | [],_=>RowE.nil
 | x::r,h=>by
   show RowE zax w P ([Value.string x]++r.map Value.string) ([x]++r)
   exact RowE.append [x] r (RowE.single ⟨rfl,h x (by simp)⟩) (zl2 w P r fun y hy=>h y (by simp [hy]))
theorem zhs (g n:Nat):capK (.slice (some ⟨g,0,none⟩) n n):=⟨fun p m c e=>by cases e;exact Nat.le_refl _,fun m c e=>by cases e⟩
theorem zw0 (w:World) (gv gr g1 g2:Nat) (vs:List ByteArray) (r1 r2:List Val) (c1 c2 cv cr:Array Value) (n m:Nat) (hv:w.heap[gv]?=some (.cells cv 9)) (ev:cv.toList=vs.map Value.string) (hr:w.heap[gr]?=some (.cells cr 43))
 (er:cr=#[.slice (some ⟨g1,0,none⟩) n n,.slice (some ⟨g2,0,none⟩) n n]) (h1:w.heap[g1]?=some (.cells c1 48)) (h2:w.heap[g2]?=some (.cells c2 48)) (e1:RowE valE w (Old w) c1.toList r1) (e2:RowE valE w (Old w) c2.toList r2)
 (l1:n=r1.length) (l2:n=r2.length) (hn:n≤2097152) (hm:m=vs.length) (hm2:m≤2097152) (hvs:∀ x∈vs,x.size≤2097152):zcu w (.slice (some ⟨gv,0,none⟩) m m) (.slice (some ⟨gr,0,none⟩) 2 2) ⟨vs,[r1,r2]⟩:=by
 subst er
 have k1:rowE.rel w (Old w) [.slice (some ⟨g1,0,none⟩) n n] r1:=⟨_,rfl,zc3 h1 (zaa h1) e1 n l1,zhs _ _,by omega⟩
 have k2:rowE.rel w (Old w) [.slice (some ⟨g2,0,none⟩) n n] r2:=⟨_,rfl,zc3 h2 (zaa h2) e2 n l2,zhs _ _,by omega⟩
 exact zcu.of ⟨_,_,rfl,zc3 hv (zaa hv) (by rw [ev];exact zl2 w _ vs hvs) m hm,zc3 hr (zaa hr) (RowE.append (xs:=[_]) (ys:=[_]) [r1] [r2] (RowE.single k1) (RowE.single k2)) 2 rfl,zhs _ _,zhs _ _,by show vs.length≤_;omega,by show 2≤_;omega⟩
theorem zcu.slices {w:World} {V R:Value} {t:TabL} (h:zcu w V R t):∃ p k q l,V=.slice p t.vars.length k∧R=.slice q t.rows.length l:=by
 obtain ⟨_,_,e,hv,hr,_⟩:=h.here
 cases e
 obtain ⟨p,k,e1⟩:=hv.slice
 obtain ⟨q,l,e2⟩:=hr.slice
 exact ⟨p,k,q,l,e1,e2⟩
theorem zcu.vars {w:World} {V R:Value} {t:TabL} (h:zcu w V R t):zah zax w (Old w) V t.vars:=by
 obtain ⟨_,_,e,hv,hr,_⟩:=h.here
 cases e
 exact hv
theorem zcu.cap {w:World} {V R:Value} {t:TabL} (h:zcu w V R t):capK V∧capK R:=by
 obtain ⟨_,_,e,hv,hr,h1,h2,_⟩:=h.here
 cases e
 exact ⟨h1,h2⟩
theorem zcu.rows {w:World} {V R:Value} {t:TabL} (h:zcu w V R t):zah rowE w (Old w) R t.rows:=by
 obtain ⟨_,_,e,hv,hr,_⟩:=h.here
 cases e
 exact hr
def tx:ByteArray:=⟨#[120]⟩
def ty:ByteArray:=⟨#[121]⟩
def tabA:TabL:=⟨[tx],[[numC 1],[zfz]]⟩
def tabB:TabL:=⟨[tx,ty],[[numC 1,numC 2],[numC 3,numC 4]]⟩
def tabJ:TabL:=⟨[tx,ty],[[numC 1,numC 2],[numC 1,numC 2],[numC 3,numC 4]]⟩
theorem zl3 (n:Int):mayP (numC n) 0=true:=by
 unfold numC mayP zcf
 rfl
theorem zw1:zce tx=true:=by decide
theorem name_ty:zce ty=true:=by decide
theorem nd_tx:[tx,ty].Nodup:=by
 rw [List.nodup_cons]
 refine ⟨?_,(List.pairwise_singleton _ _)⟩
 rw [List.mem_singleton]
 intro e
 have:=congrArg bl e
 simp [bl,tx,ty] at this
theorem zl4:tabP tabA=true:=by
 refine zmy (zrd (by decide) (fun x hx=>by rw [List.mem_singleton.1 hx];exact zw1) ((List.pairwise_singleton _ _))) (fun r hr=>?_) (fun r hr v hv=>?_)
 ·simp [tabA] at hr
  rcases hr with rfl | rfl <;> rfl
 ·simp [tabA] at hr
  rcases hr with rfl | rfl
  ·rw [List.mem_singleton.1 hv]
   exact zl3 1
  ·rw [List.mem_singleton.1 hv]
   exact znv
theorem zn7:tabP tabB=true:=by
 refine zmy (zrd (by decide) (fun x hx=>?_) nd_tx) (fun r hr=>?_) (fun r hr v hv=>?_)
 ·simp [tabB] at hx
  rcases hx with rfl | rfl
  ·exact zw1
  ·exact name_ty
 ·simp [tabB] at hr
  rcases hr with rfl | rfl <;> rfl
 ·simp [tabB] at hr
  rcases hr with rfl | rfl
  ·simp at hv
   rcases hv with rfl | rfl
   ·exact zl3 1
   ·exact zl3 2
  ·simp at hv
   rcases hv with rfl | rfl
   ·exact zl3 3
   ·exact zl3 4
theorem zsl:za5 tabA.vars tabB.vars=[(0,0)]:=by decide
theorem srcAB:srcP [tx,ty] tabA.vars tabB.vars=[(0,0),(-1,1)]:=by decide
theorem overAB:zar tabA.vars tabB.vars=[tx,ty]:=by
 unfold zar
 have h1:memB tx tabA.vars=true:=(zes _ _).2 (by simp [tabA])
 have h2:memB ty tabA.vars=false:=by decide
 show tabA.vars++List.filter (fun x=>!memB x tabA.vars) [tx,ty]=[tx,ty]
 rw [List.filter_cons,h1,List.filter_cons,h2]
 rfl
theorem f11 (q:Val):fitB [(0,0)] [numC 1] [numC 1,q]=true:=by
 show ((!((isB (numC 1) && isB (numC 1)) && !zde (numC 1) (numC 1))) && true)=true
 rw [zfs]
 rfl
theorem f12 (q:Val):fitB [(0,0)] [numC 1] [numC 3,q]=false:=by
 show ((!((isB (numC 1) && isB (numC 3)) && !zde (numC 1) (numC 3))) && true)=false
 have:zde (numC 1) (numC 3)=false:=by
  unfold numC zde
  rfl
 rw [this]
 rfl
theorem f2 (q p:Val):fitB [(0,0)] [zfz] [q,p]=true:=by
 show ((!((isB zfz && isB q) && !zde zfz q)) && true)=true
 rw [null_no]
 rfl
theorem zzu:zb5 tabA tabB=tabJ:=by
 rw [zfm zl4 zn7 (by decide),overAB,srcAB,zsl]
 show TabL.mk [tx,ty] _=_
 unfold tabJ
 congr 1
 show zaz [(0,0)] [(0,0),(-1,1)] [[numC 1],[zfz]] [[numC 1,numC 2],[numC 3,numC 4]]=_
 unfold zaz
 rw [List.flatMap_cons,List.flatMap_cons,List.flatMap_nil,zdq,zdq,List.filter_cons,f11,List.filter_cons,f12,List.filter_cons,f2,List.filter_cons,f2]
 rfl
theorem minusAB:(zc8 tabA tabB).rows=[[zfz]]:=by
 rw [zfv zl4 zn7,zsl]
 show List.filter (fun r=>!zeb [(0,0)] r [[numC 1,numC 2],[numC 3,numC 4]]) [[numC 1],[zfz]]=_
 have h1:zeb [(0,0)] [numC 1] [[numC 1,numC 2],[numC 3,numC 4]]=true:=by
  unfold zeb
  rw [List.any_cons,f11]
  rfl
 have h2:zeb [(0,0)] [zfz] [[numC 1,numC 2],[numC 3,numC 4]]=false:=by
  unfold zeb
  rw [List.any_cons,List.any_cons,f2,f2]
  rfl
 rw [List.filter_cons,h1,List.filter_cons,h2]
 rfl
theorem zl5 (n:Int):wOne (numC n)≤381000:=by
 show 1+0+0+0≤381000
 omega
theorem zzv:zbw tabA.rows:=fun r hr v hv=>by
 simp [tabA] at hr
 rcases hr with rfl | rfl
 ·rw [List.mem_singleton.1 hv]
  exact zl5 1
 ·rw [List.mem_singleton.1 hv]
  exact zh8
theorem zzw:zbw tabB.rows:=fun r hr v hv=>by
 simp [tabB] at hr
 rcases hr with rfl | rfl
 ·simp at hv
  rcases hv with rfl | rfl <;> exact zl5 _
 ·simp at hv
  rcases hv with rfl | rfl <;> exact zl5 _
theorem zw2:∀ x∈[tx,ty],x.size≤2097152:=fun x hx=>by
 rcases List.mem_cons.1 hx with rfl | hx
 ·decide
 ·rw [List.mem_singleton.1 hx];decide
theorem sameNum (p:Option Addr) (k:Nat) (p2:Option Addr) (k2:Nat) (W:World):Calls Tryz.prog 39 #[.agg #[.int .i64 2,.bool false,.int .i64 4,.string ⟨#[]⟩,.string ⟨#[]⟩,.slice p 0 k],.agg #[.int .i64 2,.bool false,.int .i64 4,.string ⟨#[]⟩,.string ⟨#[]⟩,.slice p2 0 k2]] W fun e w'=>e=.returned (.bool true)∧Below W.heap.size W w':=by
 have h:=zsk (numC 4) W 2 false 4 ⟨#[]⟩ ⟨#[]⟩ [] p k (numC 4) 2 false 4 ⟨#[]⟩ ⟨#[]⟩ [] p2 k2 rfl rfl (by decide) (by unfold Held;exact ⟨_,_,rfl⟩) (by unfold Held;exact ⟨_,_,rfl⟩)
 rw [zfs] at h
 exact h
set_option maxHeartbeats 6400000 in
set_option maxRecDepth 20000 in
theorem wakesAt (W:World) (hG:Gd W):Calls Tryz.prog 11 #[] W fun e w'=>e=.returned (.bool true)∧Below W.heap.size W w':=by
 have N1:=Lib.hid (zyz 1 (by decide) (by decide))
 have N2:=Lib.hid (zyz 2 (by decide) (by decide))
 have N3:=Lib.hid (zyz 3 (by decide) (by decide))
 have N4:=Lib.hid (zyz 4 (by decide) (by decide))
 go_enter Tryz.func11,Tryz.ntmps11
 go_upto_region 2 with (first
  |(go_at_call 49;(with_reducible refine (N1.out _).mono ?_);rintro e w1 ⟨rfl,hb1⟩))
 obtain ⟨WA,hWA⟩:∃ WA,WA=(((w1.alloc (.cells #[.int .i64 2,.bool false,.int .i64 1,.string ⟨#[]⟩,.string ⟨#[]⟩,.slice none 0 0] 48)).alloc (.cells #[.int .i64 0,.bool false,.int .i64 0,.string ⟨#[]⟩,.string ⟨#[]⟩,.slice none 0 0] 48)).alloc (.cells #[.slice (some ⟨w1.heap.size,0,none⟩) 1 1,.slice (some ⟨w1.heap.size+1,0,none⟩) 1 1] 43)).alloc (.cells #[.slice (some ⟨W.heap.size,0,none⟩) 1 1,.slice (some ⟨w1.heap.size+1+1,0,none⟩) 2 2] 25):=⟨_,rfl⟩
 rw [← hWA]
 have x0:w1.heap[W.heap.size]?=some (.cells #[.string tx] 9):=(hb1.block _ (by simp)).trans (zag _ _ rfl)
 have s1:W.heap.size+1≤w1.heap.size:=by have:=hb1.size;simpa using this
 have ba:Below w1.heap.size w1 WA:=by rw [hWA];exact ((zze _ _ _ _).alloc (by simp;omega) _)
 have sA:WA.heap.size=w1.heap.size+1+1+1+1:=by rw [hWA];simp
 have x1:WA.heap[W.heap.size]?=some (.cells #[.string tx] 9):=(ba.block _ (by omega)).trans x0
 have x2:WA.heap[w1.heap.size]?=some (.cells #[.int .i64 2,.bool false,.int .i64 1,.string ⟨#[]⟩,.string ⟨#[]⟩,.slice none 0 0] 48):=by rw [hWA];exact zao _ (zao _ (zao _ (zag _ _ rfl)))
 have x3:WA.heap[w1.heap.size+1]?=some (.cells #[.int .i64 0,.bool false,.int .i64 0,.string ⟨#[]⟩,.string ⟨#[]⟩,.slice none 0 0] 48):=by rw [hWA];exact zao _ (zao _ (zag _ _ (by simp)))
 have x4:WA.heap[w1.heap.size+1+1]?=some (.cells #[.slice (some ⟨w1.heap.size,0,none⟩) 1 1,.slice (some ⟨w1.heap.size+1,0,none⟩) 1 1] 43):=by rw [hWA];exact zao _ (zag _ _ (by simp))
 obtain ⟨gA,hgA⟩:∃ gA,gA=w1.heap.size+1+1+1:=⟨_,rfl⟩
 have uA:WA.heap[gA]?=some (.cells #[.slice (some ⟨W.heap.size,0,none⟩) 1 1,.slice (some ⟨w1.heap.size+1+1,0,none⟩) 2 2] 25):=by rw [hWA,hgA];exact zag _ _ (by simp)
 rw [← hgA]
 have TA:zcu WA (.slice (some ⟨W.heap.size,0,none⟩) 1 1) (.slice (some ⟨w1.heap.size+1+1,0,none⟩) 2 2) tabA:=zw0 WA _ _ _ _ [tx] [numC 1] [zfz] _ _ _ _ 1 1 x1 rfl x4 rfl x2 x3 (RowE.single (zib 1 (by decide) (by decide) _ _)) (RowE.single (zyy _ _)) rfl rfl (by omega) rfl (by omega) (fun x hx=>by rw [List.mem_singleton.1 hx];decide)
 have bA:Below W.heap.size W WA:=((zau W (.cells #[.string tx] 9)).trans (hb1.mono (by simp))).trans (ba.mono (by omega))
 obtain ⟨RA,hRA⟩:∃ RA,RA=Value.slice (some ⟨w1.heap.size+1+1,0,none⟩) 2 2:=⟨_,rfl⟩
 rw [← hRA] at uA TA
 clear x0 x1 x2 x3 x4 hWA hb1 ba sA s1 hgA hRA
 go_upto_region 3 with (first
  |(go_at_call 49;(with_reducible refine (N1.out _).mono ?_);rintro e wa ⟨rfl,hba⟩)
  |(go_at_call 49;(with_reducible refine (N2.out _).mono ?_);rintro e wb ⟨rfl,hbb⟩)
  |(go_at_call 49;(with_reducible refine (N3.out _).mono ?_);rintro e wc ⟨rfl,hbc⟩)
  |(go_at_call 49;(with_reducible refine (N4.out _).mono ?_);rintro e wd ⟨rfl,hbd⟩))
 obtain ⟨WB,hWB⟩:∃ WB,WB=((wd.alloc (.cells #[.int .i64 2,.bool false,.int .i64 3,.string ⟨#[]⟩,.string ⟨#[]⟩,.slice none 0 0,.int .i64 2,.bool false,.int .i64 4,.string ⟨#[]⟩,.string ⟨#[]⟩,.slice none 0 0] 48)).alloc (.cells #[.slice (some ⟨wb.heap.size,0,none⟩) 2 2,.slice (some ⟨wd.heap.size,0,none⟩) 2 2] 43)).alloc (.cells #[.slice (some ⟨WA.heap.size,0,none⟩) 2 2,.slice (some ⟨wd.heap.size+1,0,none⟩) 2 2] 25):=⟨_,rfl⟩
 rw [← hWB]
 have y0:wa.heap[WA.heap.size]?=some (.cells #[.string tx,.string ty] 9):=(hba.block _ (by simp)).trans (zag _ _ rfl)
 have z1:WA.heap.size+1≤wa.heap.size:=by have:=hba.size;simpa using this
 have z2:=hbb.size
 have y1:=(hbb.block _ (by omega)).trans y0
 have y2:wc.heap[wb.heap.size]?=some (.cells #[.int .i64 2,.bool false,.int .i64 1,.string ⟨#[]⟩,.string ⟨#[]⟩,.slice none 0 0,.int .i64 2,.bool false,.int .i64 2,.string ⟨#[]⟩,.string ⟨#[]⟩,.slice none 0 0] 48):=(hbc.block _ (by simp)).trans (zag _ _ rfl)
 have z3:wb.heap.size+1≤wc.heap.size:=by have:=hbc.size;simpa using this
 have y3:=(hbc.block _ (by simp;omega)).trans (zao _ y1)
 have z4:=hbd.size
 have y4:=(hbd.block _ (by omega)).trans y3
 have y5:=(hbd.block _ (by omega)).trans y2
 have bd:Below wd.heap.size wd WB:=by rw [hWB];exact zze _ _ _ _
 have v1:=(bd.block WA.heap.size (by omega)).trans y4
 have v2:=(bd.block wb.heap.size (by omega)).trans y5
 have v3:WB.heap[wd.heap.size]?=some (.cells #[.int .i64 2,.bool false,.int .i64 3,.string ⟨#[]⟩,.string ⟨#[]⟩,.slice none 0 0,.int .i64 2,.bool false,.int .i64 4,.string ⟨#[]⟩,.string ⟨#[]⟩,.slice none 0 0] 48):=by rw [hWB];exact zao _ (zao _ (zag _ _ rfl))
 have v4:WB.heap[wd.heap.size+1]?=some (.cells #[.slice (some ⟨wb.heap.size,0,none⟩) 2 2,.slice (some ⟨wd.heap.size,0,none⟩) 2 2] 43):=by rw [hWB];exact zao _ (zag _ _ (by simp))
 obtain ⟨gB,hgB⟩:∃ gB,gB=wd.heap.size+1+1:=⟨_,rfl⟩
 have uB:WB.heap[gB]?=some (.cells #[.slice (some ⟨WA.heap.size,0,none⟩) 2 2,.slice (some ⟨wd.heap.size+1,0,none⟩) 2 2] 25):=by rw [hWB,hgB];exact zag _ _ (by simp)
 rw [← hgB]
 have TB:zcu WB (.slice (some ⟨WA.heap.size,0,none⟩) 2 2) (.slice (some ⟨wd.heap.size+1,0,none⟩) 2 2) tabB:=zw0 WB _ _ _ _ [tx,ty] [numC 1,numC 2] [numC 3,numC 4] _ _ _ _ 2 2 v1 rfl v4 rfl v2 v3
  (RowE.append (xs:=numL 1) (ys:=numL 2) [_] [_] (RowE.single (zib 1 (by decide) (by decide) _ _)) (RowE.single (zib 2 (by decide) (by decide) _ _)))
  (RowE.append (xs:=numL 3) (ys:=numL 4) [_] [_] (RowE.single (zib 3 (by decide) (by decide) _ _)) (RowE.single (zib 4 (by decide) (by decide) _ _)))
  rfl rfl (by omega) rfl (by omega) (fun x hx=>by
   rcases List.mem_cons.1 hx with rfl | hx
   ·decide
   ·rw [List.mem_singleton.1 hx];decide)
 have bAB:Below WA.heap.size WA WB:=by
  have q1:Below WA.heap.size WA wa:=(zau WA _).trans (hba.mono (by simp))
  have q2:=q1.trans (hbb.mono (by omega))
  have q3:=(q2.trans ((zau wb (.cells #[.int .i64 2,.bool false,.int .i64 1,.string ⟨#[]⟩,.string ⟨#[]⟩,.slice none 0 0,.int .i64 2,.bool false,.int .i64 2,.string ⟨#[]⟩,.string ⟨#[]⟩,.slice none 0 0] 48)).mono (by omega))).trans (hbc.mono (by simp;omega))
  exact (q3.trans (hbd.mono (by omega))).trans (bd.mono (by omega))
 obtain ⟨VB,hVB⟩:∃ VB,VB=Value.slice (some ⟨WA.heap.size,0,none⟩) 2 2:=⟨_,rfl⟩
 obtain ⟨RB,hRB⟩:∃ RB,RB=Value.slice (some ⟨wd.heap.size+1,0,none⟩) 2 2:=⟨_,rfl⟩
 obtain ⟨VA,hVA⟩:∃ VA,VA=Value.slice (some ⟨W.heap.size,0,none⟩) 1 1:=⟨_,rfl⟩
 rw [← hVB,← hRB] at uB TB
 rw [← hVA] at uA TA
 replace TA:=TA.below bAB
 replace uA:=(bAB.block _ (zaa uA)).trans uA
 have bB:Below W.heap.size W WB:=bA.trans (bAB.mono bA.size)
 have hGB:Gd WB:=hG.below bB
 have n1:(zb5 tabA tabB).rows.length≤2097152:=by rw [zzu];decide
 have HJ:=Lib.hid (zsd tabA tabB _ _ _ _ WB hGB TA.here TB.here (ztw zl4 zn7 zzv zzw) n1)
 have HBB:=Lib.hid bB
 clear hba hbb hbc hbd hWB y0 y1 y2 y3 y4 y5 v1 v2 v3 v4 z1 z2 z3 z4 bd bAB bA hgB hVB hRB hVA bB n1 hG N1 N2 N3
 go_upto_region 4 with (first
  |((with_reducible refine zaf (.tmp 1) gA 25 25 [VA,RA] 2 _ uA rfl Tryz.underlying25 rfl zae ?_ ?_ ?_ ?_);rfl;rfl;rfl)
  |((with_reducible refine zaf (.tmp 2) gB 25 25 [VB,RB] 2 _ uB rfl Tryz.underlying25 rfl zae ?_ ?_ ?_ ?_);rfl;rfl;rfl)
  |(go_at_call 25;go_loud (with_reducible refine HJ.out.mono ?_);rintro e wj hj;obtain ⟨Vj,Rj,rfl,hbj,TJ⟩:=zb8 hj;go_loud (rw [zzu] at TJ;obtain ⟨pj,kj,qj,lj,ej,fj⟩:=TJ.slices;obtain rfl:Vj=.slice pj 2 kj:=ej;obtain rfl:Rj=.slice qj 3 lj:=fj;clear hj)))
 obtain ⟨gJ,hgJ⟩:∃ gJ,gJ=wj.heap.size:=⟨_,rfl⟩
 obtain ⟨W4,hW4⟩:∃ W4,W4=wj.alloc (.cells #[.slice pj 2 kj,.slice qj 3 lj] 25):=⟨_,rfl⟩
 rw [← hW4,← hgJ]
 have b4:Below wj.heap.size wj W4:=by rw [hW4];exact zau _ _
 have uJ:W4.heap[gJ]?=some (.cells #[.slice pj 2 kj,.slice qj 3 lj] 25):=by rw [hW4,hgJ];exact zag _ _ rfl
 have bB4:=zab hbj b4 hbj.size
 replace uA:=(bB4.block _ (zaa uA)).trans uA
 replace uB:=(bB4.block _ (zaa uB)).trans uB
 replace TA:=TA.below bB4
 replace TB:=TB.below bB4
 replace TJ:=TJ.below b4
 have hG:=hGB.below bB4
 have hb4:Below W.heap.size W W4:=HBB.out.trans (bB4.mono HBB.out.size)
 obtain ⟨gr,orr,cr,ccr,e0,hgr,hrr,hrar⟩:=(TJ.rows).at_ 2 (by decide)
 injection e0 with e01 e02 e03
 subst e01
 obtain ⟨u,rfl,hu,_,_⟩:=hrr
 obtain ⟨gv,ov,cv,c6,e1,hgv,hv6,hrav⟩:=hu.at_ 1 (by decide)
 subst e1
 obtain ⟨L6,rfl,_,hL6⟩:=(show zdn W4 (Old W4) c6 (numC 4) from hv6)
 obtain ⟨p6,k6,rfl⟩:∃ p k,L6=.slice p 0 k:=by unfold zbf at hL6;exact hL6
 have ur:W4.cell? ⟨gr,orr+2,none⟩=some (.slice (some ⟨gv,ov,none⟩) 2 cv):=by
  have h:=hrar 0 _ rfl
  exact h
 have uv:W4.rangeAt gv (ov+6) [.int .i64 2,.bool false,.int .i64 4,.string ⟨#[]⟩,.string ⟨#[]⟩,.slice p6 0 k6]:=hrav
 clear hrav hrar hu hgr hgv hL6 hv6 e02 e03 hGB hbj b4 bB4 hW4 hgJ HJ HBB
 refine wp_region_held_drew (S:=fun W'=>W'.heap[gJ]?=some (.cells #[.slice pj 2 kj,.slice (some ⟨gr,orr,none⟩) 3 lj] 25)∧W'.heap[gA]?=some (.cells #[VA,RA] 25)∧W'.heap[gB]?=some (.cells #[VB,RB] 25)∧W'.cell? ⟨gr,orr+2,none⟩=some (.slice (some ⟨gv,ov,none⟩) 2 cv)∧W'.rangeAt gv (ov+6) [.int .i64 2,.bool false,.int .i64 4,.string ⟨#[]⟩,.string ⟨#[]⟩,.slice p6 0 k6]) (by kernel_rfl) ⟨uJ,uA,uB,ur,uv⟩ (fun hh=>?_)
 have hh1:=hh.1
 have hh2:=hh.2.1
 have hh3:=hh.2.2.1
 have hh4:=hh.2.2.2.1
 have hh5:=hh.2.2.2.2
 have bq:Below W4.heap.size W4 W4.drew:=(Below.refl _ _).drew
 replace TA:=TA.below bq
 replace TB:=TB.below bq
 replace TJ:=TJ.below bq
 replace hG:=hG.below bq
 replace hb4:=zab hb4 bq hb4.size
 clear hh uJ uA uB ur uv bq
 generalize W4.drew=wD at*
 refine tg (i:=0) (.pointer (some ⟨gJ,0,none⟩)) rfl (⟨hh1,hh2,hh3,hh4,hh5⟩) ?_
 refine tk (i:=1) (v:=.slice pj 2 kj) rfl (Or.inl ⟨by rfl,fun W' h=>by have c0:=zac h.1 0 rfl;go_simp⟩) (⟨hh1,hh2,hh3,hh4,hh5⟩) ?_
 refine tr 2 rfl (fun K hK=>?_)
 try rw [if_pos (by rfl)]
 go_simp
 have y2:(wD.alloc (.cells #[.string ⟨#[120]⟩,.string ⟨#[121]⟩] 9)).heap[wD.heap.size]?=some (.cells #[.string ⟨#[120]⟩,.string ⟨#[121]⟩] 9):=zag _ _ rfl
 have bz:Below wD.heap.size wD (wD.alloc (.cells #[.string ⟨#[120]⟩,.string ⟨#[121]⟩] 9)):=zau _ _
 replace hh1:=(bz.block _ (zaa hh1)).trans hh1
 replace hh2:=(bz.block _ (zaa hh2)).trans hh2
 replace hh3:=(bz.block _ (zaa hh3)).trans hh3
 replace hh4:=zbj hh4 bz
 replace hh5:=zch hh5 bz
 replace hG:=hG.below bz
 replace hb4:=zab hb4 bz hb4.size
 replace TA:=TA.below bz
 replace TB:=TB.below bz
 replace TJ:=TJ.below bz
 clear bz
 have HE3:=Lib.hid (zqh _ _ [tx,ty] (Old (wD.alloc (.cells #[.string ⟨#[120]⟩,.string ⟨#[121]⟩] 9))) (Old (wD.alloc (.cells #[.string ⟨#[120]⟩,.string ⟨#[121]⟩] 9))) (wD.alloc (.cells #[.string ⟨#[120]⟩,.string ⟨#[121]⟩] 9)) TJ.vars (zc3 (P:=Old (wD.alloc (.cells #[.string ⟨#[120]⟩,.string ⟨#[121]⟩] 9))) y2 (show _ < _ from zaa y2) (zl2 _ (Old (wD.alloc (.cells #[.string ⟨#[120]⟩,.string ⟨#[121]⟩] 9))) [tx,ty] zw2) 2 rfl) (fun _ h=>h) (fun _ h=>h) (by decide))
 clear y2 TJ
 obtain ⟨gx,hgx⟩:∃ gx,gx=wD.heap.size:=⟨_,rfl⟩
 rw [← hgx] at HE3 ⊢
 generalize wD.alloc (.cells #[.string ⟨#[120]⟩,.string ⟨#[121]⟩] 9)=w2 at*
 clear hgx
 refine hK.out _ _ (⟨hh1,hh2,hh3,hh4,hh5⟩) (fun _=>?_)
 clear hK K
 try simp only [putS]
 refine tr 3 rfl (fun K hK=>?_)
 try rw [if_pos (by rfl)]
 go_simp
 refine HE3.out.mono ?_
 rintro e3 w3 ⟨rfl,hb3⟩
 replace hh1:=(hb3.block _ (zaa hh1)).trans hh1
 replace hh2:=(hb3.block _ (zaa hh2)).trans hh2
 replace hh3:=(hb3.block _ (zaa hh3)).trans hh3
 replace hh4:=zbj hh4 hb3
 replace hh5:=zch hh5 hb3
 replace hG:=hG.below hb3
 replace hb4:=zab hb4 hb3 hb4.size
 replace TA:=TA.below hb3
 replace TB:=TB.below hb3
 clear hb3
 clear HE3
 refine hK.out _ _ (⟨hh1,hh2,hh3,hh4,hh5⟩) (fun _=>?_)
 clear hK K
 try simp only [putS]
 refine tg (i:=4) (.bool true) rfl (⟨hh1,hh2,hh3,hh4,hh5⟩) ?_
 refine tg (i:=5) (.pointer (some ⟨gJ,1,none⟩)) rfl (⟨hh1,hh2,hh3,hh4,hh5⟩) ?_
 refine tk (i:=6) (v:=.slice (some ⟨gr,orr,none⟩) 3 lj) rfl (Or.inl ⟨by rfl,fun W' h=>by have c0:=zac h.1 1 rfl;go_simp⟩) (⟨hh1,hh2,hh3,hh4,hh5⟩) ?_
 refine tg (i:=7) (.int .i64 3) rfl (⟨hh1,hh2,hh3,hh4,hh5⟩) ?_
 refine tg (i:=8) (.bool true) rfl (⟨hh1,hh2,hh3,hh4,hh5⟩) ?_
 refine tg (i:=9) (.bool true) rfl (⟨hh1,hh2,hh3,hh4,hh5⟩) ?_
 refine tg (i:=10) (.bool true) rfl (⟨hh1,hh2,hh3,hh4,hh5⟩) ?_
 refine tg (i:=11) (.pointer (some ⟨gJ,1,none⟩)) rfl (⟨hh1,hh2,hh3,hh4,hh5⟩) ?_
 refine tk (i:=12) (v:=.slice (some ⟨gr,orr,none⟩) 3 lj) rfl (Or.inl ⟨by rfl,fun W' h=>by have c0:=zac h.1 1 rfl;go_simp⟩) (⟨hh1,hh2,hh3,hh4,hh5⟩) ?_
 refine tg (i:=13) (.pointer (some ⟨gr,orr+2,none⟩)) rfl (⟨hh1,hh2,hh3,hh4,hh5⟩) ?_
 refine tk (i:=14) (v:=.slice (some ⟨gv,ov,none⟩) 2 cv) rfl (Or.inl ⟨by rfl,fun W' h=>by have c0:=h.2.2.2.1;go_simp⟩) (⟨hh1,hh2,hh3,hh4,hh5⟩) ?_
 refine tg (i:=15) (.pointer (some ⟨gv,ov+6,none⟩)) rfl (⟨hh1,hh2,hh3,hh4,hh5⟩) ?_
 refine tk (i:=16) (v:=.agg #[.int .i64 2,.bool false,.int .i64 4,.string ⟨#[]⟩,.string ⟨#[]⟩,.slice p6 0 k6]) rfl (yieldsIf_load_mid (by rfl) 48 (.tmp 38) rfl gv (ov+6) rfl [.int .i64 2,.bool false,.int .i64 4,.string ⟨#[]⟩,.string ⟨#[]⟩,.slice p6 0 k6] _ (fun W h=>h.2.2.2.2) Tryz.underlying48 rfl zam) (⟨hh1,hh2,hh3,hh4,hh5⟩) ?_
 refine tr 17 rfl (fun K hK=>?_)
 try rw [if_pos (by rfl)]
 go_simp
 refine (N4.out _).mono ?_
 rintro e17 w17 ⟨rfl,hb17⟩
 replace hh1:=(hb17.block _ (zaa hh1)).trans hh1
 replace hh2:=(hb17.block _ (zaa hh2)).trans hh2
 replace hh3:=(hb17.block _ (zaa hh3)).trans hh3
 replace hh4:=zbj hh4 hb17
 replace hh5:=zch hh5 hb17
 replace hG:=hG.below hb17
 replace hb4:=zab hb4 hb17 hb4.size
 replace TA:=TA.below hb17
 replace TB:=TB.below hb17
 clear hb17
 refine hK.out _ _ (⟨hh1,hh2,hh3,hh4,hh5⟩) (fun _=>?_)
 clear hK K
 try simp only [putS]
 refine tr 18 rfl (fun K hK=>?_)
 try rw [if_pos (by rfl)]
 go_simp
 refine (sameNum p6 k6 none 0 w17).mono ?_
 rintro e18 w18 ⟨rfl,hb18⟩
 replace hh1:=(hb18.block _ (zaa hh1)).trans hh1
 replace hh2:=(hb18.block _ (zaa hh2)).trans hh2
 replace hh3:=(hb18.block _ (zaa hh3)).trans hh3
 replace hh4:=zbj hh4 hb18
 replace hh5:=zch hh5 hb18
 replace hG:=hG.below hb18
 replace hb4:=zab hb4 hb18 hb4.size
 replace TA:=TA.below hb18
 replace TB:=TB.below hb18
 clear hb18
 refine hK.out _ _ (⟨hh1,hh2,hh3,hh4,hh5⟩) (fun _=>?_)
 clear hK K
 try simp only [putS]
 refine tg (i:=19) (.bool true) rfl (⟨hh1,hh2,hh3,hh4,hh5⟩) ?_
 refine tg (i:=20) (.bool true) rfl (⟨hh1,hh2,hh3,hh4,hh5⟩) ?_
 refine tk (i:=21) (v:=.agg #[VA,RA]) rfl (yieldsIf_load_mid (by rfl) 25 (.tmp 1) rfl (gA) 0 rfl [VA,RA] _ (fun W h=>zb7 h.2.1 0 _ (fun j v hv=>by match j,hv with | 0,e | 1,e=>simpa using e | j+2,e=>simp at e)) Tryz.underlying25 rfl zae) (⟨hh1,hh2,hh3,hh4,hh5⟩) ?_
 refine tk (i:=22) (v:=.agg #[VB,RB]) rfl (yieldsIf_load_mid (by rfl) 25 (.tmp 2) rfl (gB) 0 rfl [VB,RB] _ (fun W h=>zb7 h.2.2.1 0 _ (fun j v hv=>by match j,hv with | 0,e | 1,e=>simpa using e | j+2,e=>simp at e)) Tryz.underlying25 rfl zae) (⟨hh1,hh2,hh3,hh4,hh5⟩) ?_
 refine tr 23 rfl (fun K hK=>?_)
 try rw [if_pos (by rfl)]
 go_simp
 refine (zns tabA tabB _ _ _ _ w18 hG TA.here TB.here (ztw zl4 zn7 zzv zzw)).mono ?_
 rintro e23 w23 h23
 obtain ⟨Vm,Rm,rfl,hb23,TM⟩:=zb8 h23
 obtain ⟨pm,km,qm,lm,em,fm⟩:=TM.slices
 rw [minusAB] at fm
 obtain rfl:Rm=.slice qm 1 lm:=fm
 clear TM em h23
 replace hh1:=(hb23.block _ (zaa hh1)).trans hh1
 replace hh2:=(hb23.block _ (zaa hh2)).trans hh2
 replace hh3:=(hb23.block _ (zaa hh3)).trans hh3
 replace hh4:=zbj hh4 hb23
 replace hh5:=zch hh5 hb23
 replace hG:=hG.below hb23
 replace hb4:=zab hb4 hb23 hb4.size
 replace TA:=TA.below hb23
 replace TB:=TB.below hb23
 clear hb23
 refine hK.out _ _ (⟨hh1,hh2,hh3,hh4,hh5⟩) (fun _=>?_)
 clear hK K
 try simp only [putS]
 refine tk (i:=24) (v:=.slice qm 1 lm) rfl (Or.inl ⟨by rfl,fun W _=>by go_simp;rfl⟩) (⟨hh1,hh2,hh3,hh4,hh5⟩) ?_
 refine tg (i:=25) (.int .i64 1) rfl (⟨hh1,hh2,hh3,hh4,hh5⟩) ?_
 refine tg (i:=26) (.bool true) rfl (⟨hh1,hh2,hh3,hh4,hh5⟩) ?_
 refine tg (i:=27) (.bool true) rfl (⟨hh1,hh2,hh3,hh4,hh5⟩) ?_
 refine tg (i:=28) (.bool true) rfl (⟨hh1,hh2,hh3,hh4,hh5⟩) ?_
 refine tk (i:=29) (v:=.agg #[VA,RA]) rfl (yieldsIf_load_mid (by rfl) 25 (.tmp 1) rfl (gA) 0 rfl [VA,RA] _ (fun W h=>zb7 h.2.1 0 _ (fun j v hv=>by match j,hv with | 0,e | 1,e=>simpa using e | j+2,e=>simp at e)) Tryz.underlying25 rfl zae) (⟨hh1,hh2,hh3,hh4,hh5⟩) ?_
 refine tr 30 rfl (fun K hK=>?_)
 try rw [if_pos (by rfl)]
 go_simp
 refine (zcx tabA _ _ w23 hG TA.here).mono ?_
 rintro e30 w30 ⟨rfl,hb30⟩
 rw [zl4]
 replace hh1:=(hb30.block _ (zaa hh1)).trans hh1
 replace hh2:=(hb30.block _ (zaa hh2)).trans hh2
 replace hh3:=(hb30.block _ (zaa hh3)).trans hh3
 replace hh4:=zbj hh4 hb30
 replace hh5:=zch hh5 hb30
 replace hG:=hG.below hb30
 replace hb4:=zab hb4 hb30 hb4.size
 replace TA:=TA.below hb30
 replace TB:=TB.below hb30
 clear hb30
 refine hK.out _ _ (⟨hh1,hh2,hh3,hh4,hh5⟩) (fun _=>?_)
 clear hK K
 try simp only [putS]
 refine tg (i:=31) (.bool true) rfl (⟨hh1,hh2,hh3,hh4,hh5⟩) ?_
 refine tg (i:=32) (.bool true) rfl (⟨hh1,hh2,hh3,hh4,hh5⟩) ?_
 refine wpAnyH_done (by kernel_rfl) ?_ _
 go_wp2_with fail
 go_ret
 exact ⟨rfl,hb4⟩
end Go.Proofs.YteclpnfckjfibaaGreatDoor
