/- Texts of one kind, one behind the other: each says ahead of itself what it shows. -/
import Derived.Test.YtcfmenkigolnoaaGreatDoorWao
import Derived.Test.YtcfmenkigolnoaaGreatDoorWae
/- GPL -/
namespace Go.Proofs.YtcfmenkigolnoaaGreatDoor
open Go.RowKit
set_option maxHeartbeats 3200000 in
set_option maxRecDepth 20000 in
theorem map45 (tell:Int→zap) (l:List Int) (v:Value) (bx:Nat) (w:World) (h:zb3 w v l) (hn:l.length≤2097152)
 (each:∀ x∈l,∀ W,Below w.heap.size w W→Calls Tryz.prog 46 #[.int .i64 x,.pointer (some ⟨bx,0,none⟩)] W (zb6 za4 (tell x) W)):
 Calls Tryz.prog 45 #[v,.func (.func 46) #[] #[.pointer (some ⟨bx,0,none⟩)]] w (za9 za4 38 w (l.map tell)):=by
 obtain ⟨n,hln⟩:∃ n,n=l.length:=⟨_,rfl⟩
 obtain ⟨p,cap,rfl,_⟩:=id h
 rw [← hln] at hn
 obtain ⟨i0,hi,hz0,hz1,hz2⟩:=info_parts zf9
 have HL:=Lib.hid hln
 have HH:=Lib.hid h
 have HE:=Lib.hid each
 rw [← hln]
 clear h hln each
 go_enter Tryz.func45,Tryz.ntmps45
 go_wp2_with fail
 go_loopg [5,10] n (fun gg s5 s10 wr=>∃ j:Nat,j+gg=n∧s10=.int .i64 j∧Hid (AccE za4 38 w ((l.take j).map tell) s5 wr))
 case atStart=>exact ⟨0,by omega,rfl,Lib.hid (AccE.start za4 38 w)⟩
 case round=>
  obtain ⟨j,hjg,rfl,HA⟩:=hrel
  by_cases hlt:(j:Int) < n
  ·have hj1:j < l.length:=by have:=HL.out;omega
   have hbel:=HA.out.bel
   obtain ⟨pp,cc,e0,hcv⟩:=HH.out.below hbel
   injection e0 with e1 e2 e3
   subst e1
   obtain ⟨g,off,rfl,hcj⟩:=hcv (by intro q;rw [q] at hj1;simp at hj1)
   obtain ⟨x,hxj⟩:∃ x,x=l[j]:=⟨_,rfl⟩
   have c0:wr.cell? ⟨g,off+j,none⟩=some (.int .i64 x):=by
    rw [hcj j hj1,hxj]
    simp [hj1]
   have hjl:((l.take j).map tell).length=j:=by rw [List.length_map,List.length_take];omega
   have etk:(l.take (j+1)).map tell=(l.take j).map tell++[tell x]:=by rw [List.take_succ_eq_append_getElem hj1,List.map_append,hxj];rfl
   have hbs:=hbel.size
   have bX:Below wr.heap.size wr wr:=Below.refl _ _
   have hcall:=HE.out x (by rw [hxj];exact List.getElem_mem hj1) wr hbel
   have HX:=Lib.hid (And.intro bX hbel)
   have HK:=Lib.hid (And.intro hjl etk)
   clear hcj hcv hjl etk e2 e3 hbel bX hxj
   go_wp2_with (first
    |(go_at_call 46;(with_reducible refine hcall.mono ?_);rintro e w3 ⟨u,c',rfl,hu,hc',b3⟩
      obtain ⟨⟨xs,hown,hrow⟩,hbel⟩:=HA.out
      replace hown:wr.ownsRow w.heap.size 38 3 _ _ xs:=hown
      have hown3:=za2 (za2 hown HX.out.1) b3
      have hlen':c'.length=3:=za4.len hc'
      have hone':=za4.one hc'
      have hsX:=HX.out.1.size
      have hs3:=b3.size
      have HY:=Lib.hid (And.intro hown (And.intro hrow (And.intro hbel (And.intro b3 hc'))))
      clear hown hrow hbel b3 hc' HA hcall)
    |((with_reducible refine zbd ?_ 22 38 (.tmp 17) ?_ u c' ?_ hu i0 _ 3 hlen' (by omega) (by omega) Tryz.underlying22 hi hz0 hz1 ?_);rfl;rfl;rfl)
    |(at_builtin;refine wpList_append_own_at _ rfl _ _ 22 rfl w.heap.size 38 i0 (.agg #[.int .i64 0,.slice none 0 0,.slice none 0 0]) 3 56 Tryz.underlying22 hi hz0 hz1 hz2 rfl (by decide) _ _ _ rfl (hown3.alloc _) ⟨w3.heap.size,0,none⟩ 1 1 c' rfl (by rw [hlen']) (zbp _ _ _) hone' ?_ ?_ ?_ ?_))
   all_goals (try (first |(rw [HK.out.1];unfold maxLen;omega) |(rw [HK.out.1];omega) |(simp;omega)))
   intro v' w5 hown' hgrow _ hloc
   have e9:min j l.length=j:=by omega
   rw [e9] at hown'
   have e10:=hown'
   rw [← HK.out.1] at e10
   have acc:AccE za4 38 w ((l.take (j+1)).map tell) v' w5:=by
    rw [HK.out.2]
    exact AccE.next HY.out.1 HY.out.2.1 HY.out.2.2.1 HX.out.1 HY.out.2.2.2.1 HY.out.2.2.2.2 e10 hgrow (by simpa using hloc)
   have ACC:=Lib.hid acc
   clear acc hown' hgrow hloc hown3 HY HX
   go_wp2_with fail
   go_roundg (gk - 1)
   case measure=>omega
   case rel=>exact ⟨j+1,by omega,by go_num,ACC⟩
  ·have e:l.take j=l:=by rw [List.take_of_length_le];have:=HL.out;omega
   have hA:=HA.out
   rw [e] at hA
   obtain ⟨⟨xs,hown,hrow⟩,hbel⟩:=hA
   have HX:=Lib.hid (And.intro hown (And.intro hrow hbel))
   clear hown hrow hbel HA
   go_wp2_with fail
   go_ret
   exact ⟨_,xs,rfl,HX.out.1,HX.out.2.1,HX.out.2.2⟩
set_option maxHeartbeats 3200000 in
set_option maxRecDepth 20000 in
theorem map48 (tell:Int→zat) (l:List Int) (v:Value) (bx:Nat) (w:World) (h:zb3 w v l) (hn:l.length≤2097152)
 (each:∀ x∈l,∀ W,Below w.heap.size w W→Calls Tryz.prog 49 #[.int .i64 x,.pointer (some ⟨bx,0,none⟩)] W (zb6 zaz (tell x) W)):
 Calls Tryz.prog 48 #[v,.func (.func 49) #[] #[.pointer (some ⟨bx,0,none⟩)]] w (za9 zaz 41 w (l.map tell)):=by
 obtain ⟨n,hln⟩:∃ n,n=l.length:=⟨_,rfl⟩
 obtain ⟨p,cap,rfl,_⟩:=id h
 rw [← hln] at hn
 obtain ⟨i0,hi,hz0,hz1,hz2⟩:=info_parts zi2
 have HL:=Lib.hid hln
 have HH:=Lib.hid h
 have HE:=Lib.hid each
 rw [← hln]
 clear h hln each
 go_enter Tryz.func48,Tryz.ntmps48
 go_wp2_with fail
 go_loopg [5,10] n (fun gg s5 s10 wr=>∃ j:Nat,j+gg=n∧s10=.int .i64 j∧Hid (AccE zaz 41 w ((l.take j).map tell) s5 wr))
 case atStart=>exact ⟨0,by omega,rfl,Lib.hid (AccE.start zaz 41 w)⟩
 case round=>
  obtain ⟨j,hjg,rfl,HA⟩:=hrel
  by_cases hlt:(j:Int) < n
  ·have hj1:j < l.length:=by have:=HL.out;omega
   have hbel:=HA.out.bel
   obtain ⟨pp,cc,e0,hcv⟩:=HH.out.below hbel
   injection e0 with e1 e2 e3
   subst e1
   obtain ⟨g,off,rfl,hcj⟩:=hcv (by intro q;rw [q] at hj1;simp at hj1)
   obtain ⟨x,hxj⟩:∃ x,x=l[j]:=⟨_,rfl⟩
   have c0:wr.cell? ⟨g,off+j,none⟩=some (.int .i64 x):=by
    rw [hcj j hj1,hxj]
    simp [hj1]
   have hjl:((l.take j).map tell).length=j:=by rw [List.length_map,List.length_take];omega
   have etk:(l.take (j+1)).map tell=(l.take j).map tell++[tell x]:=by rw [List.take_succ_eq_append_getElem hj1,List.map_append,hxj];rfl
   have hbs:=hbel.size
   have bX:Below wr.heap.size wr wr:=Below.refl _ _
   have hcall:=HE.out x (by rw [hxj];exact List.getElem_mem hj1) wr hbel
   have HX:=Lib.hid (And.intro bX hbel)
   have HK:=Lib.hid (And.intro hjl etk)
   clear hcj hcv hjl etk e2 e3 hbel bX hxj
   go_wp2_with (first
    |(go_at_call 49;(with_reducible refine hcall.mono ?_);rintro e w3 ⟨u,c',rfl,hu,hc',b3⟩
      obtain ⟨⟨xs,hown,hrow⟩,hbel⟩:=HA.out
      replace hown:wr.ownsRow w.heap.size 41 5 _ _ xs:=hown
      have hown3:=za2 (za2 hown HX.out.1) b3
      have hlen':c'.length=5:=zaz.len hc'
      have hone':=zaz.one hc'
      have hsX:=HX.out.1.size
      have hs3:=b3.size
      have HY:=Lib.hid (And.intro hown (And.intro hrow (And.intro hbel (And.intro b3 hc'))))
      clear hown hrow hbel b3 hc' HA hcall)
    |((with_reducible refine zbd ?_ 23 41 (.tmp 17) ?_ u c' ?_ hu i0 _ 5 hlen' (by omega) (by omega) Tryz.underlying23 hi hz0 hz1 ?_);rfl;rfl;rfl)
    |(at_builtin;refine wpList_append_own_at _ rfl _ _ 23 rfl w.heap.size 41 i0 (.agg #[.int .i64 0,.int .i64 0,.int .i64 0,.string ⟨#[]⟩,.slice none 0 0]) 5 64 Tryz.underlying23 hi hz0 hz1 hz2 rfl (by decide) _ _ _ rfl (hown3.alloc _) ⟨w3.heap.size,0,none⟩ 1 1 c' rfl (by rw [hlen']) (zbp _ _ _) hone' ?_ ?_ ?_ ?_))
   all_goals (try (first |(rw [HK.out.1];unfold maxLen;omega) |(rw [HK.out.1];omega) |(simp;omega)))
   intro v' w5 hown' hgrow _ hloc
   have e9:min j l.length=j:=by omega
   rw [e9] at hown'
   have e10:=hown'
   rw [← HK.out.1] at e10
   have acc:AccE zaz 41 w ((l.take (j+1)).map tell) v' w5:=by
    rw [HK.out.2]
    exact AccE.next HY.out.1 HY.out.2.1 HY.out.2.2.1 HX.out.1 HY.out.2.2.2.1 HY.out.2.2.2.2 e10 hgrow (by simpa using hloc)
   have ACC:=Lib.hid acc
   clear acc hown' hgrow hloc hown3 HY HX
   go_wp2_with fail
   go_roundg (gk - 1)
   case measure=>omega
   case rel=>exact ⟨j+1,by omega,by go_num,ACC⟩
  ·have e:l.take j=l:=by rw [List.take_of_length_le];have:=HL.out;omega
   have hA:=HA.out
   rw [e] at hA
   obtain ⟨⟨xs,hown,hrow⟩,hbel⟩:=hA
   have HX:=Lib.hid (And.intro hown (And.intro hrow hbel))
   clear hown hrow hbel HA
   go_wp2_with fail
   go_ret
   exact ⟨_,xs,rfl,HX.out.1,HX.out.2.1,HX.out.2.2⟩
theorem zvl (a:zap) (W:World) (c:List Value) (h:za4.rel W (Old W) c a):Calls Tryz.prog 47 #[.agg c.toArray] W fun e w'=>∃ c',e=.returned (.agg c'.toArray)∧za4.rel w' (New W w') c' a∧Below W.heap.size W w':=by
 obtain ⟨id,ls,ps⟩:=a
 obtain ⟨lv,pv,rfl,hid,hn1,hn2,hl,hp⟩:=h
 obtain ⟨p1,c1,rfl⟩:=hl.slice
 obtain ⟨p2,c2,rfl⟩:=hp.slice
 refine (ze8 id ls ps p1 p2 c1 c2 W hn1 hn2 hl hp).mono ?_
 rintro e w' ⟨V,U,rfl,hV,hU,hb⟩
 exact ⟨[.int .i64 id,V,U],rfl,⟨V,U,rfl,hid,hn1,hn2,hV.slice (Nat.le_refl _),hU.slice (Nat.le_refl _)⟩,hb⟩
theorem zvm (a:zat) (W:World) (c:List Value) (h:zaz.rel W (Old W) c a):Calls Tryz.prog 50 #[.agg c.toArray] W fun e w'=>∃ c',e=.returned (.agg c'.toArray)∧zaz.rel w' (New W w') c' a∧Below W.heap.size W w':=by
 obtain ⟨id,src,dst,ty,ps⟩:=a
 obtain ⟨pv,rfl,hid,hn1,hn2,hp⟩:=h
 obtain ⟨p2,c2,rfl⟩:=hp.slice
 refine (zhv id src dst ty ps p2 c2 W hn1 hn2 hp).mono ?_
 rintro e w' ⟨U,rfl,hU,hb⟩
 exact ⟨[.int .i64 id,.int .i64 src,.int .i64 dst,.string ty,U],rfl,⟨U,rfl,hid,hn1,hn2,hU.slice (Nat.le_refl _)⟩,hb⟩
def BoxS (w:World) (b s:Nat):Prop:=w.heap[b]?=some (.cells #[.pointer (some ⟨s,0,none⟩)] 29 (0,0))
set_option maxHeartbeats 3200000 in
set_option maxRecDepth 20000 in
theorem zvn (a:zap) (W:World) (s b:Nat) (g:zau) (h:zdh W s g) (hb:BoxS W b s) (ha:a∈g.nodes) (hd:(a.props.map fun p=>bl p.key).Nodup):
 Calls Tryz.prog 46 #[.int .i64 a.id,.pointer (some ⟨b,0,none⟩)] W (zb6 za4 (zcr a) W):=by
 obtain ⟨m0,m1,m4,m5,V2,V3,q0,q1,q2,_,_,_,_⟩:=h.is
 obtain ⟨nn,f,hnn,hmap,h3,_⟩:=q1
 obtain ⟨a',c,hp,hff,hr⟩:=h3 a ha
 rw [hp.eq hd] at hr
 have hwf:(Lit.int .i64 a.id).wf=true:=by obtain ⟨_,_,rfl,hw,_⟩:=hr;exact hw
 have hki:keyOf Tryz.prog 2 (.int .i64 a.id)=some (.int .i64 a.id):=Go.Maps.keyOf_int_mk Tryz.underlying2 hwf
 have u1:(W.alloc (.cells #[.int .i64 0,.slice none 0 0,.slice none 0 0] 38)).heap[W.heap.size]?=some (.cells #[.int .i64 0,.slice none 0 0,.slice none 0 0] 38 (0,0)):=zae _ _ rfl
 have b0:=zas W (.cells #[.int .i64 0,.slice none 0 0,.slice none 0 0] 38)
 have us:(W.alloc (.cells #[.int .i64 0,.slice none 0 0,.slice none 0 0] 38)).heap[s]?=_:=zar _ q0
 have ub:(W.alloc (.cells #[.int .i64 0,.slice none 0 0,.slice none 0 0] 38)).heap[b]?=some (.cells #[.pointer (some ⟨s,0,none⟩)] 29 (0,0)):=zar _ hb
 replace hmap:=hmap.keep (b0.block _ hmap.lt)
 obtain ⟨W0,hW0⟩:∃ W0,W0=W.alloc (.cells #[.int .i64 0,.slice none 0 0,.slice none 0 0] 38):=⟨_,rfl⟩
 have hz1:∀ u∈[Value.int .i64 0,.slice none 0 0,.slice none 0 0],u.oneCell'=true:=by simp [Value.oneCell']
 rw [← hW0] at u1 b0 us ub hmap
 have cs:=zac us 0 rfl
 have cb:=zac ub 0 rfl
 have s0:W.heap.size < W0.heap.size:=zaa u1
 have HC:=Lib.hid (zvl (zcr a) W0 c (za4.stays (zad b0) hr))
 have H0:=Lib.hid hW0
 obtain ⟨id,hid⟩:∃ id,id=a.id:=⟨_,rfl⟩
 rw [← hid] at hki hff ⊢
 clear hW0 hr hp h3 hwf hb h q0 q2 hid
 go_enter Tryz.func46,Tryz.ntmps46
 go_upto_region 1 with fail
 rw [← H0.out]
 go_wp2_with (first
  |(at_lookup;refine zbs rfl _ _ 73 rfl 2 38 law2 Tryz.underlying73 (zsv _) m0 nn rfl hmap _ (.int .i64 id) rfl hki trivial ?_;rw [hff];simp only [Option.getD_some])
  |(go_at_call 47;(with_reducible refine HC.out.mono ?_);rintro e w3 ⟨c',rfl,hc',hb3⟩
    have u3:=(hb3.block _ (zaa u1)).trans u1
    have hlen:c'.length=3:=za4.len hc'
    have hone:=za4.one hc'
    have HR:=Lib.hid (And.intro hc' hb3)
    clear hc' hb3)
  |((with_reducible refine zah (.tmp 3) (.tmp 10) W.heap.size 38 38 _ c' 3 u3 hlen ?_ ?_ ?_ ?_ zal rfl hone ?_);rfl;rfl;rfl;rfl;intro wX oX u5))
 have hsz:=oX.size
 exact bodyPost_ret (results_cell_row (p:=3) (ty:=38) Tryz.results46 _ _ W.heap.size 38 _ (0,0) _ rfl u5 Tryz.underlying38 rfl (by rw [zal];simp [hlen])) rfl
  ⟨_,c',rfl,rfl,za4.stays (fun i hi=>⟨⟨by have:=hi.1;omega,Nat.lt_of_lt_of_le hi.2 hsz⟩,oX.block i hi.2 (by have:=hi.1;omega)⟩) HR.out.1,zag (zab b0 HR.out.2 b0.size) oX (Nat.le_refl _) (Nat.le_trans b0.size HR.out.2.size)⟩
set_option maxHeartbeats 3200000 in
set_option maxRecDepth 20000 in
theorem zo8 (a:zat) (W:World) (s b:Nat) (g:zau) (h:zdh W s g) (hb:BoxS W b s) (ha:a∈g.edges) (hd:(a.props.map fun p=>bl p.key).Nodup):
 Calls Tryz.prog 49 #[.int .i64 a.id,.pointer (some ⟨b,0,none⟩)] W (zb6 zaz (zc2 a) W):=by
 obtain ⟨m0,m1,m4,m5,V2,V3,q0,q1,q2,_,_,_,_⟩:=h.is
 obtain ⟨nn,f,hnn,hmap,h3,_⟩:=q2
 obtain ⟨a',c,hp,hff,hr⟩:=h3 a ha
 rw [hp.eq hd] at hr
 have hwf:(Lit.int .i64 a.id).wf=true:=by obtain ⟨_,rfl,hw,_⟩:=hr;exact hw.1
 have hki:keyOf Tryz.prog 2 (.int .i64 a.id)=some (.int .i64 a.id):=Go.Maps.keyOf_int_mk Tryz.underlying2 hwf
 have u1:(W.alloc (.cells #[.int .i64 0,.int .i64 0,.int .i64 0,.string ⟨#[]⟩,.slice none 0 0] 41)).heap[W.heap.size]?=some (.cells #[.int .i64 0,.int .i64 0,.int .i64 0,.string ⟨#[]⟩,.slice none 0 0] 41 (0,0)):=zae _ _ rfl
 have b0:=zas W (.cells #[.int .i64 0,.int .i64 0,.int .i64 0,.string ⟨#[]⟩,.slice none 0 0] 41)
 have us:(W.alloc (.cells #[.int .i64 0,.int .i64 0,.int .i64 0,.string ⟨#[]⟩,.slice none 0 0] 41)).heap[s]?=_:=zar _ q0
 have ub:(W.alloc (.cells #[.int .i64 0,.int .i64 0,.int .i64 0,.string ⟨#[]⟩,.slice none 0 0] 41)).heap[b]?=some (.cells #[.pointer (some ⟨s,0,none⟩)] 29 (0,0)):=zar _ hb
 replace hmap:=hmap.keep (b0.block _ hmap.lt)
 obtain ⟨W0,hW0⟩:∃ W0,W0=W.alloc (.cells #[.int .i64 0,.int .i64 0,.int .i64 0,.string ⟨#[]⟩,.slice none 0 0] 41):=⟨_,rfl⟩
 have hz1:∀ u∈[Value.int .i64 0,.int .i64 0,.int .i64 0,.string ⟨#[]⟩,.slice none 0 0],u.oneCell'=true:=by simp [Value.oneCell']
 rw [← hW0] at u1 b0 us ub hmap
 have cs:=zac us 1 rfl
 have cb:=zac ub 0 rfl
 have s0:W.heap.size < W0.heap.size:=zaa u1
 have HC:=Lib.hid (zvm (zc2 a) W0 c (zaz.stays (zad b0) hr))
 have H0:=Lib.hid hW0
 obtain ⟨id,hid⟩:∃ id,id=a.id:=⟨_,rfl⟩
 rw [← hid] at hki hff ⊢
 clear hW0 hr hp h3 hwf hb h q0 q1 hid
 go_enter Tryz.func49,Tryz.ntmps49
 go_upto_region 1 with fail
 rw [← H0.out]
 go_wp2_with (first
  |(at_lookup;refine zbs rfl _ _ 74 rfl 2 41 law2 Tryz.underlying74 (zo6 _) m1 nn rfl hmap _ (.int .i64 id) rfl hki trivial ?_;rw [hff];simp only [Option.getD_some])
  |(go_at_call 50;(with_reducible refine HC.out.mono ?_);rintro e w3 ⟨c',rfl,hc',hb3⟩
    have u3:=(hb3.block _ (zaa u1)).trans u1
    have hlen:c'.length=5:=zaz.len hc'
    have hone:=zaz.one hc'
    have HR:=Lib.hid (And.intro hc' hb3)
    clear hc' hb3)
  |((with_reducible refine zah (.tmp 3) (.tmp 10) W.heap.size 41 41 _ c' 5 u3 hlen ?_ ?_ ?_ ?_ zan rfl hone ?_);rfl;rfl;rfl;rfl;intro wX oX u5))
 have hsz:=oX.size
 exact bodyPost_ret (results_cell_row (p:=3) (ty:=41) Tryz.results49 _ _ W.heap.size 41 _ (0,0) _ rfl u5 Tryz.underlying41 rfl (by rw [zan];simp [hlen])) rfl
  ⟨_,c',rfl,rfl,zaz.stays (fun i hi=>⟨⟨by have:=hi.1;omega,Nat.lt_of_lt_of_le hi.2 hsz⟩,oX.block i hi.2 (by have:=hi.1;omega)⟩) HR.out.1,zag (zab b0 HR.out.2 b0.size) oX (Nat.le_refl _) (Nat.le_trans b0.size HR.out.2.size)⟩
def zh3 (W:World) (g:zau) (e:Ending) (w':World):Prop:=
 ∃ vn ve xn xe mid,e=.returned (.agg #[vn,ve])∧W.heap.size≤mid∧mid≤w'.heap.size∧(∀ b,vn.ownBlock=some b→b < mid)∧
  w'.ownsRow W.heap.size 38 3 vn (za3 g).nodes.length xn∧RowE za4 w' (fun i=>W.heap.size≤i∧i < mid∧vn.ownBlock≠some i) xn (za3 g).nodes∧
  w'.ownsRow mid 41 5 ve (za3 g).edges.length xe∧RowE zaz w' (fun i=>mid≤i∧i < w'.heap.size∧ve.ownBlock≠some i) xe (za3 g).edges∧Below W.heap.size W w'
set_option maxHeartbeats 6400000 in
set_option maxRecDepth 20000 in
theorem plainAt (W:World) (s:Nat) (g:zau) (h:zdh W s g) (hg:zel g):Calls Tryz.prog 16 #[.pointer (some ⟨s,0,none⟩)] W (zh3 W g):=by
 obtain ⟨m0,m1,m4,m5,V2,V3,q0,q1,q2,q3,q4,_,_⟩:=h.is
 have e3:(g.nodes.map zap.id).mergeSort leI=zd2 g:=rfl
 have e4:(g.edges.map zat.id).mergeSort leI=zdx g:=rfl
 rw [e3] at q3
 rw [e4] at q4
 have i3:=zbe q3
 have i4:=zbe q4
 obtain ⟨p3,k3,rfl⟩:=zbc q3
 obtain ⟨p4,k4,rfl⟩:=zbc q4
 obtain ⟨w1,hw1⟩:∃ w1,w1=(W.alloc (.cells #[.pointer (some ⟨s,0,none⟩)] 29)).alloc (.cells #[.slice none 0 0,.slice none 0 0] 25):=⟨_,rfl⟩
 have u1:w1.heap[W.heap.size]?=some (.cells #[.pointer (some ⟨s,0,none⟩)] 29 (0,0)):=by rw [hw1];exact zar _ (zae _ _ rfl)
 have u2:w1.heap[W.heap.size+1]?=some (.cells #[.slice none 0 0,.slice none 0 0] 25 (0,0)):=by rw [hw1];exact zae _ _ (by simp)
 have bw:Below W.heap.size W w1:=by rw [hw1];exact zbk _ _ _
 have us:=(bw.block _ (zaa q0)).trans q0
 have hsz1:W.heap.size+2≤w1.heap.size:=by rw [hw1];simp
 have H45:Hid (∀ W',Below W.heap.size W W'→BoxS W' W.heap.size s→Calls Tryz.prog 45 #[.slice p3 (zd2 g).length k3,.func (.func 46) #[] #[.pointer (some ⟨W.heap.size,0,none⟩)]] W' (za9 za4 38 W' (za3 g).nodes)):=Lib.hid fun W' hb hx=>by
  refine map45 (zh1 g) (zd2 g) _ _ W' (i3.below hb) (by rw [zfs];have:=hg.nn;omega) fun x hxm W2 hb2=>?_
  obtain ⟨a,ha,rfl⟩:=List.mem_map.1 (List.mem_mergeSort.1 hxm)
  rw [zfu hg.dn ha]
  exact zvn a W2 s _ g ((h.below hb).below hb2) ((hb2.block _ (zaa hx)).trans hx) ha (zdo (hg.nkeys a ha)).2.1
 have H48:Hid (∀ W',Below W.heap.size W W'→BoxS W' W.heap.size s→Calls Tryz.prog 48 #[.slice p4 (zdx g).length k4,.func (.func 49) #[] #[.pointer (some ⟨W.heap.size,0,none⟩)]] W' (za9 zaz 41 W' (za3 g).edges)):=Lib.hid fun W' hb hx=>by
  refine map48 (zh2 g) (zdx g) _ _ W' (i4.below hb) (by rw [zft];have:=hg.ne;omega) fun x hxm W2 hb2=>?_
  obtain ⟨a,ha,rfl⟩:=List.mem_map.1 (List.mem_mergeSort.1 hxm)
  rw [zfv hg.de ha]
  exact zo8 a W2 s _ g ((h.below hb).below hb2) ((hb2.block _ (zaa hx)).trans hx) ha (zdo (hg.ekeys a ha).1).2.1
 have HW:=Lib.hid hw1
 clear hw1 q1 q2 q3 q4 i3 i4 e3 e4 hg
 go_enter Tryz.func16,Tryz.ntmps16
 go_upto_region 1 with fail
 rw [← HW.out]
 refine wp_region_held_drew (S:=fun W'=>W'.heap[W.heap.size]?=some (.cells #[.pointer (some ⟨s,0,none⟩)] 29 (0,0))∧W'.heap[s]?=some (.cells #[.map (some m0),.map (some m1),.slice p3 (zd2 g).length k3,.slice p4 (zdx g).length k4,.map (some m4),.map (some m5)] 79 (0,0))) (by kernel_rfl) ⟨u1,us⟩ (fun _=>?_)
 replace bw:=bw.drew
 replace u1:w1.drew.heap[W.heap.size]?=_:=u1
 replace u2:w1.drew.heap[W.heap.size+1]?=_:=u2
 replace us:w1.drew.heap[s]?=_:=us
 replace hsz1:W.heap.size+2≤w1.drew.heap.size:=hsz1
 refine tk (i:=0) (v:=.pointer (some ⟨s,0,none⟩)) rfl (Or.inl ⟨by rfl,fun W' h=>by have c0:=zac h.1 0 rfl;go_simp⟩) (⟨u1,us⟩) ?_
 refine tg (i:=4) (.func (.func 46) #[] #[.pointer (some ⟨W.heap.size,0,none⟩)]) rfl (⟨u1,us⟩) ?_
 refine tk (i:=6) (v:=.pointer (some ⟨s,0,none⟩)) rfl (Or.inl ⟨by rfl,fun W' h=>by have c0:=zac h.1 0 rfl;go_simp⟩) (⟨u1,us⟩) ?_
 refine tg (i:=10) (.func (.func 49) #[] #[.pointer (some ⟨W.heap.size,0,none⟩)]) rfl (⟨u1,us⟩) ?_
 refine tg (i:=1) (.pointer (some ⟨s,0,none⟩)) rfl (⟨u1,us⟩) ?_
 refine tg (i:=7) (.pointer (some ⟨s,0,none⟩)) rfl (⟨u1,us⟩) ?_
 refine tg (i:=2) (.pointer (some ⟨s,2,none⟩)) rfl (⟨u1,us⟩) ?_
 refine tg (i:=8) (.pointer (some ⟨s,3,none⟩)) rfl (⟨u1,us⟩) ?_
 refine tk (i:=3) (v:=.slice p3 (zd2 g).length k3) rfl (Or.inl ⟨by rfl,fun W' h=>by have c0:=zac h.2 2 rfl;go_simp⟩) (⟨u1,us⟩) ?_
 refine tk (i:=9) (v:=.slice p4 (zdx g).length k4) rfl (Or.inl ⟨by rfl,fun W' h=>by have c0:=zac h.2 3 rfl;go_simp⟩) (⟨u1,us⟩) ?_
 refine tr 5 rfl (fun K hK=>?_)
 rw [if_pos (by rfl)]
 go_simp
 refine (H45.out _ bw u1).mono ?_
 rintro e0 w3 ⟨vn,xn,rfl,hon,hrn,hb3⟩
 have hm3:=hb3.size
 obtain ⟨pn,kn,rfl⟩:=zbc hon
 replace u1:=(hb3.block _ (zaa u1)).trans u1
 replace u2:=(hb3.block _ (zaa u2)).trans u2
 replace us:=(hb3.block _ (zaa us)).trans us
 replace bw:=zab bw hb3 bw.size
 have HN:=Lib.hid (And.intro hon hrn)
 clear hb3 hon hrn
 refine hK.out _ _ (⟨u1,us⟩) (fun _=>?_)
 clear hK K
 try simp only [putS]
 refine tr 11 rfl (fun K hK=>?_)
 rw [if_pos (by rfl)]
 go_simp
 refine (H48.out _ bw u1).mono ?_
 rintro e0 w4 ⟨ve,xe,rfl,hoe,hre,hb4⟩
 have hm4:=hb4.size
 obtain ⟨pe,ke,rfl⟩:=zbc hoe
 replace u1:=(hb4.block _ (zaa u1)).trans u1
 replace u2:=(hb4.block _ (zaa u2)).trans u2
 replace us:=(hb4.block _ (zaa us)).trans us
 replace bw:=zab bw hb4 bw.size
 have HE:=Lib.hid (And.intro hoe (And.intro hre hb4))
 clear hb4 hoe hre
 refine hK.out _ _ (⟨u1,us⟩) (fun _=>?_)
 clear hK K
 try simp only [putS]
 refine tg (i:=12) (.agg #[.slice pn (za3 g).nodes.length kn,.slice pe (za3 g).edges.length ke]) rfl (⟨u1,us⟩) ?_
 refine tr 13 rfl (fun K hK=>?_)
 rw [if_pos (by rfl)]
 refine wp_store_row 25 (.tmp 2) (.tmp 15) rfl (W.heap.size+1) #[.slice pn (za3 g).nodes.length kn,.slice pe (za3 g).edges.length ke] rfl rfl 25 _ u2 zbg rfl (by simp [Value.oneCell']) ?_
 have u5:=zc7 (c':=#[.slice pn (za3 g).nodes.length kn,.slice pe (za3 g).edges.length ke]) u2
 have on:=Only.setRow (b:=W.heap.size+1) w4 #[.slice pn (za3 g).nodes.length kn,.slice pe (za3 g).edges.length ke]
 have hlt2:=zaa u2
 have hlts:=zaa q0
 replace u1:=(on.block W.heap.size (zaa u1) (by omega)).trans u1
 replace us:=(on.block s (zaa us) (by omega)).trans us
 have bz:=zag bw on (Nat.le_succ _) bw.size
 refine hK.out _ _ (⟨u1,us⟩) (fun _=>?_)
 clear hK K
 try simp only [putS]
 refine wpAnyH_done (by kernel_rfl) ?_ _
 go_wp2_with fail
 have hon:=HN.out.1
 have hrn:=HN.out.2
 have hoe:=HE.out.1
 have hre:=HE.out.2.1
 have hb4:=HE.out.2.2
 have hsz:=on.size
 refine bodyPost_ret (results_cell_row (p:=2) (ty:=25) Tryz.results16 _ _ (W.heap.size+1) 25 _ (0,0) _ rfl u5 Tryz.underlying25 rfl zbg) rfl ?_
 refine ⟨_,_,xn,xe,w3.heap.size,rfl,by omega,by omega,fun b hb=>(hon.lt b hb).2,?_,?_,?_,?_,bz⟩
 ·exact zcd (zaw hon fun i e=>(on.block i (Nat.lt_of_lt_of_le (hon.lt i e).2 hm4) (by have:=(hon.lt i e).1;omega)).trans (hb4.block i (hon.lt i e).2)) (by omega)
 ·exact RowE.stays (fun i hi=>⟨⟨by have:=hi.1;omega,hi.2.1,hi.2.2⟩,(on.block i (Nat.lt_of_lt_of_le hi.2.1 hm4) (by have:=hi.1;omega)).trans (hb4.block i hi.2.1)⟩) _ hrn
 ·exact zaw hoe fun i e=>on.block i (hoe.lt i e).2 (by have:=(hoe.lt i e).1;omega)
 ·exact RowE.stays (fun i hi=>⟨⟨hi.1,Nat.lt_of_lt_of_le hi.2.1 hsz,hi.2.2⟩,on.block i hi.2.1 (by have:=hi.1;omega)⟩) _ hre
theorem zh3.slices {W:World} {g:zau} {e:Ending} {w':World} (h:zh3 W g e w'):∃ vn ve,e=.returned (.agg #[vn,ve])∧zak za4 w' (New W w') vn (za3 g).nodes∧zak zaz w' (New W w') ve (za3 g).edges∧Below W.heap.size W w':=by
 obtain ⟨vn,ve,xn,xe,mid,rfl,h1,h2,h3,h4,h5,h6,h7,h8⟩:=h
 exact ⟨vn,ve,rfl,zbm h4 h5 (fun i hi=>⟨hi.1,by omega⟩) (fun i e=>h4.lt i e),zbm h6 h7 (fun i hi=>⟨by omega,hi.2.1⟩) (fun i e=>⟨by have:=(h6.lt i e).1;omega,(h6.lt i e).2⟩),h8⟩
end Go.Proofs.YtcfmenkigolnoaaGreatDoor

/- GAK -/
namespace Go.Proofs.YtcfmenkigolnoaaGreatDoor
open Go.RowKit
def LabPost (W:World) (zs:List Int) (e:Ending) (w':World):Prop:=∃ p cap,e=.returned (.slice p zs.length cap)∧zb3 w' (.slice p zs.length cap) zs∧Below W.heap.size W w'
theorem zvo (W:World) (xs:List ByteArray):zcu (W.alloc (.cells (xs.map Value.string).toArray 9)) (.slice (some ⟨W.heap.size,0,none⟩) xs.length xs.length) xs:=
 ⟨_,_,rfl,fun _=>⟨W.heap.size,0,rfl,fun j hj=>zac (zae _ _ rfl) (0+j) (by simp [hj])⟩⟩
theorem askLab (W:World) (s:Nat) (g:zau) (h:zdh W s g) (hg:zel g) (xs:List ByteArray) (hx:∀ t∈xs,t.size≤2097152) (hl:xs.length≤2):
 Calls Tryz.prog 31 #[.pointer (some ⟨s,0,none⟩),.slice (some ⟨W.heap.size,0,none⟩) xs.length xs.length] (W.alloc (.cells (xs.map Value.string).toArray 9)) (LabPost W (zdm g xs)):=by
 have b0:=zas W (.cells (xs.map Value.string).toArray 9)
 refine (zs3 _ s g (h.below b0) hg.dn (fun a ha=>(hg.labels a ha).2.1) hg.nn _ xs (zvo W xs) (by omega) hx).mono ?_
 rintro e w' ⟨R,rfl,hR,hb⟩
 obtain ⟨p,cap,rfl⟩:=zbc hR
 exact ⟨p,cap,rfl,zbe hR,zab b0 hb b0.size⟩
theorem eqOne (W:World) (z:Int) (p:Option Addr) (cap:Nat) (h:zb3 W (.slice p 1 cap) [z]):
 Calls Tryz.prog 24 #[.slice p 1 cap,.slice (some ⟨W.heap.size,0,none⟩) 1 1] (W.alloc (.cells #[.int .i64 z] 2)) fun e w'=>e=.returned (.bool true)∧Below W.heap.size W w':=by
 have b0:=zas W (.cells #[.int .i64 z] 2)
 have q:=zvh _ _ [z] [z] _ (h.below b0) ⟨_,1,rfl,fun _=>⟨W.heap.size,0,rfl,fun j hj=>zac (zae W _ rfl) (0+j) (by
  have:j=0:=by simpa using hj
  subst this
  rfl)⟩⟩ (by simp)
 refine q.mono ?_
 rintro e w' ⟨rfl,hb⟩
 exact ⟨by simp,zab b0 hb b0.size⟩
end Go.Proofs.YtcfmenkigolnoaaGreatDoor

/- OE -/
namespace Go.Proofs.YtcfmenkigolnoaaGreatDoor
open Go.RowKit
def zp7 (v:Val):Prop:=∀ (W:World) (k:Int) (b:Bool) (n:Int) (t x:ByteArray) (q:List Val) (p:Option Addr) (cap:Nat) (v2:Val) (k2:Int) (b2:Bool) (n2:Int) (t2 x2:ByteArray) (q2:List Val) (p2:Option Addr) (cap2:Nat),
 v=.mk k b n t x q→v2=.mk k2 b2 n2 t2 x2 q2→q.length≤2097152→Held W (.slice p q.length cap) q→Held W (.slice p2 q2.length cap2) q2→
 Calls Tryz.prog 28 #[.agg #[.int .i64 k,.bool b,.int .i64 n,.string t,.string x,.slice p q.length cap],.agg #[.int .i64 k2,.bool b2,.int .i64 n2,.string t2,.string x2,.slice p2 q2.length cap2]] W
  fun e w'=>e=.returned (.bool (zgu v v2))∧Below W.heap.size W w'
theorem zvp (p p2:Option Addr) (n n2 cap cap2:Nat) (w:World) (h:¬ n=n2):
 Calls Tryz.prog 60 #[.slice p n cap,.slice p2 n2 cap2] w fun e w'=>e=.returned (.bool false)∧Below w.heap.size w w':=by
 have h1:((n:Int) != n2)=true:=by simp;omega
 clear h
 go_enter Tryz.func60,Tryz.ntmps60
 go_wp2_with fail
 go_ret
 exact ⟨rfl,Below.refl _ _⟩
theorem ztd (p p2:Option Addr) (cap cap2:Nat) (w:World):
 Calls Tryz.prog 60 #[.slice p 0 cap,.slice p2 0 cap2] w fun e w'=>e=.returned (.bool true)∧Below w.heap.size w w':=by
 go_enter Tryz.func60,Tryz.ntmps60
 go_wp2_with fail
 go_loopw [5] (fun i wr=>i=.int .i64 0∧wr=w) (fun _ _=>0)
 case atStart=>exact ⟨rfl,rfl⟩
 case round=>
  obtain ⟨rfl,rfl⟩:=hrel
  go_wp2_with fail
  go_ret
  exact ⟨rfl,Below.refl _ _⟩
set_option maxRecDepth 20000 in
set_option maxHeartbeats 3200000 in
theorem zte (l l2:List Val) (g off cap g2 off2 cap2:Nat) (w:World) (hl:zb5 w g off l) (hl2:zb5 w g2 off2 l2) (hlen:l2.length=l.length) (hn:l.length≤2097152) (each:∀ v∈l,zp7 v):
 Calls Tryz.prog 60 #[.slice (some ⟨g,off,none⟩) l.length cap,.slice (some ⟨g2,off2,none⟩) l.length cap2] w fun e w'=>e=.returned (.bool (zcc l l2))∧Below w.heap.size w w':=by
 have HH:=Lib.hid hl
 have HH2:=Lib.hid hl2
 have HE:=Lib.hid each
 have HL:=Lib.hid hlen
 clear hl hl2 each hlen
 go_enter Tryz.func60,Tryz.ntmps60
 go_wp2_with fail
 go_loopw [5] (fun i wr=>∃ j:Nat,j≤l.length∧i=.int .i64 j∧Below w.heap.size w wr∧∀ (i:Nat) (h:i < l.length) (h2:i < l2.length),i < j→zgu l[i] l2[i]=true) (fun i _=>l.length - (intOf i).toNat)
 case atStart=>exact ⟨0,Nat.zero_le _,rfl,Below.refl _ _,fun _ _ _ h=>absurd h (by omega)⟩
 case round=>
  obtain ⟨j,hj,rfl,hb,hall⟩:=hrel
  have HA:=Lib.hid hall
  clear hall
  by_cases hlt:j < l.length
  ·have hlt2:j < l2.length:=by have:=HL.out;omega
   obtain ⟨k,b,n,t,x,q,p,cp,o1⟩:=(zb5.at_ l off HH.out j hlt).opens
   obtain ⟨k2,b2,n2,t2,x2,q2,p2,cp2,o2⟩:=(zb5.at_ l2 off2 HH2.out j hlt2).opens
   have hc:=fun W (hb:Below w.heap.size w W)=>HE.out l[j] (List.getElem_mem hlt) W k b n t x q p cp l2[j] k2 b2 n2 t2 x2 q2 p2 cp2 o1.e o2.e o1.hf.hn (Held.below q o1.hl hb) (Held.below q2 o2.hl hb)
   obtain ⟨r,hr⟩:∃ r,r=zgu l[j] l2[j]:=⟨_,rfl⟩
   rw [← hr] at hc
   have R1:∀ w',Below w.heap.size w w'→w'.rangeAt g (off+j*6) [.int .i64 k,.bool b,.int .i64 n,.string t,.string x,.slice p q.length cp]:=fun w' h=>(o1.below h).range
   have R2:∀ w',Below w.heap.size w w'→w'.rangeAt g2 (off2+j*6) [.int .i64 k2,.bool b2,.int .i64 n2,.string t2,.string x2,.slice p2 q2.length cp2]:=fun w' h=>(o2.below h).range
   have HC:=Lib.hid hc
   have HR:=Lib.hid hr
   have HR1:=Lib.hid R1
   have HR2:=Lib.hid R2
   clear o1 o2 hr hc R1 R2
   have hlti:(j:Int) < l.length:=by omega
   go_wp2_with fail
   refine wp_region_held_drew (S:=fun w'=>Below w.heap.size w w') (by kernel_rfl) hb.drew (fun hHeld=>?_)
   refine tg (i:=0) (.slice (some ⟨g,off,none⟩) l.length cap) rfl hHeld ?_
   refine tg (i:=1) (.int .i64 j) rfl hHeld ?_
   refine tg (i:=2) (.pointer (some ⟨g,off+j*6,none⟩)) rfl hHeld ?_
   refine tk (i:=3) rfl (yieldsIf_load_mid (by rfl) 60 (.tmp 19) rfl g (off+j*6) rfl _ _ (fun w h=>HR1.out w h) Tryz.underlying60 rfl zg9) hHeld ?_
   refine tg (i:=4) (.slice (some ⟨g2,off2,none⟩) l.length cap2) rfl hHeld ?_
   refine tg (i:=5) (.int .i64 j) rfl hHeld ?_
   refine tg (i:=6) (.pointer (some ⟨g2,off2+j*6,none⟩)) rfl hHeld ?_
   refine tk (i:=7) rfl (yieldsIf_load_mid (by rfl) 60 (.tmp 23) rfl g2 (off2+j*6) rfl _ _ (fun w h=>HR2.out w h) Tryz.underlying60 rfl zg9) hHeld ?_
   refine tr 8 rfl (fun K hK=>?_)
   rw [if_pos (by rfl)]
   go_simp
   refine (HC.out _ hHeld).mono ?_
   rintro e w3 ⟨rfl,hb3⟩
   refine hK.out _ _ (zab hHeld hb3 hHeld.size) (fun hHeld2=>?_)
   clear hK K hb3 hHeld
   try simp only [putS]
   refine tg (i:=9) (.bool (!r)) rfl hHeld2 ?_
   refine wpAnyH_done (by kernel_rfl) ?_ _
   cases r with
   | true=>
     go_wp2_with fail
     go_roundw
     case rel=>
      refine ⟨j+1,by omega,by go_num,hHeld2,fun i hi hi2 hlt'=>?_⟩
      by_cases e:i=j
      ·subst e;exact HR.out.symm
      ·exact HA.out i hi hi2 (by omega)
     case measure=>simp [intOf];omega
   | false=>
     go_wp2_with fail
     go_ret
     exact ⟨by rw [zho l l2 j hlt hlt2 HR.out.symm];rfl,hHeld2⟩
  ·go_wp2_with fail
   go_ret
   exact ⟨by rw [zgi l l2 fun i h h2=>HA.out i h h2 (by omega)];rfl,hb⟩
theorem eqRowAt (l l2:List Val) (p p2:Option Addr) (cap cap2:Nat) (w:World) (hl:Held w (.slice p l.length cap) l) (hl2:Held w (.slice p2 l2.length cap2) l2) (hn:l.length≤2097152) (each:∀ v∈l,zp7 v):
 Calls Tryz.prog 60 #[.slice p l.length cap,.slice p2 l2.length cap2] w fun e w'=>e=.returned (.bool ((l.length == l2.length) && zcc l l2))∧Below w.heap.size w w':=by
 by_cases h:l.length=l2.length
 ·rw [show (l.length == l2.length)=true by simpa using h,Bool.true_and,← h]
  cases l with
  | nil=>
    unfold zcc
    exact ztd _ _ _ _ _
  | cons v r=>
    cases l2 with
    | nil=>simp at h
    | cons v2 r2=>
      obtain ⟨g,off,rfl,hh⟩:=hl.form
      obtain ⟨g2,off2,rfl,hh2⟩:=hl2.form
      exact zte (v::r) (v2::r2) g off cap g2 off2 cap2 w hh hh2 h.symm hn each
 ·rw [show (l.length == l2.length)=false by simpa using h,Bool.false_and]
  exact zvp p p2 _ _ cap cap2 w h
set_option maxHeartbeats 1600000 in
theorem zp8 (v:Val) (k:Int) (b:Bool) (n:Int) (t x:ByteArray) (q:List Val) (ev:v=.mk k b n t x q) (each:∀ u∈q,zp7 u):zp7 v:=by
 subst ev
 intro W k1 b1 n1 t1 x1 q1 p cap v2 k2 b2 n2 t2 x2 q2 p2 cap2 e1 e2 hn hl hl2
 cases e1
 subst e2
 unfold zgu
 obtain ⟨c1,hc1⟩:∃ c1,c1=Obj.cells #[.int .i64 k,.bool b,.int .i64 n,.string t,.string x,.slice p q.length cap] 60:=⟨_,rfl⟩
 obtain ⟨c2,hc2⟩:∃ c2,c2=Obj.cells #[.int .i64 k2,.bool b2,.int .i64 n2,.string t2,.string x2,.slice p2 q2.length cap2] 60:=⟨_,rfl⟩
 have b0:=zbk W c1 c2
 have hc:=eqRowAt q q2 p p2 cap cap2 ((W.alloc c1).alloc c2) (Held.below q hl b0) (Held.below q2 hl2 b0) hn each
 have l0:Six ((W.alloc c1).alloc c2) W.heap.size k b n t x p q.length cap:=by rw [hc1];exact (zai _ rfl).alloc _
 have l1:Six ((W.alloc c1).alloc c2) (W.heap.size+1) k2 b2 n2 t2 x2 p2 q2.length cap2:=by rw [hc2];exact zai _ (by simp)
 have z0:=b0.size
 have f0:=l0.c0
 have f1:=l0.c1
 have f2:=l0.c2
 have f3:=l0.c3
 have f4:=l0.c4
 have f5:=l0.c5
 have g0:=l1.c0
 have g1:=l1.c1
 have g2:=l1.c2
 have g3:=l1.c3
 have g4:=l1.c4
 have g5:=l1.c5
 clear l0 l1 hl hl2 each hn
 subst hc1 hc2
 cases a0:(k == k2) with
 | false=>
   rw [Bool.false_and]
   go_enter Tryz.func28,Tryz.ntmps28
   go_wp2_with fail
   go_ret
   exact ⟨rfl,b0⟩
 | true=>
   rw [Bool.true_and]
   cases a1:(b == b2) with
   | false=>
     rw [Bool.false_and]
     go_enter Tryz.func28,Tryz.ntmps28
     go_wp2_with fail
     go_ret
     exact ⟨rfl,b0⟩
   | true=>
     rw [Bool.true_and]
     cases a2:(n == n2) with
     | false=>
       rw [Bool.false_and]
       go_enter Tryz.func28,Tryz.ntmps28
       go_wp2_with fail
       go_ret
       exact ⟨rfl,b0⟩
     | true=>
       rw [Bool.true_and]
       cases a3:(t.toList == t2.toList) with
       | false=>
         rw [Bool.false_and]
         go_enter Tryz.func28,Tryz.ntmps28
         go_wp2_with fail
         go_ret
         exact ⟨rfl,b0⟩
       | true=>
         rw [Bool.true_and]
         cases a4:(x.toList == x2.toList) with
         | false=>
           rw [Bool.false_and]
           go_enter Tryz.func28,Tryz.ntmps28
           go_wp2_with fail
           go_ret
           exact ⟨rfl,b0⟩
         | true=>
           rw [Bool.true_and]
           generalize (q.length == q2.length && zcc q q2)=r at hc ⊢
           go_enter Tryz.func28,Tryz.ntmps28
           go_wp2_with (go_at_call 60;(with_reducible refine hc.mono ?_);rintro e w3 ⟨rfl,hb3⟩;replace b0:=zab b0 hb3 z0)
           go_ret
           exact ⟨rfl,b0⟩
mutual
theorem zo9:(v:Val)→zp7 v
 | .mk k b n t x q=>zp8 _ k b n t x q rfl (zmu q)
theorem zmu:(q:List Val)→∀ u∈q,zp7 u
 | [],_,h=>absurd h (by simp)
 | v::r,u,h=>by
   rcases List.mem_cons.1 h with h | h
   ·rw [h];exact zo9 v
   ·exact zmu r u h
end
end Go.Proofs.YtcfmenkigolnoaaGreatDoor

/- GWK -/
namespace Go.Proofs.YtcfmenkigolnoaaGreatDoor
open Go.RowKit
mutual
theorem zi7:(v:Val)→zgu v v=true
 | .mk k b n t x l=>by
   unfold zgu
   rw [zfy l]
   simp
theorem zfy:(l:List Val)→zcc l l=true
 | []=>by unfold zcc;rfl
 | v::r=>by
   unfold zcc
   rw [zi7 v,zfy r]
   rfl
end
theorem ztf (v u:Val) (c c2:List Value) (W:World) (P P2:Nat→Prop) (h:valE.rel W P c v) (h2:valE.rel W P2 c2 u):
 Calls Tryz.prog 28 #[.agg c.toArray,.agg c2.toArray] W fun e w'=>e=.returned (.bool (zgu v u))∧Below W.heap.size W w':=by
 obtain ⟨k,b,n,t,x,q⟩:=v
 obtain ⟨k2,b2,n2,t2,x2,q2⟩:=u
 obtain ⟨L,rfl,hf,hq⟩:=h
 obtain ⟨L2,rfl,hf2,hq2⟩:=h2
 obtain ⟨p,cap,rfl⟩:=za5 (zay.held q hq)
 obtain ⟨p2,cap2,rfl⟩:=za5 (zay.held q2 hq2)
 exact zo9 _ W k b n t x q p cap _ k2 b2 n2 t2 x2 q2 p2 cap2 rfl rfl hf.hn (zay.held q hq) (zay.held q2 hq2)
theorem ztg (p q:Option Addr) (n m c d:Nat) (w:World):(Instr.field 25 (.agg #[.slice p n c,.slice q m d]) 1).run Tryz.prog w=.ok (.slice q m d) w:=by kernel_rfl
def gW:zau:=⟨[⟨1,[⟨#[65]⟩],[]⟩],[⟨7,1,1,⟨#[116]⟩,[]⟩]⟩
theorem zwh:zdt gW=true:=by decide
theorem zju:zel gW:=goodG zwh
def wW:Way:=⟨(1,0),by decide⟩
theorem zvq:zdx gW=[7]:=by simp [zdx,gW]
theorem zvr:zd2 gW=[1]:=by simp [zd2,gW]
theorem gW_hops:zmn gW wW []=[7]:=by
 unfold zmn
 rw [zvq]
 decide
theorem gW_lab:zdm gW [⟨#[65]⟩]=[1]:=by
 unfold zdm
 rw [zvr]
 simp [ze6,zdd,gW,sortS,zox]
set_option maxHeartbeats 3200000 in
set_option maxRecDepth 20000 in
theorem wakesAt (w:World) (hG:Gd w):Calls Tryz.prog 9 #[] w fun e w'=>e=.returned (.bool true)∧Below w.heap.size w w':=by
 obtain ⟨w1,hw1⟩:∃ w1,w1=((w.alloc (.cells #[.string ⟨#[65]⟩] 9)).alloc (.cells #[.int .i64 1,.slice (some ⟨w.heap.size,0,none⟩) 1 1,.slice none 0 0] 38)).alloc (.cells #[.int .i64 7,.int .i64 1,.int .i64 1,.string ⟨#[116]⟩,.slice none 0 0] 41):=⟨_,rfl⟩
 have bw:Below w.heap.size w w1:=by rw [hw1];exact (zbk _ _ _).alloc (by simp;omega) _
 have u0:w1.heap[w.heap.size]?=some (.cells #[.string ⟨#[65]⟩] 9 (0,0)):=by rw [hw1];exact zar _ (zar _ (zae _ _ rfl))
 have u1:w1.heap[w.heap.size+1]?=some (.cells #[.int .i64 1,.slice (some ⟨w.heap.size,0,none⟩) 1 1,.slice none 0 0] 38 (0,0)):=by rw [hw1];exact zar _ (zae _ _ (by simp))
 have u2:w1.heap[w.heap.size+1+1]?=some (.cells #[.int .i64 7,.int .i64 1,.int .i64 1,.string ⟨#[116]⟩,.slice none 0 0] 41 (0,0)):=by rw [hw1];exact zae _ _ (by simp)
 have hsz:w1.heap.size=w.heap.size+3:=by rw [hw1];simp
 have sl:zak zbq w1 (Old w1) (.slice (some ⟨w.heap.size,0,none⟩) 1 1) [⟨#[65]⟩]:=⟨_,1,rfl,fun _=>⟨w.heap.size,0,_,rfl,by show w.heap.size < w1.heap.size;omega,zb4 u0 0 [.string ⟨#[65]⟩] rfl,RowE.single ⟨rfl,by decide⟩⟩⟩
 have sn:zak za4 w1 (Old w1) (.slice (some ⟨w.heap.size+1,0,none⟩) 1 1) gW.nodes:=⟨_,1,rfl,fun _=>⟨w.heap.size+1,0,_,rfl,by show w.heap.size+1 < w1.heap.size;omega,zb4 u1 0 [.int .i64 1,.slice (some ⟨w.heap.size,0,none⟩) 1 1,.slice none 0 0] rfl,RowE.single ⟨_,_,rfl,by decide,by decide,by decide,sl,zak.nil _ _⟩⟩⟩
 have se:zak zaz w1 (Old w1) (.slice (some ⟨w.heap.size+1+1,0,none⟩) 1 1) gW.edges:=⟨_,1,rfl,fun _=>⟨w.heap.size+1+1,0,_,rfl,by show w.heap.size+1+1 < w1.heap.size;omega,zb4 u2 0 [.int .i64 7,.int .i64 1,.int .i64 1,.string ⟨#[116]⟩,.slice none 0 0] rfl,RowE.single ⟨_,rfl,by decide,by decide,by decide,zak.nil _ _⟩⟩⟩
 have hl:=loadAt gW _ _ w1 (hG.below bw) sn se (by decide) (by decide)
 have HL:=Lib.hid hl
 have HBW:=Lib.hid bw
 have HW:=Lib.hid hw1
 clear hl sn se sl u0 u1 u2 hsz bw hG hw1
 have hf25:=ztg
 go_enter Tryz.func9,Tryz.ntmps9
 go_upto_region 2 with (first
  |(rw [← HW.out];go_at_call 11;go_loud (refine HL.out.mono ?_);rintro e w2 ⟨hb2,hs⟩;rw [if_pos zwh] at hs;obtain ⟨s,rfl,hst⟩:=hs))
 have b2:=zab HBW.out hb2 HBW.out.size
 have HHP:Hid (Calls Tryz.prog 23 #[.pointer (some ⟨s,0,none⟩),.int .i64 1,.int .i64 0,.slice none 0 0] w2 (fun e w'=>∃ p cap,e=.returned (.slice p 1 cap)∧zb3 w' (.slice p 1 cap) [7]∧Below w2.heap.size w2 w')):=Lib.hid (by
  refine (hopsAt w2 s gW hst zju.de zju.ne wW (.slice none 0 0) [] ⟨none,0,rfl,fun h=>absurd rfl h⟩ (by decide)).mono ?_
  rintro e w' ⟨R,rfl,hR,hb⟩
  rw [gW_hops] at hR
  obtain ⟨p,cap,rfl⟩:=zbc hR
  exact ⟨p,cap,rfl,zbe hR,hb⟩)
 have HLB:Hid (∀ W',zdh W' s gW→Calls Tryz.prog 31 #[.pointer (some ⟨s,0,none⟩),.slice (some ⟨W'.heap.size,0,none⟩) 1 1] (W'.alloc (.cells #[.string ⟨#[65]⟩] 9)) (fun e w'=>∃ p cap,e=.returned (.slice p 1 cap)∧zb3 w' (.slice p 1 cap) [1]∧Below W'.heap.size W' w')):=Lib.hid fun W' h=>by
  refine (askLab W' s gW h zju [⟨#[65]⟩] (fun t ht=>by
   obtain rfl:t=⟨#[65]⟩:=by simpa using ht
   decide) (by decide)).mono ?_
  rintro e w' ⟨p,cap,rfl,hi,hb⟩
  rw [gW_lab] at hi ⊢
  exact ⟨p,cap,rfl,hi,hb⟩
 have HPL:Hid (∀ W',zdh W' s gW→Calls Tryz.prog 16 #[.pointer (some ⟨s,0,none⟩)] W' (fun e w'=>∃ pn nn kn pe ke,e=.returned (.agg #[.slice pn nn kn,.slice pe 1 ke])∧Below W'.heap.size W' w')):=Lib.hid fun W' h=>by
  refine (plainAt W' s gW h zju).mono ?_
  intro e w' hp
  obtain ⟨vn,ve,rfl,hn,he,hb⟩:=hp.slices
  obtain ⟨p1,c1,rfl⟩:=hn.slice
  obtain ⟨p2,c2,rfl⟩:=he.slice
  rw [show (za3 gW).edges.length=1 from zet gW]
  exact ⟨p1,_,c1,p2,c2,rfl,hb⟩
 have HEQ:=Lib.hid (fun W' z p cap h=>eqOne W' z p cap h)
 have HST:=Lib.hid hst
 have HB2:=Lib.hid b2
 clear hst hb2 b2 HL HBW HW
 go_wp2_with (first
  |(go_at_call 23;(with_reducible refine HHP.out.mono ?_);rintro e w3 ⟨p3,k3,rfl,hi3,hb3⟩;have B3:=hb3)
  |(go_at_call 24;(with_reducible refine (HEQ.out _ 7 p3 k3 hi3).mono ?_);rintro e w4 ⟨rfl,hb4⟩;have B4:=zab B3 hb4 B3.size;have st4:=HST.out.below B4)
  |(go_at_call 31;(with_reducible refine (HLB.out _ st4).mono ?_);rintro e w5 ⟨p5,k5,rfl,hi5,hb5⟩;have B5:=zab B4 hb5 B4.size)
  |(go_at_call 24;(with_reducible refine (HEQ.out _ 1 p5 k5 hi5).mono ?_);rintro e w6 ⟨rfl,hb6⟩;have B6:=zab B5 hb6 B5.size;have st6:=HST.out.below B6)
  |(go_at_call 16;(with_reducible refine (HPL.out _ st6).mono ?_);rintro e w7 ⟨pn,nn,kn,pe,ke,rfl,hb7⟩;have B7:=zab B6 hb7 B6.size))
 go_ret
 exact ⟨rfl,zab HB2.out B7 HB2.out.size⟩
end Go.Proofs.YtcfmenkigolnoaaGreatDoor

/- GPS -/
namespace Go.Proofs.YtcfmenkigolnoaaGreatDoor
open Go.RowKit
end Go.Proofs.YtcfmenkigolnoaaGreatDoor

/- GLP -/
namespace Go.Proofs.YtcfmenkigolnoaaGreatDoor
open Go.RowKit
structure Run (s gb:Nat) (vn ve:Value) (g:zau) (W:World):Prop where
 st:zdh W s g
 box:W.heap[gb]?=some (.cells #[vn,ve] 25 (0,0))
 ns:zak za4 W (Old W) vn g.nodes
 es:zak zaz W (Old W) ve g.edges
theorem Run.below {W W':World} {s gb:Nat} {vn ve:Value} {g:zau} (h:Run s gb vn ve g W) (b:Below W.heap.size W W'):Run s gb vn ve g W':=
 ⟨h.st.below b,(b.block _ (zaa h.box)).trans h.box,h.ns.stays (zad b),h.es.stays (zad b)⟩
theorem zaq {W W':World} {p:Addr} {v:Value} (h:W.cell? p=some v) (b:Below W.heap.size W W'):W'.cell? p=some v:=(b.cell (p:=p) (World.block_lt_of_cell? W _ h)).trans h
theorem za8 {W W':World} {g o:Nat} {c:List Value} (h:W.rangeAt g o c) (b:Below W.heap.size W W'):W'.rangeAt g o c:=fun j u hj=>zaq (h j u hj) b
end Go.Proofs.YtcfmenkigolnoaaGreatDoor

/- GLM -/
namespace Go.Proofs.YtcfmenkigolnoaaGreatDoor
open Go.RowKit
end Go.Proofs.YtcfmenkigolnoaaGreatDoor
