/- Texts of one kind, one behind the other: each says ahead of itself what it shows. -/
import Derived.Test.YtcfmenkigolnoaaGreatDoorWap
import Derived.Test.YtcfmenkigolnoaaGreatDoorWau
import Derived.Test.YtcfmenkigolnoaaGreatDoorWao
/- GEQ -/
namespace Go.Proofs.YtcfmenkigolnoaaGreatDoor
open Go.RowKit
def YesB (W:World) (e:Ending) (w':World):Prop:=e=.returned (.bool true)∧Below W.heap.size W w'
set_option maxHeartbeats 1600000 in
set_option maxRecDepth 20000 in
theorem zuc (V U:Value) (ts:List ByteArray) (W:World) (h1:zcu W V ts) (h2:zcu W U ts) (hn:ts.length≤2097152):Calls Tryz.prog 51 #[V,U] W (YesB W):=by
 obtain ⟨p1,c1,rfl,hc1⟩:=h1
 obtain ⟨p2,c2,rfl,hc2⟩:=h2
 obtain ⟨n,hl⟩:∃ n,n=ts.length:=⟨_,rfl⟩
 rw [← hl]
 rw [← hl] at hn
 have H1:=Lib.hid hc1
 have H2:=Lib.hid hc2
 have HL:=Lib.hid hl
 clear hc1 hc2 hl
 go_enter Tryz.func51,Tryz.ntmps51
 go_wp2_with fail
 go_loopg [5] n (fun gg s5 wr=>∃ j:Nat,j+gg=n∧s5=.int .i64 j∧Hid (Below W.heap.size W wr))
 case atStart=>exact ⟨0,by omega,rfl,Lib.hid (Below.refl _ _)⟩
 case round=>
  obtain ⟨j,hjg,rfl,HB⟩:=hrel
  by_cases hj:(j:Int) < n
  ·have hj1:j < ts.length:=by have:=HL.out;omega
   obtain ⟨g1,o1,rfl,hcj1⟩:=H1.out (by intro q;rw [q] at hj1;simp at hj1)
   obtain ⟨g2,o2,rfl,hcj2⟩:=H2.out (by intro q;rw [q] at hj1;simp at hj1)
   obtain ⟨x,hx⟩:∃ x,x=ts[j]:=⟨_,rfl⟩
   have e:ts.getD j ByteArray.empty=x:=by rw [hx,List.getD_eq_getElem?_getD,List.getElem?_eq_getElem hj1];rfl
   have k1:=zaq (hcj1 j hj1) HB.out
   have k2:=zaq (hcj2 j hj1) HB.out
   rw [e] at k1 k2
   clear hcj1 hcj2 hx e
   go_upto_region 6 with fail
   go_quiet (fail)
   have HB2:=Lib.hid (HB.out.trans (zbt (Below.refl _ wr) nq |>.mono HB.out.size))
   clear k1 k2 HB
   generalize wr.drewN nq=w9 at*
   go_wp2_with fail
   go_roundg (gk - 1)
   case measure=>omega
   case rel=>exact ⟨j+1,by omega,by go_num,HB2⟩
  ·go_wp2_with fail
   go_ret
   exact ⟨rfl,HB.out⟩
set_option maxHeartbeats 3200000 in
set_option maxRecDepth 20000 in
theorem zm7 (V U:Value) (ps:List zax) (W:World) (h1:zak za0 W (Old W) V ps) (h2:zak za0 W (Old W) U ps) (hn:ps.length≤2097152):Calls Tryz.prog 52 #[V,U] W (YesB W):=by
 obtain ⟨p1,c1,rfl⟩:=h1.slice
 obtain ⟨p2,c2,rfl⟩:=h2.slice
 obtain ⟨n,hl⟩:∃ n,n=ps.length:=⟨_,rfl⟩
 rw [← hl]
 rw [← hl] at hn
 have H1:=Lib.hid h1
 have H2:=Lib.hid h2
 have HL:=Lib.hid hl
 clear h1 h2 hl
 go_enter Tryz.func52,Tryz.ntmps52
 go_wp2_with fail
 go_loopg [5] n (fun gg s5 wr=>∃ j:Nat,j+gg=n∧s5=.int .i64 j∧Hid (Below W.heap.size W wr))
 case atStart=>exact ⟨0,by omega,rfl,Lib.hid (Below.refl _ _)⟩
 case round=>
  obtain ⟨j,hjg,rfl,HB⟩:=hrel
  by_cases hj:(j:Int) < n
  ·have hj1:j < ps.length:=by have:=HL.out;omega
   obtain ⟨g1,o1,cp1,cc1,e1,hg1,hr1,hra1⟩:=(H1.out.stays (zad HB.out)).at_ j hj1
   obtain ⟨g2,o2,cp2,cc2,e2,hg2,hr2,hra2⟩:=(H2.out.stays (zad HB.out)).at_ j hj1
   injection e1 with e11 e12 e13
   injection e2 with e21 e22 e23
   subst e11 e21
   obtain ⟨x,hx⟩:∃ x,x=ps[j]:=⟨_,rfl⟩
   rw [← hx] at hr1 hr2
   obtain ⟨key,⟨k1,b1,i1,t1,x1,q1⟩⟩:=x
   obtain ⟨c61,rfl,hks,hv1⟩:=hr1
   obtain ⟨c62,rfl,_,hv2⟩:=hr2
   have hw1:valE.rel wr (Old wr) c61 (.mk k1 b1 i1 t1 x1 q1):=hv1
   have hw2:valE.rel wr (Old wr) c62 (.mk k1 b1 i1 t1 x1 q1):=hv2
   obtain ⟨L1,rfl,_,hq1⟩:=hv1
   obtain ⟨L2,rfl,_,hq2⟩:=hv2
   obtain ⟨lp1,lc1,rfl⟩:=za5 (zay.held q1 hq1)
   obtain ⟨lp2,lc2,rfl⟩:=za5 (zay.held q1 hq2)
   have ra:wr.rangeAt g1 (o1+j*7) [.string key,.int .i64 k1,.bool b1,.int .i64 i1,.string t1,.string x1,.slice lp1 q1.length lc1]:=hra1
   have rb:wr.rangeAt g2 (o2+j*7) [.string key,.int .i64 k1,.bool b1,.int .i64 i1,.string t1,.string x1,.slice lp2 q1.length lc2]:=hra2
   clear hra1 hra2 hx hks e12 e13 e22 e23 hq1 hq2
   have hB:=HB.out
   clear HB
   go_upto_region 6 with fail
   refine wp_region_held_drew (S:=fun W'=>W'.rangeAt g1 (o1+j*7) [.string key,.int .i64 k1,.bool b1,.int .i64 i1,.string t1,.string x1,.slice lp1 q1.length lc1]∧W'.rangeAt g2 (o2+j*7) [.string key,.int .i64 k1,.bool b1,.int .i64 i1,.string t1,.string x1,.slice lp2 q1.length lc2]) (by kernel_rfl) ⟨ra,rb⟩ (fun _=>?_)
   replace ra:=za8 ra (Below.refl wr.heap.size wr).drew
   replace rb:=za8 rb (Below.refl wr.heap.size wr).drew
   replace hw1:=valE.stays (zad (Below.refl wr.heap.size wr).drew) hw1
   replace hw2:=valE.stays (zad (Below.refl wr.heap.size wr).drew) hw2
   replace hB:=hB.drew
   generalize wr.drew=wD at*
   refine tg (i:=0) (.slice (some ⟨g1,o1,none⟩) n c1) rfl (⟨ra,rb⟩) ?_
   refine tg (i:=1) (.int .i64 (j:Int)) rfl (⟨ra,rb⟩) ?_
   refine tg (i:=5) (.slice (some ⟨g2,o2,none⟩) n c2) rfl (⟨ra,rb⟩) ?_
   refine tg (i:=6) (.int .i64 (j:Int)) rfl (⟨ra,rb⟩) ?_
   refine tg (i:=2) (.pointer (some ⟨g1,o1+j*7,none⟩)) rfl (⟨ra,rb⟩) ?_
   refine tg (i:=7) (.pointer (some ⟨g2,o2+j*7,none⟩)) rfl (⟨ra,rb⟩) ?_
   refine tg (i:=3) (.pointer (some ⟨g1,o1+j*7,none⟩)) rfl (⟨ra,rb⟩) ?_
   refine tg (i:=8) (.pointer (some ⟨g2,o2+j*7,none⟩)) rfl (⟨ra,rb⟩) ?_
   refine tk (i:=4) (v:=.string key) rfl (Or.inl ⟨by rfl,fun W' h=>by have c0:W'.cell? ⟨g1,o1+j*7,none⟩=some (.string key):=(by have q:=h.1 0 _ rfl;simpa using q);go_simp⟩) (⟨ra,rb⟩) ?_
   refine tk (i:=9) (v:=.string key) rfl (Or.inl ⟨by rfl,fun W' h=>by have c0:W'.cell? ⟨g2,o2+j*7,none⟩=some (.string key):=(by have q:=h.2 0 _ rfl;simpa using q);go_simp⟩) (⟨ra,rb⟩) ?_
   refine tg (i:=10) (.bool false) rfl (⟨ra,rb⟩) ?_
   refine tg (i:=11) (.bool false) rfl (⟨ra,rb⟩) ?_
   refine tg (i:=12) (.slice (some ⟨g1,o1,none⟩) n c1) rfl (⟨ra,rb⟩) ?_
   refine tg (i:=13) (.int .i64 (j:Int)) rfl (⟨ra,rb⟩) ?_
   refine tg (i:=17) (.slice (some ⟨g2,o2,none⟩) n c2) rfl (⟨ra,rb⟩) ?_
   refine tg (i:=18) (.int .i64 (j:Int)) rfl (⟨ra,rb⟩) ?_
   refine tg (i:=14) (.pointer (some ⟨g1,o1+j*7,none⟩)) rfl (⟨ra,rb⟩) ?_
   refine tg (i:=19) (.pointer (some ⟨g2,o2+j*7,none⟩)) rfl (⟨ra,rb⟩) ?_
   refine tg (i:=15) (.pointer (some ⟨g1,o1+j*7+1,none⟩)) rfl (⟨ra,rb⟩) ?_
   refine tg (i:=20) (.pointer (some ⟨g2,o2+j*7+1,none⟩)) rfl (⟨ra,rb⟩) ?_
   refine tk (i:=16) (v:=.agg #[.int .i64 k1,.bool b1,.int .i64 i1,.string t1,.string x1,.slice lp1 q1.length lc1]) rfl (yieldsIf_load_mid (by rfl) 60 (.tmp 32) rfl g1 (o1+j*7+1) rfl [.int .i64 k1,.bool b1,.int .i64 i1,.string t1,.string x1,.slice lp1 q1.length lc1] _ (fun W' h=>zgc h.1) Tryz.underlying60 rfl zcg) (⟨ra,rb⟩) ?_
   refine tk (i:=21) (v:=.agg #[.int .i64 k1,.bool b1,.int .i64 i1,.string t1,.string x1,.slice lp2 q1.length lc2]) rfl (yieldsIf_load_mid (by rfl) 60 (.tmp 37) rfl g2 (o2+j*7+1) rfl [.int .i64 k1,.bool b1,.int .i64 i1,.string t1,.string x1,.slice lp2 q1.length lc2] _ (fun W' h=>zgc h.2) Tryz.underlying60 rfl zcg) (⟨ra,rb⟩) ?_
   refine tr 22 rfl (fun K hK=>?_)
   have HSM:=Lib.hid (ztf _ _ _ _ wD _ _ hw1 hw2)
   rw [zi7] at HSM
   rw [if_pos (by rfl)]
   go_simp
   refine HSM.out.mono ?_
   rintro e0 w3 ⟨rfl,hb3⟩
   replace ra:=za8 ra hb3
   replace rb:=za8 rb hb3
   replace hB:=zab hB hb3 hB.size
   clear hb3
   refine hK.out _ _ (⟨ra,rb⟩) (fun _=>?_)
   clear hK K
   try simp only [putS]
   refine tg (i:=23) (.bool false) rfl (⟨ra,rb⟩) ?_
   refine tg (i:=24) (.bool false) rfl (⟨ra,rb⟩) ?_
   refine wpAnyH_done (by kernel_rfl) ?_ _
   clear ra rb hw1 hw2
   go_wp2_with fail
   go_roundg (gk - 1)
   case measure=>omega
   case rel=>exact ⟨j+1,by omega,by go_num,Lib.hid hB⟩
  ·go_wp2_with fail
   go_ret
   exact ⟨rfl,HB.out⟩
set_option maxHeartbeats 3200000 in
set_option maxRecDepth 20000 in
theorem zv2 (a:zap) (c1 c2:List Value) (W:World) (h1:za4.rel W (Old W) c1 a) (h2:za4.rel W (Old W) c2 a):Calls Tryz.prog 21 #[.agg c1.toArray,.agg c2.toArray] W (YesB W):=by
 obtain ⟨id,ls,ps⟩:=a
 obtain ⟨lv1,pv1,rfl,hid,hn1,hn2,hl1,hp1⟩:=h1
 obtain ⟨lv2,pv2,rfl,_,_,_,hl2,hp2⟩:=h2
 replace hn1:ls.length≤2097152:=hn1
 replace hn2:ps.length≤2097152:=hn2
 obtain ⟨lp1,lc1,rfl⟩:=hl1.slice
 obtain ⟨lp2,lc2,rfl⟩:=hl2.slice
 obtain ⟨pp1,pc1,rfl⟩:=hp1.slice
 obtain ⟨pp2,pc2,rfl⟩:=hp2.slice
 have b0:Below W.heap.size W ((W.alloc (.cells #[.int .i64 id,.slice lp1 ls.length lc1,.slice pp1 ps.length pc1] 38)).alloc (.cells #[.int .i64 id,.slice lp2 ls.length lc2,.slice pp2 ps.length pc2] 38)):=zbk _ _ _
 have u1:((W.alloc (.cells #[.int .i64 id,.slice lp1 ls.length lc1,.slice pp1 ps.length pc1] 38)).alloc (.cells #[.int .i64 id,.slice lp2 ls.length lc2,.slice pp2 ps.length pc2] 38)).heap[W.heap.size]?=some (.cells #[.int .i64 id,.slice lp1 ls.length lc1,.slice pp1 ps.length pc1] 38 (0,0)):=zar _ (zae _ _ rfl)
 have u2:((W.alloc (.cells #[.int .i64 id,.slice lp1 ls.length lc1,.slice pp1 ps.length pc1] 38)).alloc (.cells #[.int .i64 id,.slice lp2 ls.length lc2,.slice pp2 ps.length pc2] 38)).heap[W.heap.size+1]?=some (.cells #[.int .i64 id,.slice lp2 ls.length lc2,.slice pp2 ps.length pc2] 38 (0,0)):=zae _ _ (by simp)
 obtain ⟨W0,hW0⟩:∃ W0,W0=((W.alloc (.cells #[.int .i64 id,.slice lp1 ls.length lc1,.slice pp1 ps.length pc1] 38)).alloc (.cells #[.int .i64 id,.slice lp2 ls.length lc2,.slice pp2 ps.length pc2] 38)):=⟨_,rfl⟩
 rw [← hW0] at u1 u2 b0
 have H0:=Lib.hid hW0
 have HT:Hid (Calls Tryz.prog 51 #[.slice lp1 ls.length lc1,.slice lp2 ls.length lc2] W0 (YesB W0)):=Lib.hid (zuc _ _ ls W0 (zc1 (hl1.stays (zad b0))) (zc1 (hl2.stays (zad b0))) hn1)
 have HP:Hid (∀ W',Below W.heap.size W W'→Calls Tryz.prog 52 #[.slice pp1 ps.length pc1,.slice pp2 ps.length pc2] W' (YesB W')):=Lib.hid fun W' b=>zm7 _ _ ps W' (hp1.stays (zad b)) (hp2.stays (zad b)) hn2
 have k1:=zac u1 0 rfl
 have k2:=zac u2 0 rfl
 have k3:=zac u1 1 rfl
 have k4:=zac u2 1 rfl
 show Calls Tryz.prog 21 #[.agg #[.int .i64 id,.slice lp1 ls.length lc1,.slice pp1 ps.length pc1],.agg #[.int .i64 id,.slice lp2 ls.length lc2,.slice pp2 ps.length pc2]] W (YesB W)
 clear hW0 hl1 hl2 hp1 hp2 hn1 hn2 hid
 go_enter Tryz.func21,Tryz.ntmps21
 go_upto_region 1 with fail
 rw [← H0.out]
 go_wp2_with (first
  |(go_at_call 51;(with_reducible refine HT.out.mono ?_);rintro e w1 ⟨rfl,hb1⟩
    have b1:=zab b0 hb1 b0.size
    have k5:=zac ((hb1.block _ (zaa u1)).trans u1) 2 rfl
    have k6:=zac ((hb1.block _ (zaa u2)).trans u2) 2 rfl)
  |(go_at_call 52;(with_reducible refine (HP.out _ b1).mono ?_);rintro e w2 ⟨rfl,hb2⟩))
 go_ret
 exact ⟨rfl,zab b1 hb2 b1.size⟩
set_option maxHeartbeats 3200000 in
set_option maxRecDepth 20000 in
theorem zv3 (a:zat) (c1 c2:List Value) (W:World) (h1:zaz.rel W (Old W) c1 a) (h2:zaz.rel W (Old W) c2 a):Calls Tryz.prog 22 #[.agg c1.toArray,.agg c2.toArray] W (YesB W):=by
 obtain ⟨id,src,dst,ty,ps⟩:=a
 obtain ⟨pv1,rfl,hid,hn1,hn2,hp1⟩:=h1
 obtain ⟨pv2,rfl,_,_,_,hp2⟩:=h2
 replace hn2:ps.length≤2097152:=hn2
 obtain ⟨pp1,pc1,rfl⟩:=hp1.slice
 obtain ⟨pp2,pc2,rfl⟩:=hp2.slice
 have b0:Below W.heap.size W ((W.alloc (.cells #[.int .i64 id,.int .i64 src,.int .i64 dst,.string ty,.slice pp1 ps.length pc1] 41)).alloc (.cells #[.int .i64 id,.int .i64 src,.int .i64 dst,.string ty,.slice pp2 ps.length pc2] 41)):=zbk _ _ _
 have u1:((W.alloc (.cells #[.int .i64 id,.int .i64 src,.int .i64 dst,.string ty,.slice pp1 ps.length pc1] 41)).alloc (.cells #[.int .i64 id,.int .i64 src,.int .i64 dst,.string ty,.slice pp2 ps.length pc2] 41)).heap[W.heap.size]?=some (.cells #[.int .i64 id,.int .i64 src,.int .i64 dst,.string ty,.slice pp1 ps.length pc1] 41 (0,0)):=zar _ (zae _ _ rfl)
 have u2:((W.alloc (.cells #[.int .i64 id,.int .i64 src,.int .i64 dst,.string ty,.slice pp1 ps.length pc1] 41)).alloc (.cells #[.int .i64 id,.int .i64 src,.int .i64 dst,.string ty,.slice pp2 ps.length pc2] 41)).heap[W.heap.size+1]?=some (.cells #[.int .i64 id,.int .i64 src,.int .i64 dst,.string ty,.slice pp2 ps.length pc2] 41 (0,0)):=zae _ _ (by simp)
 obtain ⟨W0,hW0⟩:∃ W0,W0=((W.alloc (.cells #[.int .i64 id,.int .i64 src,.int .i64 dst,.string ty,.slice pp1 ps.length pc1] 41)).alloc (.cells #[.int .i64 id,.int .i64 src,.int .i64 dst,.string ty,.slice pp2 ps.length pc2] 41)):=⟨_,rfl⟩
 rw [← hW0] at u1 u2 b0
 have H0:=Lib.hid hW0
 have HP:Hid (∀ W',Below W.heap.size W W'→Calls Tryz.prog 52 #[.slice pp1 ps.length pc1,.slice pp2 ps.length pc2] W' (YesB W')):=Lib.hid fun W' b=>zm7 _ _ ps W' (hp1.stays (zad b)) (hp2.stays (zad b)) hn2
 have k1:=zac u1 0 rfl
 have k2:=zac u2 0 rfl
 have k3:=zac u1 1 rfl
 have k4:=zac u2 1 rfl
 have k5:=zac u1 2 rfl
 have k6:=zac u2 2 rfl
 have k7:=zac u1 3 rfl
 have k8:=zac u2 3 rfl
 have k9:=zac u1 4 rfl
 have k10:=zac u2 4 rfl
 show Calls Tryz.prog 22 #[.agg #[.int .i64 id,.int .i64 src,.int .i64 dst,.string ty,.slice pp1 ps.length pc1],.agg #[.int .i64 id,.int .i64 src,.int .i64 dst,.string ty,.slice pp2 ps.length pc2]] W (YesB W)
 clear hW0 hp1 hp2 hn1 hn2 hid
 go_enter Tryz.func22,Tryz.ntmps22
 go_upto_region 1 with fail
 rw [← H0.out]
 go_wp2_with (first
  |(go_at_call 52;(with_reducible refine (HP.out _ b0).mono ?_);rintro e w2 ⟨rfl,hb2⟩))
 go_ret
 exact ⟨rfl,zab b0 hb2 b0.size⟩
set_option maxHeartbeats 6400000 in
set_option maxRecDepth 20000 in
theorem zm8 (g:zau) (vn ve un ue:Value) (W:World) (h1:zak za4 W (Old W) vn g.nodes) (h2:zak zaz W (Old W) ve g.edges) (h3:zak za4 W (Old W) un g.nodes) (h4:zak zaz W (Old W) ue g.edges) (hn1:g.nodes.length≤2097152) (hn2:g.edges.length≤2097152):
 Calls Tryz.prog 12 #[.agg #[vn,ve],.agg #[un,ue]] W (YesB W):=by
 obtain ⟨p1,c1,rfl⟩:=h1.slice
 obtain ⟨p2,c2,rfl⟩:=h2.slice
 obtain ⟨p3,c3,rfl⟩:=h3.slice
 obtain ⟨p4,c4,rfl⟩:=h4.slice
 obtain ⟨n1,hl1⟩:∃ n,n=g.nodes.length:=⟨_,rfl⟩
 obtain ⟨n2,hl2⟩:∃ n,n=g.edges.length:=⟨_,rfl⟩
 rw [← hl1,← hl2]
 rw [← hl1] at h1 h3 hn1
 rw [← hl2] at h2 h4 hn2
 have b0:Below W.heap.size W ((W.alloc (.cells #[.slice p1 n1 c1,.slice p2 n2 c2] 25)).alloc (.cells #[.slice p3 n1 c3,.slice p4 n2 c4] 25)):=zbk _ _ _
 have u1:((W.alloc (.cells #[.slice p1 n1 c1,.slice p2 n2 c2] 25)).alloc (.cells #[.slice p3 n1 c3,.slice p4 n2 c4] 25)).heap[W.heap.size]?=some (.cells #[.slice p1 n1 c1,.slice p2 n2 c2] 25 (0,0)):=zar _ (zae _ _ rfl)
 have u2:((W.alloc (.cells #[.slice p1 n1 c1,.slice p2 n2 c2] 25)).alloc (.cells #[.slice p3 n1 c3,.slice p4 n2 c4] 25)).heap[W.heap.size+1]?=some (.cells #[.slice p3 n1 c3,.slice p4 n2 c4] 25 (0,0)):=zae _ _ (by simp)
 obtain ⟨W0,hW0⟩:∃ W0,W0=((W.alloc (.cells #[.slice p1 n1 c1,.slice p2 n2 c2] 25)).alloc (.cells #[.slice p3 n1 c3,.slice p4 n2 c4] 25)):=⟨_,rfl⟩
 rw [← hW0] at u1 u2 b0
 have H0:=Lib.hid hW0
 have H1:=Lib.hid (h1.stays (zad b0))
 have H2:=Lib.hid (h2.stays (zad b0))
 have H3:=Lib.hid (h3.stays (zad b0))
 have H4:=Lib.hid (h4.stays (zad b0))
 have HL:=Lib.hid (And.intro hl1 hl2)
 have HU:=Lib.hid (And.intro u1 u2)
 have k0:=zac u1 0 rfl
 have k1:=zac u1 1 rfl
 have k2:=zac u2 0 rfl
 have k3:=zac u2 1 rfl
 clear hW0 h1 h2 h3 h4 hl1 hl2
 go_enter Tryz.func12,Tryz.ntmps12
 go_upto_region 1 with fail
 rw [← H0.out]
 go_upto_block 0 with fail
 clear k0 k1 k2 k3 u1 u2
 go_cut [5] (fun _ wx=>Hid (Below W0.heap.size W0 wx))
 case first=>
  go_wp2_with fail
  go_loopg [5] n1 (fun gg s5 wr=>∃ i:Nat,i+gg=n1∧s5=.int .i64 i∧Hid (Below W0.heap.size W0 wr))
  case atStart=>exact ⟨0,by omega,rfl,Lib.hid (Below.refl _ _)⟩
  case round=>
   obtain ⟨i,hig,rfl,HB⟩:=hrel
   have u1:=(HB.out.block _ (zaa HU.out.1)).trans HU.out.1
   have u2:=(HB.out.block _ (zaa HU.out.2)).trans HU.out.2
   have k0:=zac u1 0 rfl
   by_cases hi:(i:Int) < n1
   ·have hi1:i < g.nodes.length:=by have:=HL.out.1;omega
    obtain ⟨g1,o1,d1,cc1,e1,hg1,hr1,hra1⟩:=(H1.out.stays (zad HB.out)).at_ i hi1
    obtain ⟨g2,o2,d2,cc2,e2,hg2,hr2,hra2⟩:=(H3.out.stays (zad HB.out)).at_ i hi1
    injection e1 with e11 e12 e13
    injection e2 with e21 e22 e23
    subst e11 e21
    obtain ⟨a,ha⟩:∃ a,a=g.nodes[i]:=⟨_,rfl⟩
    rw [← ha] at hr1 hr2
    have hl1:cc1.length=3:=za4.len hr1
    have hl2:cc2.length=3:=za4.len hr2
    have hw1:=hr1
    have hw2:=hr2
    obtain ⟨lv1,pv1,rfl,_⟩:=hr1
    obtain ⟨lv2,pv2,rfl,_⟩:=hr2
    obtain ⟨id,hid⟩:∃ id,id=a.id:=⟨_,rfl⟩
    rw [← hid] at hra1 hra2 hw1 hw2
    have ra:wr.rangeAt g1 (o1+i*3) [.int .i64 id,lv1,pv1]:=hra1
    have rb:wr.rangeAt g2 (o2+i*3) [.int .i64 id,lv2,pv2]:=hra2
    have hB:=HB.out
    clear hra1 hra2 ha e12 e13 e22 e23 hid hl1 hl2
    go_upto_region 6 with fail
    clear k0
    refine wp_region_held_drew (S:=fun W'=>W'.heap[W.heap.size]?=some (.cells #[.slice (some ⟨g1,o1,none⟩) n1 c1,.slice p2 n2 c2] 25 (0,0))∧W'.heap[W.heap.size+1]?=some (.cells #[.slice (some ⟨g2,o2,none⟩) n1 c3,.slice p4 n2 c4] 25 (0,0))∧W'.rangeAt g1 (o1+i*3) [.int .i64 id,lv1,pv1]∧W'.rangeAt g2 (o2+i*3) [.int .i64 id,lv2,pv2]) (by kernel_rfl) ⟨u1,u2,ra,rb⟩ (fun _=>?_)
    replace u1:wr.drew.heap[W.heap.size]?=_:=u1
    replace u2:wr.drew.heap[W.heap.size+1]?=_:=u2
    replace ra:=za8 ra (Below.refl wr.heap.size wr).drew
    replace rb:=za8 rb (Below.refl wr.heap.size wr).drew
    replace hw1:=za4.stays (zad (Below.refl wr.heap.size wr).drew) hw1
    replace hw2:=za4.stays (zad (Below.refl wr.heap.size wr).drew) hw2
    replace hB:=hB.drew
    have HEQ:=Lib.hid (zv2 a _ _ wr.drew hw1 hw2)
    clear hw1 hw2 HB
    generalize wr.drew=wD at*
    refine tg (i:=0) (.pointer (some ⟨W.heap.size,0,none⟩)) rfl (⟨u1,u2,ra,rb⟩) ?_
    refine tg (i:=2) (.int .i64 (i:Int)) rfl (⟨u1,u2,ra,rb⟩) ?_
    refine tg (i:=5) (.pointer (some ⟨W.heap.size+1,0,none⟩)) rfl (⟨u1,u2,ra,rb⟩) ?_
    refine tg (i:=7) (.int .i64 (i:Int)) rfl (⟨u1,u2,ra,rb⟩) ?_
    refine tk (i:=1) (v:=.slice (some ⟨g1,o1,none⟩) n1 c1) rfl (Or.inl ⟨by rfl,fun W' h=>by have c0:=zac h.1 0 rfl;go_simp⟩) (⟨u1,u2,ra,rb⟩) ?_
    refine tk (i:=6) (v:=.slice (some ⟨g2,o2,none⟩) n1 c3) rfl (Or.inl ⟨by rfl,fun W' h=>by have c0:=zac h.2.1 0 rfl;go_simp⟩) (⟨u1,u2,ra,rb⟩) ?_
    refine tg (i:=3) (.pointer (some ⟨g1,o1+i*3,none⟩)) rfl (⟨u1,u2,ra,rb⟩) ?_
    refine tg (i:=8) (.pointer (some ⟨g2,o2+i*3,none⟩)) rfl (⟨u1,u2,ra,rb⟩) ?_
    refine tk (i:=4) (v:=.agg #[.int .i64 id,lv1,pv1]) rfl (yieldsIf_load_mid (by rfl) 38 (.tmp 33) rfl g1 (o1+i*3) rfl [.int .i64 id,lv1,pv1] _ (fun W' h=>h.2.2.1) Tryz.underlying38 rfl zal) (⟨u1,u2,ra,rb⟩) ?_
    refine tk (i:=9) (v:=.agg #[.int .i64 id,lv2,pv2]) rfl (yieldsIf_load_mid (by rfl) 38 (.tmp 38) rfl g2 (o2+i*3) rfl [.int .i64 id,lv2,pv2] _ (fun W' h=>h.2.2.2) Tryz.underlying38 rfl zal) (⟨u1,u2,ra,rb⟩) ?_
    refine tr 10 rfl (fun K hK=>?_)
    rw [if_pos (by rfl)]
    go_simp
    refine HEQ.out.mono ?_
    rintro e0 w3 ⟨rfl,hb3⟩
    replace u1:=(hb3.block _ (zaa u1)).trans u1
    replace u2:=(hb3.block _ (zaa u2)).trans u2
    replace ra:=za8 ra hb3
    replace rb:=za8 rb hb3
    replace hB:=zab hB hb3 hB.size
    clear hb3
    refine hK.out _ _ (⟨u1,u2,ra,rb⟩) (fun _=>?_)
    clear hK K
    try simp only [putS]
    refine tg (i:=11) (.bool false) rfl (⟨u1,u2,ra,rb⟩) ?_
    refine wpAnyH_done (by kernel_rfl) ?_ _
    clear u1 u2 ra rb
    go_wp2_with fail
    go_roundg (gk - 1)
    case measure=>omega
    case rel=>exact ⟨i+1,by omega,by go_num,Lib.hid hB⟩
   ·go_wp2_with fail
    go_meet
    case rel=>exact HB
 case rest=>
  have HB0:=hcut
  clear hcut
  go_wp2_with fail
  go_loopg [6] n2 (fun gg s6 wr=>∃ i:Nat,i+gg=n2∧s6=.int .i64 i∧Hid (Below W0.heap.size W0 wr))
  case atStart=>exact ⟨0,by omega,rfl,HB0⟩
  case round=>
   obtain ⟨i,hig,rfl,HB⟩:=hrel
   have u1:=(HB.out.block _ (zaa HU.out.1)).trans HU.out.1
   have u2:=(HB.out.block _ (zaa HU.out.2)).trans HU.out.2
   have k0:=zac u1 1 rfl
   by_cases hi:(i:Int) < n2
   ·have hi1:i < g.edges.length:=by have:=HL.out.2;omega
    obtain ⟨g1,o1,d1,cc1,e1,hg1,hr1,hra1⟩:=(H2.out.stays (zad HB.out)).at_ i hi1
    obtain ⟨g2,o2,d2,cc2,e2,hg2,hr2,hra2⟩:=(H4.out.stays (zad HB.out)).at_ i hi1
    injection e1 with e11 e12 e13
    injection e2 with e21 e22 e23
    subst e11 e21
    obtain ⟨a,ha⟩:∃ a,a=g.edges[i]:=⟨_,rfl⟩
    rw [← ha] at hr1 hr2
    have hw1:=hr1
    have hw2:=hr2
    obtain ⟨pv1,rfl,_⟩:=hr1
    obtain ⟨pv2,rfl,_⟩:=hr2
    obtain ⟨id,src,dst,ty,ps⟩:=a
    have ra:wr.rangeAt g1 (o1+i*5) [.int .i64 id,.int .i64 src,.int .i64 dst,.string ty,pv1]:=hra1
    have rb:wr.rangeAt g2 (o2+i*5) [.int .i64 id,.int .i64 src,.int .i64 dst,.string ty,pv2]:=hra2
    have hx1:zaz.rel wr (Old wr) [.int .i64 id,.int .i64 src,.int .i64 dst,.string ty,pv1] ⟨id,src,dst,ty,ps⟩:=hw1
    have hx2:zaz.rel wr (Old wr) [.int .i64 id,.int .i64 src,.int .i64 dst,.string ty,pv2] ⟨id,src,dst,ty,ps⟩:=hw2
    have hB:=HB.out
    clear hra1 hra2 ha e12 e13 e22 e23 hw1 hw2
    go_upto_region 11 with fail
    clear k0
    refine wp_region_held_drew (S:=fun W'=>W'.heap[W.heap.size]?=some (.cells #[.slice p1 n1 c1,.slice (some ⟨g1,o1,none⟩) n2 c2] 25 (0,0))∧W'.heap[W.heap.size+1]?=some (.cells #[.slice p3 n1 c3,.slice (some ⟨g2,o2,none⟩) n2 c4] 25 (0,0))∧W'.rangeAt g1 (o1+i*5) [.int .i64 id,.int .i64 src,.int .i64 dst,.string ty,pv1]∧W'.rangeAt g2 (o2+i*5) [.int .i64 id,.int .i64 src,.int .i64 dst,.string ty,pv2]) (by kernel_rfl) ⟨u1,u2,ra,rb⟩ (fun _=>?_)
    replace u1:wr.drew.heap[W.heap.size]?=_:=u1
    replace u2:wr.drew.heap[W.heap.size+1]?=_:=u2
    replace ra:=za8 ra (Below.refl wr.heap.size wr).drew
    replace rb:=za8 rb (Below.refl wr.heap.size wr).drew
    replace hx1:=zaz.stays (zad (Below.refl wr.heap.size wr).drew) hx1
    replace hx2:=zaz.stays (zad (Below.refl wr.heap.size wr).drew) hx2
    replace hB:=hB.drew
    have HEQ:=Lib.hid (zv3 _ _ _ wr.drew hx1 hx2)
    clear hx1 hx2 HB
    generalize wr.drew=wD at*
    refine tg (i:=0) (.pointer (some ⟨W.heap.size,1,none⟩)) rfl (⟨u1,u2,ra,rb⟩) ?_
    refine tg (i:=2) (.int .i64 (i:Int)) rfl (⟨u1,u2,ra,rb⟩) ?_
    refine tg (i:=5) (.pointer (some ⟨W.heap.size+1,1,none⟩)) rfl (⟨u1,u2,ra,rb⟩) ?_
    refine tg (i:=7) (.int .i64 (i:Int)) rfl (⟨u1,u2,ra,rb⟩) ?_
    refine tk (i:=1) (v:=.slice (some ⟨g1,o1,none⟩) n2 c2) rfl (Or.inl ⟨by rfl,fun W' h=>by have c0:=zac h.1 1 rfl;go_simp⟩) (⟨u1,u2,ra,rb⟩) ?_
    refine tk (i:=6) (v:=.slice (some ⟨g2,o2,none⟩) n2 c4) rfl (Or.inl ⟨by rfl,fun W' h=>by have c0:=zac h.2.1 1 rfl;go_simp⟩) (⟨u1,u2,ra,rb⟩) ?_
    refine tg (i:=3) (.pointer (some ⟨g1,o1+i*5,none⟩)) rfl (⟨u1,u2,ra,rb⟩) ?_
    refine tg (i:=8) (.pointer (some ⟨g2,o2+i*5,none⟩)) rfl (⟨u1,u2,ra,rb⟩) ?_
    refine tk (i:=4) (v:=.agg #[.int .i64 id,.int .i64 src,.int .i64 dst,.string ty,pv1]) rfl (yieldsIf_load_mid (by rfl) 41 (.tmp 52) rfl g1 (o1+i*5) rfl [.int .i64 id,.int .i64 src,.int .i64 dst,.string ty,pv1] _ (fun W' h=>h.2.2.1) Tryz.underlying41 rfl zan) (⟨u1,u2,ra,rb⟩) ?_
    refine tk (i:=9) (v:=.agg #[.int .i64 id,.int .i64 src,.int .i64 dst,.string ty,pv2]) rfl (yieldsIf_load_mid (by rfl) 41 (.tmp 57) rfl g2 (o2+i*5) rfl [.int .i64 id,.int .i64 src,.int .i64 dst,.string ty,pv2] _ (fun W' h=>h.2.2.2) Tryz.underlying41 rfl zan) (⟨u1,u2,ra,rb⟩) ?_
    refine tr 10 rfl (fun K hK=>?_)
    rw [if_pos (by rfl)]
    go_simp
    refine HEQ.out.mono ?_
    rintro e0 w3 ⟨rfl,hb3⟩
    replace u1:=(hb3.block _ (zaa u1)).trans u1
    replace u2:=(hb3.block _ (zaa u2)).trans u2
    replace ra:=za8 ra hb3
    replace rb:=za8 rb hb3
    replace hB:=zab hB hb3 hB.size
    clear hb3
    refine hK.out _ _ (⟨u1,u2,ra,rb⟩) (fun _=>?_)
    clear hK K
    try simp only [putS]
    refine tg (i:=11) (.bool false) rfl (⟨u1,u2,ra,rb⟩) ?_
    refine wpAnyH_done (by kernel_rfl) ?_ _
    clear u1 u2 ra rb
    go_wp2_with fail
    go_roundg (gk - 1)
    case measure=>omega
    case rel=>exact ⟨i+1,by omega,by go_num,Lib.hid hB⟩
   ·go_wp2_with fail
    go_ret
    exact ⟨rfl,zab b0 HB.out b0.size⟩
end Go.Proofs.YtcfmenkigolnoaaGreatDoor

/- GRZ -/
namespace Go.Proofs.YtcfmenkigolnoaaGreatDoor
open Go.RowKit
def nilK (v:Value):Prop:=∀ n c,v=.slice none n c→n=0∧c=0
def zgw:Elem zap where
 k:=3
 rel:=fun w P xs a=>za4.rel w P xs a∧∀ v,xs[1]?=some v→capK v∧nilK v
 len:=fun h=>za4.len h.1
 one:=fun h=>za4.one h.1
 stays:=fun s h=>⟨za4.stays s h.1,h.2⟩
theorem zpg {w:World} {P:Nat→Prop}:{xs:List Value}→(l:List zap)→RowE zgw w P xs l→RowE za4 w P xs l
 | _,[],h=>h
 | _,_::l,⟨c,ys,e,h,hr⟩=>⟨c,ys,e,h.1,zpg l hr⟩
theorem zda {w:World} {P:Nat→Prop} {v:Value} {l:List zap} (h:zak zgw w P v l):zak za4 w P v l:=by
 obtain ⟨p,cap,e,h⟩:=h
 refine ⟨p,cap,e,fun hne=>?_⟩
 obtain ⟨g,off,xs,e,hg,hr,he⟩:=h hne
 exact ⟨g,off,xs,e,hg,hr,zpg l he⟩
def allN {α:Type} (p:α→Bool) (id:α→Int) (l:List α):Bool:=l.all p && decide (l.map id).Nodup
theorem zig {α:Type} (p:α→Bool) (id:α→Int) (l:List α) (i:Nat) (hi:i < l.length):allN p id (l.take (i+1))=(allN p id (l.take i) && (p l[i] && !decide (id l[i]∈(l.map id).take i))):=by
 unfold allN
 rw [List.take_succ_eq_append_getElem hi,List.all_append,List.map_append,← List.map_take,Bool.eq_iff_iff]
 simp only [Bool.and_eq_true,decide_eq_true_eq,List.nodup_append,List.all_cons,List.all_nil,List.map_cons,List.map_nil,List.mem_singleton,Bool.not_eq_true',decide_eq_false_iff_not,and_true]
 constructor
 ·rintro ⟨⟨h1,h2⟩,h3,_,h5⟩
  exact ⟨⟨h1,h3⟩,h2,fun h=>h5 _ h _ rfl rfl⟩
 ·rintro ⟨⟨h1,h3⟩,h2,h4⟩
  refine ⟨⟨h1,h2⟩,h3,by simp,fun a ha b hb e=>?_⟩
  subst hb e
  exact h4 ha
theorem zud {α:Type} {p:α→Bool} {id:α→Int} {l:List α} {i:Nat} (hi:i < l.length) (h:(p l[i] && !decide (id l[i]∈(l.map id).take i))=false):allN p id l=false:=by
 have h1:allN p id (l.take (i+1))=false:=by rw [zig p id l i hi,h,Bool.and_false]
 rw [Bool.eq_false_iff] at h1 ⊢
 intro q
 refine h1 ?_
 unfold allN at q ⊢
 simp only [Bool.and_eq_true,decide_eq_true_eq,List.all_eq_true] at q ⊢
 refine ⟨fun x hx=>q.1 x (List.mem_of_mem_take hx),?_⟩
 rw [List.map_take]
 exact q.2.sublist (List.take_sublist _ _)
theorem zew (g:zau):zdt g=((decide (g.nodes.length≤131072) && decide (g.edges.length≤65536)) && (allN ze9 zap.id g.nodes && allN (zfo (idsN g)) zat.id g.edges)):=by
 unfold zdt allN
 rw [show idsE g=g.edges.map zat.id from rfl,show idsN g=g.nodes.map zap.id from rfl]
 ac_rfl
def zea (ids:List Int) (x r:Int):Prop:=(∃ j:Nat,r=j∧ids[j]?=some x∧∀ i:Nat,i < j→ids[i]?≠some x)∨(r=-1∧¬ x∈ids)
theorem zf6 {ids:List Int} {x r:Int} (h:zea ids x r):r < 0↔¬ x∈ids:=by
 rcases h with ⟨j,rfl,h1,_⟩ | ⟨rfl,h1⟩
 ·constructor
  ·intro h;omega
  ·intro h;exact absurd (List.mem_of_getElem? h1) h
 ·exact ⟨fun _=>h1,fun _=>by decide⟩
theorem zph {ids:List Int} {x r:Int} (h:zea ids x r) {j:Nat} (hj:ids[j]?=some x):r=j↔¬ x∈ids.take j:=by
 rcases h with ⟨k,rfl,h1,h2⟩ | ⟨rfl,h1⟩
 ·constructor
  ·intro h q
   have e:k=j:=by omega
   subst e
   obtain ⟨i,hi,e⟩:=List.mem_iff_getElem.1 q
   rw [List.length_take] at hi
   refine h2 i (by omega) ?_
   rw [List.getElem?_eq_getElem (by omega),← e,List.getElem_take]
  ·intro h
   by_cases q:k < j
   ·refine absurd (List.mem_iff_getElem?.2 ⟨k,?_⟩) h
    rw [List.getElem?_take,if_pos q,h1]
   ·by_cases q2:j < k
    ·exact absurd hj (h2 j q2)
    ·omega
 ·exact absurd (List.mem_of_getElem? hj) h1
set_option maxHeartbeats 3200000 in
set_option maxRecDepth 20000 in
theorem zm9 (ns:List zap) (V U:Value) (x:Int) (W:World) (h:zak za4 W (Old W) V ns) (hU:∃ p n c,U=.slice p n c) (hn:ns.length≤2097152):
 Calls Tryz.prog 39 #[.agg #[V,U],.int .i64 x] W fun e w'=>∃ r,e=.returned (.int .i64 r)∧zea (ns.map zap.id) x r∧Below W.heap.size W w':=by
 obtain ⟨p,cap,rfl⟩:=h.slice
 obtain ⟨p2,n2,c2,rfl⟩:=hU
 obtain ⟨n,hl⟩:∃ n,n=ns.length:=⟨_,rfl⟩
 rw [← hl]
 rw [← hl] at h hn
 have b0:=zas W (.cells #[.slice p n cap,.slice p2 n2 c2] 25)
 have u1:(W.alloc (.cells #[.slice p n cap,.slice p2 n2 c2] 25)).heap[W.heap.size]?=some (.cells #[.slice p n cap,.slice p2 n2 c2] 25 (0,0)):=zae _ _ rfl
 obtain ⟨W0,hW0⟩:∃ W0,W0=W.alloc (.cells #[.slice p n cap,.slice p2 n2 c2] 25):=⟨_,rfl⟩
 rw [← hW0] at u1 b0
 have H0:=Lib.hid hW0
 have H1:=Lib.hid (h.stays (zad b0))
 have HL:=Lib.hid hl
 have HB0:=Lib.hid b0
 have k0:=zac u1 0 rfl
 clear hW0 h hl b0 u1
 go_enter Tryz.func39,Tryz.ntmps39
 go_upto_region 1 with fail
 rw [← H0.out]
 go_wp2_with fail
 go_loopg [5] n (fun gg s5 wr=>∃ j:Nat,j+gg=n∧s5=.int .i64 j∧Hid (∀ i (h:i < ns.length),i < j→ns[i].id≠x)∧W0=wr)
 case atStart=>exact ⟨0,by omega,rfl,Lib.hid (fun i _ h=>absurd h (by omega)),rfl⟩
 case round=>
  obtain ⟨j,hjg,rfl,HA,rfl⟩:=hrel
  by_cases hj:(j:Int) < n
  ·have hj1:j < ns.length:=by have:=HL.out;omega
   obtain ⟨g,o,cp1,cc1,e1,hg1,hr1,hra1⟩:=H1.out.at_ j hj1
   injection e1 with e11 e12 e13
   subst e11
   obtain ⟨z,hz⟩:∃ z,z=ns[j].id:=⟨_,rfl⟩
   obtain ⟨lv,pv,rfl,_⟩:=hr1
   have c1:=hra1 0 _ rfl
   rw [← hz] at c1
   replace c1:W0.cell? ⟨g,o+j*3,none⟩=some (.int .i64 z):=c1
   have HZ:=Lib.hid hz
   clear hra1 hz e12 e13
   by_cases q:z=x
   ·subst q
    have HF:Hid (zea (ns.map zap.id) z (j:Int)):=Lib.hid (.inl ⟨j,rfl,by rw [List.getElem?_map,List.getElem?_eq_getElem hj1,HZ.out];rfl,fun i hi q=>by
     rw [List.getElem?_map,List.getElem?_eq_getElem (by omega)] at q
     exact HA.out i (by omega) hi (Option.some.inj q)⟩)
    go_wp2_with fail
    go_ret
    exact ⟨_,rfl,HF.out,HB0.out⟩
   ·have q2:(z == x)=false:=by simpa using q
    have HA2:Hid (∀ i (h:i < ns.length),i < j+1→ns[i].id≠x):=Lib.hid fun i h1 h2=>by
     by_cases e:i=j
     ·subst e
      rw [← HZ.out]
      exact q
     ·exact HA.out i h1 (by omega)
    clear q
    go_wp2_with fail
    go_roundg (gk - 1)
    case measure=>omega
    case rel=>exact ⟨j+1,by omega,by go_num,HA2,rfl⟩
  ·have HF:Hid (zea (ns.map zap.id) x (-1)):=Lib.hid (.inr ⟨rfl,fun h=>by
    obtain ⟨a,ha,e⟩:=List.mem_map.1 h
    obtain ⟨i,hi,rfl⟩:=List.getElem_of_mem ha
    exact HA.out i hi (by have:=HL.out;omega) e⟩)
   go_wp2_with fail
   go_ret
   exact ⟨_,rfl,HF.out,HB0.out⟩
end Go.Proofs.YtcfmenkigolnoaaGreatDoor

/- GRK -/
namespace Go.Proofs.YtcfmenkigolnoaaGreatDoor
open Go.RowKit Go.ChangeShapes Go.WideShapes
section
variable {H:Type} {enc:TypeId × Value→H}
theorem zna {W:World} {n ty ety:Nat} {L:Value} {y:DataW H × List MemPlace} (hu:Tryz.prog.underlying ty=some (.slice ety)) (h:DataW.trod enc Tryz.prog W 0 (fun _=>true) true n ty [L]=some y):capK L∧nilK L:=by
 rcases DataW.trod_slice hu h with ⟨e,_⟩ | ⟨a,len,cap,elems,rest,n1,hn,e,rfl,hb,hl,hm,hlen,hel,_,_⟩
 ·obtain rfl:L=.slice none 0 0:=by simpa using e
  refine ⟨fun p m c e=>?_,fun m c e=>?_⟩
  ·injection e with e1 e2 e3
   omega
  ·injection e with e1 e2 e3
   exact ⟨e2.symm,e3.symm⟩
 ·obtain rfl:L=.slice (some a) len cap:=by simpa using e
  refine ⟨fun p m c e=>?_,fun m c e=>?_⟩
  ·injection e with e1 e2 e3
   omega
  ·injection e with e1
   cases e1
theorem zjw {W:World} {B n:Nat} {cs:List Value} {y:DataW H × List MemPlace} (hBB:B≤2097152) (h:DataW.trod enc Tryz.prog W 0 (fun _=>true) true n 38 cs=some y) (hB:Rows.uptoBulk y.1≤B):∃ a,zgw.rel W (Old W) cs a:=by
 obtain ⟨a,ha⟩:=zms hBB h hB
 refine ⟨a,ha,fun v hv=>?_⟩
 obtain ⟨lv,pv,rfl,_⟩:=ha
 have hv2:lv=v:=Option.some.inj hv
 subst hv2
 obtain ⟨xs,n',_,_,hl,hlen,hf⟩:=DataW.trod_struct Tryz.underlying38 h
 obtain ⟨y0,y1,y2,rfl⟩:=list3 (hlen.trans rfl)
 have e35:Tryz.prog.cellsOf 35=1:=by kernel_rfl
 have h1:DataW.trod enc Tryz.prog W 0 (fun _=>true) true n' 35 (([.int .i64 a.id,lv,pv].drop 1).take (Tryz.prog.cellsOf 35))=[y0,y1,y2][1]?:=hf 1 _ rfl
 rw [e35] at h1
 replace h1:DataW.trod enc Tryz.prog W 0 (fun _=>true) true n' 35 [lv]=some y1:=h1
 exact zna Tryz.underlying35 h1
theorem ziq {W:World} {B n:Nat} {L:Value} {y:DataW H × List MemPlace} (hBB:B≤2097152) (h:DataW.trod enc Tryz.prog W 0 (fun _=>true) true n 22 [L]=some y) (hB:Rows.uptoBulk y.1≤B):∃ l,zak zgw W (Old W) L l∧l.length≤B:=
 zdn (E:=zgw) Tryz.underlying22 (by kernel_rfl) (by decide) (fun _ _ _ h hb=>zjw hBB h hb) h hB
end
end Go.Proofs.YtcfmenkigolnoaaGreatDoor
