/- Texts of one kind, one behind the other: each says ahead of itself what it shows. -/
import Derived.WalkArith
import Derived.Deep.AppendLies
import Derived.Test.YteclpnfckjfibaaGreatDoorBai
/- RS -/
namespace Go.Proofs.YteclpnfckjfibaaGreatDoor
open Go.RowKit
def zdt (vs us:List ByteArray):List Int:=vs.map fun v=>za3 (zau v us)
theorem zk7 {t:ByteArray} {us:List ByteArray} (hn:us.length≤2097152):(Lit.int .i64 (za3 (zau t us))).wf=true:=by
 cases h:zau t us with
 | none=>exact zu1 (by decide) (by decide)
 | some k=>
   have:=zc2 h
   show (Lit.int .i64 (k:Int)).wf=true
   exact zu1 (by omega) (by omega)
theorem zig {w:World} {base base' size n:Nat} {e:TypeId} {v:Value} {xs:List Value} (h:w.ownsRow base e size v n xs) (hb:base'≤base):w.ownsRow base' e size v n xs:=by
 refine ⟨h.1,?_⟩
 rcases h.2 with q | ⟨g,cap,cur,e1,h0,r⟩
 ·exact .inl q
 ·exact .inr ⟨g,cap,cur,e1,Nat.le_trans hb h0,r⟩
theorem za8.before {β:Type} {E:Elem β} {D:TypeId} {w w1:World} {bs:List β} {e:Ending} {w':World} (b:Below w.heap.size w w1) (h:za8 E D w1 bs e w'):za8 E D w bs e w':=by
 obtain ⟨V,xs,rfl,h1,h2,h3⟩:=h
 exact ⟨V,xs,rfl,zig h1 b.size,h2.stays (fun g hg=>⟨⟨Nat.le_trans b.size hg.1,hg.2⟩,rfl⟩),b.trans (h3.mono b.size)⟩
theorem zu3 (x:ByteArray) (V:Value) (us:List ByteArray) (g:Nat) (W:World) (hg:W.heap[g]?=some (.cells #[V] 22)) (h:zaf za0 W (Old W) V us) (hn:us.length≤2097152):Calls Tryz.prog 170 #[.string x,.pointer (some ⟨g,0,none⟩)] W fun e w'=>e=.returned (.int .i64 (za3 (zau x us)))∧W=w':=by
 have HI:=Lib.hid (zm5 V us x (Old W) W h hn)
 obtain ⟨p,cap,rfl⟩:=h.slice
 have c0:=zac hg 0 rfl
 clear h hg
 go_enter Tryz.func170,Tryz.ntmps170
 go_wp2_with (first
  |(go_at_call 124;(with_reducible refine HI.out.mono ?_);rintro e w1 ⟨rfl,rfl⟩))
 go_ret
 exact ⟨rfl,rfl⟩
set_option maxHeartbeats 1600000 in
set_option maxRecDepth 20000 in
theorem zo8 (vs us:List ByteArray) (V U:Value) (W:World) (hv:zaf za0 W (Old W) V vs) (hu:zaf za0 W (Old W) U us) (hvn:vs.length≤2097152) (hun:us.length≤2097152):Calls Tryz.prog 112 #[V,U] W (za8 intE 3 W (zdt vs us)):=by
 obtain ⟨pu,ku,rfl⟩:=hu.slice
 obtain ⟨W1,hW1⟩:∃ W1,W1=W.alloc (.cells #[.slice pu us.length ku] 22):=⟨_,rfl⟩
 have b1:Below W.heap.size W W1:=by rw [hW1];exact zaz _ _
 have u1:W1.heap[W.heap.size]?=some (.cells #[.slice pu us.length ku] 22):=by rw [hW1];exact zah _ _ rfl
 have hm:=(map169 (.pointer (some ⟨W.heap.size,0,none⟩)) (fun v=>za3 (zau v us)) vs V W1 (hv.stays (zad b1)) hvn (fun x _ W' c hb hr=>by
  have hb2:=zab b1 hb b1.size
  refine (zu3 x _ us W.heap.size W' ((hb.block _ (zaa u1)).trans u1) (hu.stays (zad hb2)) hun).mono ?_
  rintro e w' ⟨rfl,rfl⟩
  exact ⟨_,[_],rfl,rfl,⟨rfl,zk7 hun⟩,Below.refl _ _⟩)).mono (fun e w' h=>za8.before b1 h)
 obtain ⟨p,cap,rfl⟩:=hv.slice
 have HM:=Lib.hid hm
 have HW:=Lib.hid hW1
 clear hm hW1 hv hu u1 b1
 go_enter Tryz.func112,Tryz.ntmps112
 go_upto_region 1 with fail
 rw [← HW.out]
 go_wp2_with (first
  |(go_at_call 169;(with_reducible refine HM.out.mono ?_);rintro e w1 ⟨V2,xs,rfl,hown,hrow,hb⟩;have hown2:=hown;rw [List.length_map] at hown2;obtain ⟨p2,k2,rfl⟩:=zar hown2))
 go_ret
 exact ⟨_,xs,rfl,hown,hrow,hb⟩
def zat (vs us:List ByteArray):List (Nat × Nat):=vs.zipIdx.filterMap fun p=>(zau p.1 us).map fun k=>(p.2,k)
theorem zqn {vs us:List ByteArray} {j k:Nat} (hj:j < vs.length) (h:zau vs[j] us=some k):zat (vs.take (j+1)) us=zat (vs.take j) us++[(j,k)]:=by
 unfold zat
 rw [List.take_succ_eq_append_getElem hj,List.zipIdx_append,List.filterMap_append,List.length_take]
 simp [h,Nat.min_eq_left (Nat.le_of_lt hj)]
theorem zqo {vs us:List ByteArray} {j:Nat} (hj:j < vs.length) (h:zau vs[j] us=none):zat (vs.take (j+1)) us=zat (vs.take j) us:=by
 unfold zat
 rw [List.take_succ_eq_append_getElem hj,List.zipIdx_append,List.filterMap_append,List.length_take]
 simp [h]
theorem zek (vs us:List ByteArray):(zat vs us).length≤vs.length:=by
 unfold zat
 refine Nat.le_trans (List.length_filterMap_le _ _) ?_
 rw [List.length_zipIdx]
 exact Nat.le_refl _
structure ShS (w1:World) (g:Nat) (sh:List (Nat × Nat)) (A B:Value) (wr:World):Prop where
 cell:wr.heap[g]?=some (.cells #[A,B] 87)
 a:wr.ownsRow w1.heap.size 3 1 A sh.length (sh.map fun p=>Value.int .i64 (p.1:Nat))
 b:wr.ownsRow w1.heap.size 3 1 B sh.length (sh.map fun p=>Value.int .i64 (p.2:Nat))
 apart:∀ x,A.ownBlock=some x→B.ownBlock≠some x
 kept:Kept (fun i=>i=g) w1 wr
def zk8 (W:World) (sh:List (Nat × Nat)) (e:Ending) (w':World):Prop:=
 ∃ A B,e=.returned (.agg #[A,B])∧w'.ownsRow W.heap.size 3 1 A sh.length (sh.map fun p=>Value.int .i64 (p.1:Nat))∧w'.ownsRow W.heap.size 3 1 B sh.length (sh.map fun p=>Value.int .i64 (p.2:Nat))∧Below W.heap.size W w'
theorem zh3:(Tryz.prog.info? 87).map (·.size)=some 2:=by kernel_rfl
set_option maxHeartbeats 6400000 in
set_option maxRecDepth 20000 in
theorem zm6 (vs us:List ByteArray) (V U:Value) (W:World) (hv:zaf za0 W (Old W) V vs) (hu:zaf za0 W (Old W) U us) (hvn:vs.length≤2097152) (hun:us.length≤2097152):Calls Tryz.prog 76 #[V,U] W (zk8 W (zat vs us)):=by
 obtain ⟨i0,hi,hz0,hz1,hz2⟩:=info_parts zd3
 obtain ⟨W1,hW1⟩:∃ W1,W1=(W.alloc (.cells #[.slice none 0 0,.slice none 0 0] 87)).alloc (.cells #[.slice none 0 0,.slice none 0 0] 87):=⟨_,rfl⟩
 have b1:Below W.heap.size W W1:=by rw [hW1];exact zc6 _ _ _
 have s1:W1.heap.size=W.heap.size+2:=by rw [hW1];simp
 have v1:W1.heap[W.heap.size]?=some (.cells #[.slice none 0 0,.slice none 0 0] 87):=by rw [hW1];exact zaq _ (zah _ _ rfl)
 have u1:W1.heap[W.heap.size+1]?=some (.cells #[.slice none 0 0,.slice none 0 0] 87):=by rw [hW1];exact zah _ _ (by simp)
 have HC:=Lib.hid (zo8 vs us V U W1 (hv.stays (zad b1)) (hu.stays (zad b1)) hvn hun)
 have hcl:(zdt vs us).length=vs.length:=by simp [zdt]
 obtain ⟨n,hln⟩:∃ n,n=vs.length:=⟨_,rfl⟩
 have HL:=Lib.hid hln
 have HW:=Lib.hid hW1
 obtain ⟨p,cap,rfl⟩:=hv.slice
 obtain ⟨pu,capu,rfl⟩:=hu.slice
 clear hW1 hv hu
 go_enter Tryz.func76,Tryz.ntmps76
 go_upto_region 2 with fail
 rw [← HW.out]
 go_wp2_with (first
  |(go_at_call 112;(with_reducible refine HC.out.mono ?_);rintro e w1 ⟨C,cs,rfl,hown,hrow,hb1⟩;have hown2:=hown;rw [hcl,← hln] at hown2;obtain ⟨pc,kc,rfl⟩:=zar hown2))
 have hsl:zaf intE w1 (fun x=>W1.heap.size≤x∧x < w1.heap.size) (.slice pc n kc) (zdt vs us):=(za8.slice hown hrow).stays (fun g hg=>⟨hg,rfl⟩)
 have hz1w:W.heap.size+2≤w1.heap.size:=by have:=hb1.size;omega
 have st:Hid (ShS w1 (W.heap.size+1) [] (.slice none 0 0) (.slice none 0 0) w1):=Lib.hid ⟨(hb1.block _ (by omega)).trans u1,World.ownsRow_nil _ _ _ _,World.ownsRow_nil _ _ _ _,(fun x h=>by cases h),Kept.refl _ _⟩
 have HSL:=Lib.hid hsl
 have HV1:=Lib.hid ((hb1.block _ (by omega)).trans v1)
 have HB1:=Lib.hid (zab b1 hb1 b1.size)
 clear hsl hown2 hown hrow hb1 v1 u1 hcl hln b1
 go_loopg [12] n (fun gg s12 wr=>∃ (j:Nat) (A B:Value),j+gg=n∧s12=.int .i64 j∧Hid (ShS w1 (W.heap.size+1) (zat (vs.take j) us) A B wr))
 case atStart=>exact ⟨0,_,_,by omega,rfl,by simpa [zat] using st⟩
 case round=>
  clear st
  obtain ⟨j,A,B,hjg,rfl,HS⟩:=hrel
  by_cases hj:(j:Int) < n
  ·have hj1:j < vs.length:=by have:=HL.out;omega
   have hcs:∃ g off,pc=some ⟨g,off,none⟩∧wr.cell? ⟨g,off+j,none⟩=some (.int .i64 (za3 (zau vs[j] us))):=by
    obtain ⟨g,off,cap',c,e0,hg,hrl,hra⟩:=(zaf.stays (P':=fun _=>True) (w':=wr) (fun x hx=>⟨trivial,HS.out.kept.block x hx.2 (by have:=hx.1;omega)⟩) HSL.out).at_ j (by simpa [zdt] using hj1)
    injection e0 with e1 e2 e3
    obtain ⟨rfl,hwf⟩:=hrl
    refine ⟨g,off,e1,?_⟩
    have:=hra 0 _ rfl
    simpa [intE,zdt] using this
   obtain ⟨gc,oc,rfl,cj⟩:=hcs
   cases hp:zau vs[j] us with
   | none=>
     rw [hp] at cj
     have HS2:Hid (ShS w1 (W.heap.size+1) (zat (vs.take (j+1)) us) A B wr):=Lib.hid (by rw [zqo hj1 hp];exact HS.out)
     replace cj:wr.cell? ⟨gc,oc+j,none⟩=some (.int .i64 (-1)):=cj
     clear hp
     go_wp2_with fail
     go_roundg (gk - 1)
     case measure=>omega
     case rel=>exact ⟨j+1,A,B,by omega,by go_num,HS2⟩
   | some k=>
     rw [hp] at cj
     replace cj:wr.cell? ⟨gc,oc+j,none⟩=some (.int .i64 (k:Nat)):=cj
     have hkn:((k:Int) != -1)=true:=by rw [bne_iff_ne];omega
     have hsl2:(zat (vs.take j) us).length≤2097152:=by
      have:=zek (vs.take j) us
      rw [List.length_take] at this
      omega
     have HSN:=Lib.hid (zqn hj1 hp)
     obtain ⟨u5,oA,oB,hap,K0⟩:=HS.out
     generalize zat (vs.take j) us=sh at*
     obtain ⟨pA,kA,rfl⟩:=zar oA
     obtain ⟨pB,kB,rfl⟩:=zar oB
     have hAlt:=oA.lt
     have hBlt:=oB.lt
     clear hp HS
     go_upto_region 6 with fail
     refine zfu (S:=fun W'=>W'.heap[W.heap.size+1]?=some (.cells #[.slice pA sh.length kA,.slice pB sh.length kB] 87)) (fun i=>i == 11 || i == 13) (by kernel_rfl) u5 (fun hh=>?_)
     clear hh
     replace u5:wr.drew.heap[W.heap.size+1]?=some (.cells #[.slice pA sh.length kA,.slice pB sh.length kB] 87):=u5
     replace oA:=oA.drew
     replace oB:=oB.drew
     replace K0:=K0.drew
     replace hAlt:∀ x,(Value.slice pA sh.length kA).ownBlock=some x→w1.heap.size≤x∧x < wr.drew.heap.size:=hAlt
     replace hBlt:∀ x,(Value.slice pB sh.length kB).ownBlock=some x→w1.heap.size≤x∧x < wr.drew.heap.size:=hBlt
     generalize wr.drew=wD at*
     refine zbk (i:=0) (v:=.pointer (some ⟨W.heap.size+1,0,none⟩)) rfl (by kernel_rfl) (by kernel_rfl) (by kernel_rfl) rfl (by kernel_rfl) (by kernel_rfl) (fun _ _ _ h=>h) (Or.inl ⟨by rfl,fun W _=>by go_simp⟩) (u5) ?_
     try simp only [putS]
     refine zce (i:=2) (v:=.int .i64 (j:Int)) rfl (by kernel_rfl) (by kernel_rfl) (by kernel_rfl) rfl (fun _ _ _ h=>h) (Or.inl ⟨by rfl,fun W _=>by go_simp⟩) (fun _=>u5) ?_
     try simp only [putS]
     refine zbk (i:=5) (v:=.pointer (some ⟨W.heap.size+1,1,none⟩)) rfl (by kernel_rfl) (by kernel_rfl) (by kernel_rfl) rfl (by kernel_rfl) (by kernel_rfl) (fun _ _ _ h=>h) (Or.inl ⟨by rfl,fun W _=>by go_simp⟩) (u5) ?_
     try simp only [putS]
     refine zce (i:=7) (v:=.int .i64 (k:Int)) rfl (by kernel_rfl) (by kernel_rfl) (by kernel_rfl) rfl (fun _ _ _ h=>h) (Or.inl ⟨by rfl,fun W _=>by go_simp⟩) (fun _=>u5) ?_
     try simp only [putS]
     refine zbk (i:=1) (v:=.slice pA sh.length kA) rfl (by kernel_rfl) (by kernel_rfl) (by kernel_rfl) rfl (by kernel_rfl) (by kernel_rfl) (fun _ _ _ h=>h) (Or.inl ⟨by rfl,fun W' h=>by have c0:=zac h 0 rfl;go_simp⟩) (u5) ?_
     try simp only [putS]
     refine zbk (i:=6) (v:=.slice pB sh.length kB) rfl (by kernel_rfl) (by kernel_rfl) (by kernel_rfl) rfl (by kernel_rfl) (by kernel_rfl) (fun _ _ _ h=>h) (Or.inl ⟨by rfl,fun W' h=>by have c0:=zac h 1 rfl;go_simp⟩) (u5) ?_
     try simp only [putS]
     refine zay (rs:=[3,8]) (by kernel_rfl) (by simp) ?_
     refine zan.cons rfl (fun K hK=>?_) (zan.cons rfl (fun K hK=>?_) zan.nil)
     ·try rw [if_pos (by rfl)]
      go_simp
      replace u5:=zaq (.cells #[.int .i64 (j:Int)] 3) u5
      have cA:(wD.alloc (.cells #[.int .i64 (j:Int)] 3)).heap[wD.heap.size]?=some (.cells #[.int .i64 (j:Int)] 3):=zah _ _ (by simp)
      replace oA:=oA.alloc (.cells #[.int .i64 (j:Int)] 3)
      replace oB:=oB.alloc (.cells #[.int .i64 (j:Int)] 3)
      replace K0:=K0.alloc (.cells #[.int .i64 (j:Int)] 3)
      refine hK.out _ _ (u5) (fun _=>?_)
      clear hK K
      try simp only [putS]
      refine zay (rs:=[4,8]) (by kernel_rfl) (by simp) ?_
      refine zan.cons rfl (fun K hK=>?_) (zan.cons rfl (fun K hK=>?_) zan.nil)
      ·try rw [if_pos (by rfl)]
       refine zbu (P:=Tryz.prog) (w:=(wD.alloc (.cells #[.int .i64 (j:Int)] 3))) (.tmp 20) (.tmp 22) 26 rfl w1.heap.size 3 i0 (.int .i64 0) 1 8 Tryz.underlying26 hi hz0 hz1 hz2 rfl (by decide) (.slice pA sh.length kA) sh.length _ rfl oA ⟨wD.heap.size,0,none⟩ 1 1 [.int .i64 (j:Int)] rfl rfl (World.news_of_block (by exact cA)) (by simp [Value.oneCell']) (by unfold maxLen;omega) (by omega) K0.size ?_
       intro vA wA oA2 hgA _ hlA
       obtain ⟨qA,mA,rfl⟩:=zar oA2
       have hAn:∀ x,(Value.slice qA (sh.length+1) mA).ownBlock=some x→w1.heap.size≤x∧(Value.slice pB sh.length kB).ownBlock≠some x:=fun x hx=>⟨(oA2.lt x hx).1,fun q=>by
        rcases hlA with e | e
        ·exact hap x (by rw [← e];exact hx) q
        ·rw [e] at hx
         have h1:=(hBlt x q).2
         have h2:=Option.some.inj hx
         (try simp at h2)
         omega⟩
       replace u5:=(hgA.block _ (zaa u5) (fun e=>by have:=(hAlt _ e.symm).1;omega)).trans u5
       replace oB:=zct oB hgA (fun b q r=>hap b r q)
       replace K0:=K0.grown hgA (fun i q h=>absurd (hAlt i q).1 (by omega))
       clear oA hgA hlA cA
       refine hK.out _ _ (u5) (fun _=>?_)
       clear hK K
       try simp only [putS]
       refine zce (i:=10) (v:=.pointer (some ⟨W.heap.size+1,0,none⟩)) rfl (by kernel_rfl) (by kernel_rfl) (by kernel_rfl) rfl (fun _ _ _ h=>h) (Or.inl ⟨by rfl,fun W _=>by go_simp⟩) (fun _=>u5) ?_
       try simp only [putS]
       refine zay (rs:=[8]) (by kernel_rfl) (by simp) ?_
       refine zan.cons rfl (fun K hK=>?_) zan.nil
       try rw [if_pos (by rfl)]
       go_simp
       replace u5:=zaq (.cells #[.int .i64 (k:Int)] 3) u5
       have cB:(wA.alloc (.cells #[.int .i64 (k:Int)] 3)).heap[wA.heap.size]?=some (.cells #[.int .i64 (k:Int)] 3):=zah _ _ (by simp)
       replace oA2:=oA2.alloc (.cells #[.int .i64 (k:Int)] 3)
       replace oB:=oB.alloc (.cells #[.int .i64 (k:Int)] 3)
       replace K0:=K0.alloc (.cells #[.int .i64 (k:Int)] 3)
       refine hK.out _ _ (u5) (fun _=>?_)
       clear hK K
       try simp only [putS]
       refine zay (rs:=[9]) (by kernel_rfl) (by simp) ?_
       refine zan.cons rfl (fun K hK=>?_) zan.nil
       try rw [if_pos (by rfl)]
       refine zbu (P:=Tryz.prog) (w:=(wA.alloc (.cells #[.int .i64 (k:Int)] 3))) (.tmp 25) (.tmp 27) 26 rfl w1.heap.size 3 i0 (.int .i64 0) 1 8 Tryz.underlying26 hi hz0 hz1 hz2 rfl (by decide) (.slice pB sh.length kB) sh.length _ rfl oB ⟨wA.heap.size,0,none⟩ 1 1 [.int .i64 (k:Int)] rfl rfl (World.news_of_block (by exact cB)) (by simp [Value.oneCell']) (by unfold maxLen;omega) (by omega) K0.size ?_
       intro vB wB oB2 hgB _ hlB
       obtain ⟨qB,mB,rfl⟩:=zar oB2
       have hap2:∀ x,(Value.slice qA (sh.length+1) mA).ownBlock=some x→(Value.slice qB (sh.length+1) mB).ownBlock≠some x:=fun x hx q=>by
        rcases hlB with e | e
        ·exact (hAn x hx).2 (by rw [← e];exact q)
        ·rw [e] at q
         have h1:=(oA2.lt x hx).2
         have h2:=Option.some.inj q
         omega
       replace u5:=(hgB.block _ (zaa u5) (fun e=>by have:=(hBlt _ e.symm).1;omega)).trans u5
       replace oA2:=zct oA2 hgB (fun b q r=>(hAn b q).2 r)
       replace K0:=K0.grown hgB (fun i q h=>absurd (hBlt i q).1 (by omega))
       clear oB hgB hlB cB
       refine hK.out _ _ (u5) (fun _=>?_)
       clear hK K
       try simp only [putS]
       refine zay (rs:=[11]) (by kernel_rfl) (by simp) ?_
       refine zan.late rfl (by kernel_rfl) (fun K hK=>?_) zan.nil
       try rw [if_pos (by rfl)]
       have c0:=zac u5 0 rfl
       have f0:=zdy u5 0
       go_simp
       clear c0 f0
       replace oA2:=zbw oA2 (w':=wB.setCell ⟨W.heap.size+1,0,none⟩ (.slice qA (sh.length+1) mA)) (fun b q=>Below.heap_setCell _ _ _ _ (by show b≠W.heap.size+1;have:=(oA2.lt b q).1;omega))
       replace oB2:=zbw oB2 (w':=wB.setCell ⟨W.heap.size+1,0,none⟩ (.slice qA (sh.length+1) mA)) (fun b q=>Below.heap_setCell _ _ _ _ (by show b≠W.heap.size+1;have:=(oB2.lt b q).1;omega))
       replace K0:=K0.set (p:=⟨W.heap.size+1,0,none⟩) rfl (.slice qA (sh.length+1) mA)
       replace u5:=zcd u5 0 (.slice qA (sh.length+1) mA)
       refine hK.out _ _ ?_
       clear hK K
       try simp only [putS]
       refine zce (i:=12) (v:=.pointer (some ⟨W.heap.size+1,1,none⟩)) rfl (by kernel_rfl) (by kernel_rfl) (by kernel_rfl) rfl (fun _ _ _ h=>h) (Or.inl ⟨by rfl,fun W _=>by go_simp⟩) (fun h=>by have q:true=false:=h.symm.trans (by kernel_rfl);cases q) ?_
       try simp only [putS]
       refine zay (rs:=[13]) (by kernel_rfl) (by simp) ?_
       refine zan.late rfl (by kernel_rfl) (fun K hK=>?_) zan.nil
       try rw [if_pos (by rfl)]
       have c0:=zac u5 1 rfl
       have f0:=zdy u5 1
       go_simp
       clear c0 f0
       replace oA2:=zbw oA2 (w':=(wB.setCell ⟨W.heap.size+1,0,none⟩ (.slice qA (sh.length+1) mA)).setCell ⟨W.heap.size+1,1,none⟩ (.slice qB (sh.length+1) mB)) (fun b q=>Below.heap_setCell _ _ _ _ (by show b≠W.heap.size+1;have:=(oA2.lt b q).1;omega))
       replace oB2:=zbw oB2 (w':=(wB.setCell ⟨W.heap.size+1,0,none⟩ (.slice qA (sh.length+1) mA)).setCell ⟨W.heap.size+1,1,none⟩ (.slice qB (sh.length+1) mB)) (fun b q=>Below.heap_setCell _ _ _ _ (by show b≠W.heap.size+1;have:=(oB2.lt b q).1;omega))
       replace K0:=K0.set (p:=⟨W.heap.size+1,1,none⟩) rfl (.slice qB (sh.length+1) mB)
       replace u5:=zcd u5 1 (.slice qB (sh.length+1) mB)
       refine hK.out _ _ ?_
       clear hK K
       try simp only [putS]
       refine zd5 (by kernel_rfl) ?_ _
       have HN:Hid (ShS w1 (W.heap.size+1) (zat (vs.take (j+1)) us) (.slice qA (sh.length+1) mA) (.slice qB (sh.length+1) mB) ((wB.setCell ⟨W.heap.size+1,0,none⟩ (.slice qA (sh.length+1) mA)).setCell ⟨W.heap.size+1,1,none⟩ (.slice qB (sh.length+1) mB))):=Lib.hid (by
        rw [HSN.out]
        exact ⟨u5,by simpa using oA2,by simpa using oB2,hap2,K0⟩)
       generalize ((wB.setCell ⟨W.heap.size+1,0,none⟩ (.slice qA (sh.length+1) mA)).setCell ⟨W.heap.size+1,1,none⟩ (.slice qB (sh.length+1) mB))=wE at*
       clear oA2 oB2 hap2 K0 u5 hAn hap hAlt hBlt
       go_wp2_with fail
       go_roundg (gk - 1)
       case measure=>omega
       case rel=>exact ⟨j+1,_,_,by omega,by go_num,HN⟩
      ·try rw [if_pos (by rfl)]
       go_simp
       replace u5:=zaq (.cells #[.int .i64 (k:Int)] 3) u5
       have cB:((wD.alloc (.cells #[.int .i64 (j:Int)] 3)).alloc (.cells #[.int .i64 (k:Int)] 3)).heap[wD.heap.size+1]?=some (.cells #[.int .i64 (k:Int)] 3):=zah _ _ (by simp)
       replace cA:=zaq (.cells #[.int .i64 (k:Int)] 3) cA
       replace oA:=oA.alloc (.cells #[.int .i64 (k:Int)] 3)
       replace oB:=oB.alloc (.cells #[.int .i64 (k:Int)] 3)
       replace K0:=K0.alloc (.cells #[.int .i64 (k:Int)] 3)
       refine hK.out _ _ (u5) (fun _=>?_)
       clear hK K
       try simp only [putS]
       refine zay (rs:=[4]) (by kernel_rfl) (by simp) ?_
       refine zan.cons rfl (fun K hK=>?_) zan.nil
       try rw [if_pos (by rfl)]
       refine zbu (P:=Tryz.prog) (w:=((wD.alloc (.cells #[.int .i64 (j:Int)] 3)).alloc (.cells #[.int .i64 (k:Int)] 3))) (.tmp 20) (.tmp 22) 26 rfl w1.heap.size 3 i0 (.int .i64 0) 1 8 Tryz.underlying26 hi hz0 hz1 hz2 rfl (by decide) (.slice pA sh.length kA) sh.length _ rfl oA ⟨wD.heap.size,0,none⟩ 1 1 [.int .i64 (j:Int)] rfl rfl (World.news_of_block (by exact cA)) (by simp [Value.oneCell']) (by unfold maxLen;omega) (by omega) K0.size ?_
       intro vA wA oA2 hgA _ hlA
       obtain ⟨qA,mA,rfl⟩:=zar oA2
       have hAn:∀ x,(Value.slice qA (sh.length+1) mA).ownBlock=some x→w1.heap.size≤x∧(Value.slice pB sh.length kB).ownBlock≠some x:=fun x hx=>⟨(oA2.lt x hx).1,fun q=>by
        rcases hlA with e | e
        ·exact hap x (by rw [← e];exact hx) q
        ·rw [e] at hx
         have h1:=(hBlt x q).2
         have h2:=Option.some.inj hx
         (try simp at h2)
         omega⟩
       replace u5:=(hgA.block _ (zaa u5) (fun e=>by have:=(hAlt _ e.symm).1;omega)).trans u5
       replace oB:=zct oB hgA (fun b q r=>hap b r q)
       replace K0:=K0.grown hgA (fun i q h=>absurd (hAlt i q).1 (by omega))
       replace cB:=(hgA.block _ (zaa cB) (fun e=>by have:=(hAlt _ e.symm).2;(first | omega |(simp at this;omega) | simp at this))).trans cB
       clear oA hgA hlA cA
       refine hK.out _ _ (u5) (fun _=>?_)
       clear hK K
       try simp only [putS]
       refine zce (i:=10) (v:=.pointer (some ⟨W.heap.size+1,0,none⟩)) rfl (by kernel_rfl) (by kernel_rfl) (by kernel_rfl) rfl (fun _ _ _ h=>h) (Or.inl ⟨by rfl,fun W _=>by go_simp⟩) (fun _=>u5) ?_
       try simp only [putS]
       refine zay (rs:=[9]) (by kernel_rfl) (by simp) ?_
       refine zan.cons rfl (fun K hK=>?_) zan.nil
       try rw [if_pos (by rfl)]
       refine zbu (P:=Tryz.prog) (w:=wA) (.tmp 25) (.tmp 27) 26 rfl w1.heap.size 3 i0 (.int .i64 0) 1 8 Tryz.underlying26 hi hz0 hz1 hz2 rfl (by decide) (.slice pB sh.length kB) sh.length _ rfl oB ⟨wD.heap.size+1,0,none⟩ 1 1 [.int .i64 (k:Int)] rfl rfl (World.news_of_block (by exact cB)) (by simp [Value.oneCell']) (by unfold maxLen;omega) (by omega) K0.size ?_
       intro vB wB oB2 hgB _ hlB
       obtain ⟨qB,mB,rfl⟩:=zar oB2
       have hap2:∀ x,(Value.slice qA (sh.length+1) mA).ownBlock=some x→(Value.slice qB (sh.length+1) mB).ownBlock≠some x:=fun x hx q=>by
        rcases hlB with e | e
        ·exact (hAn x hx).2 (by rw [← e];exact q)
        ·rw [e] at q
         have h1:=(oA2.lt x hx).2
         have h2:=Option.some.inj q
         omega
       replace u5:=(hgB.block _ (zaa u5) (fun e=>by have:=(hBlt _ e.symm).1;omega)).trans u5
       replace oA2:=zct oA2 hgB (fun b q r=>(hAn b q).2 r)
       replace K0:=K0.grown hgB (fun i q h=>absurd (hBlt i q).1 (by omega))
       clear oB hgB hlB cB
       refine hK.out _ _ (u5) (fun _=>?_)
       clear hK K
       try simp only [putS]
       refine zay (rs:=[11]) (by kernel_rfl) (by simp) ?_
       refine zan.late rfl (by kernel_rfl) (fun K hK=>?_) zan.nil
       try rw [if_pos (by rfl)]
       have c0:=zac u5 0 rfl
       have f0:=zdy u5 0
       go_simp
       clear c0 f0
       replace oA2:=zbw oA2 (w':=wB.setCell ⟨W.heap.size+1,0,none⟩ (.slice qA (sh.length+1) mA)) (fun b q=>Below.heap_setCell _ _ _ _ (by show b≠W.heap.size+1;have:=(oA2.lt b q).1;omega))
       replace oB2:=zbw oB2 (w':=wB.setCell ⟨W.heap.size+1,0,none⟩ (.slice qA (sh.length+1) mA)) (fun b q=>Below.heap_setCell _ _ _ _ (by show b≠W.heap.size+1;have:=(oB2.lt b q).1;omega))
       replace K0:=K0.set (p:=⟨W.heap.size+1,0,none⟩) rfl (.slice qA (sh.length+1) mA)
       replace u5:=zcd u5 0 (.slice qA (sh.length+1) mA)
       refine hK.out _ _ ?_
       clear hK K
       try simp only [putS]
       refine zce (i:=12) (v:=.pointer (some ⟨W.heap.size+1,1,none⟩)) rfl (by kernel_rfl) (by kernel_rfl) (by kernel_rfl) rfl (fun _ _ _ h=>h) (Or.inl ⟨by rfl,fun W _=>by go_simp⟩) (fun h=>by have q:true=false:=h.symm.trans (by kernel_rfl);cases q) ?_
       try simp only [putS]
       refine zay (rs:=[13]) (by kernel_rfl) (by simp) ?_
       refine zan.late rfl (by kernel_rfl) (fun K hK=>?_) zan.nil
       try rw [if_pos (by rfl)]
       have c0:=zac u5 1 rfl
       have f0:=zdy u5 1
       go_simp
       clear c0 f0
       replace oA2:=zbw oA2 (w':=(wB.setCell ⟨W.heap.size+1,0,none⟩ (.slice qA (sh.length+1) mA)).setCell ⟨W.heap.size+1,1,none⟩ (.slice qB (sh.length+1) mB)) (fun b q=>Below.heap_setCell _ _ _ _ (by show b≠W.heap.size+1;have:=(oA2.lt b q).1;omega))
       replace oB2:=zbw oB2 (w':=(wB.setCell ⟨W.heap.size+1,0,none⟩ (.slice qA (sh.length+1) mA)).setCell ⟨W.heap.size+1,1,none⟩ (.slice qB (sh.length+1) mB)) (fun b q=>Below.heap_setCell _ _ _ _ (by show b≠W.heap.size+1;have:=(oB2.lt b q).1;omega))
       replace K0:=K0.set (p:=⟨W.heap.size+1,1,none⟩) rfl (.slice qB (sh.length+1) mB)
       replace u5:=zcd u5 1 (.slice qB (sh.length+1) mB)
       refine hK.out _ _ ?_
       clear hK K
       try simp only [putS]
       refine zd5 (by kernel_rfl) ?_ _
       have HN:Hid (ShS w1 (W.heap.size+1) (zat (vs.take (j+1)) us) (.slice qA (sh.length+1) mA) (.slice qB (sh.length+1) mB) ((wB.setCell ⟨W.heap.size+1,0,none⟩ (.slice qA (sh.length+1) mA)).setCell ⟨W.heap.size+1,1,none⟩ (.slice qB (sh.length+1) mB))):=Lib.hid (by
        rw [HSN.out]
        exact ⟨u5,by simpa using oA2,by simpa using oB2,hap2,K0⟩)
       generalize ((wB.setCell ⟨W.heap.size+1,0,none⟩ (.slice qA (sh.length+1) mA)).setCell ⟨W.heap.size+1,1,none⟩ (.slice qB (sh.length+1) mB))=wE at*
       clear oA2 oB2 hap2 K0 u5 hAn hap hAlt hBlt
       go_wp2_with fail
       go_roundg (gk - 1)
       case measure=>omega
       case rel=>exact ⟨j+1,_,_,by omega,by go_num,HN⟩
     ·try rw [if_pos (by rfl)]
      go_simp
      replace u5:=zaq (.cells #[.int .i64 (k:Int)] 3) u5
      have cB:(wD.alloc (.cells #[.int .i64 (k:Int)] 3)).heap[wD.heap.size]?=some (.cells #[.int .i64 (k:Int)] 3):=zah _ _ (by simp)
      replace oA:=oA.alloc (.cells #[.int .i64 (k:Int)] 3)
      replace oB:=oB.alloc (.cells #[.int .i64 (k:Int)] 3)
      replace K0:=K0.alloc (.cells #[.int .i64 (k:Int)] 3)
      refine hK.out _ _ (u5) (fun _=>?_)
      clear hK K
      try simp only [putS]
      refine zay (rs:=[3]) (by kernel_rfl) (by simp) ?_
      refine zan.cons rfl (fun K hK=>?_) zan.nil
      try rw [if_pos (by rfl)]
      go_simp
      replace u5:=zaq (.cells #[.int .i64 (j:Int)] 3) u5
      have cA:((wD.alloc (.cells #[.int .i64 (k:Int)] 3)).alloc (.cells #[.int .i64 (j:Int)] 3)).heap[wD.heap.size+1]?=some (.cells #[.int .i64 (j:Int)] 3):=zah _ _ (by simp)
      replace cB:=zaq (.cells #[.int .i64 (j:Int)] 3) cB
      replace oA:=oA.alloc (.cells #[.int .i64 (j:Int)] 3)
      replace oB:=oB.alloc (.cells #[.int .i64 (j:Int)] 3)
      replace K0:=K0.alloc (.cells #[.int .i64 (j:Int)] 3)
      refine hK.out _ _ (u5) (fun _=>?_)
      clear hK K
      try simp only [putS]
      refine zay (rs:=[4]) (by kernel_rfl) (by simp) ?_
      refine zan.cons rfl (fun K hK=>?_) zan.nil
      try rw [if_pos (by rfl)]
      refine zbu (P:=Tryz.prog) (w:=((wD.alloc (.cells #[.int .i64 (k:Int)] 3)).alloc (.cells #[.int .i64 (j:Int)] 3))) (.tmp 20) (.tmp 22) 26 rfl w1.heap.size 3 i0 (.int .i64 0) 1 8 Tryz.underlying26 hi hz0 hz1 hz2 rfl (by decide) (.slice pA sh.length kA) sh.length _ rfl oA ⟨wD.heap.size+1,0,none⟩ 1 1 [.int .i64 (j:Int)] rfl rfl (World.news_of_block (by exact cA)) (by simp [Value.oneCell']) (by unfold maxLen;omega) (by omega) K0.size ?_
      intro vA wA oA2 hgA _ hlA
      obtain ⟨qA,mA,rfl⟩:=zar oA2
      have hAn:∀ x,(Value.slice qA (sh.length+1) mA).ownBlock=some x→w1.heap.size≤x∧(Value.slice pB sh.length kB).ownBlock≠some x:=fun x hx=>⟨(oA2.lt x hx).1,fun q=>by
       rcases hlA with e | e
       ·exact hap x (by rw [← e];exact hx) q
       ·rw [e] at hx
        have h1:=(hBlt x q).2
        have h2:=Option.some.inj hx
        (try simp at h2)
        omega⟩
      replace u5:=(hgA.block _ (zaa u5) (fun e=>by have:=(hAlt _ e.symm).1;omega)).trans u5
      replace oB:=zct oB hgA (fun b q r=>hap b r q)
      replace K0:=K0.grown hgA (fun i q h=>absurd (hAlt i q).1 (by omega))
      replace cB:=(hgA.block _ (zaa cB) (fun e=>by have:=(hAlt _ e.symm).2;(first | omega |(simp at this;omega) | simp at this))).trans cB
      clear oA hgA hlA cA
      refine hK.out _ _ (u5) (fun _=>?_)
      clear hK K
      try simp only [putS]
      refine zce (i:=10) (v:=.pointer (some ⟨W.heap.size+1,0,none⟩)) rfl (by kernel_rfl) (by kernel_rfl) (by kernel_rfl) rfl (fun _ _ _ h=>h) (Or.inl ⟨by rfl,fun W _=>by go_simp⟩) (fun _=>u5) ?_
      try simp only [putS]
      refine zay (rs:=[9]) (by kernel_rfl) (by simp) ?_
      refine zan.cons rfl (fun K hK=>?_) zan.nil
      try rw [if_pos (by rfl)]
      refine zbu (P:=Tryz.prog) (w:=wA) (.tmp 25) (.tmp 27) 26 rfl w1.heap.size 3 i0 (.int .i64 0) 1 8 Tryz.underlying26 hi hz0 hz1 hz2 rfl (by decide) (.slice pB sh.length kB) sh.length _ rfl oB ⟨wD.heap.size,0,none⟩ 1 1 [.int .i64 (k:Int)] rfl rfl (World.news_of_block (by exact cB)) (by simp [Value.oneCell']) (by unfold maxLen;omega) (by omega) K0.size ?_
      intro vB wB oB2 hgB _ hlB
      obtain ⟨qB,mB,rfl⟩:=zar oB2
      have hap2:∀ x,(Value.slice qA (sh.length+1) mA).ownBlock=some x→(Value.slice qB (sh.length+1) mB).ownBlock≠some x:=fun x hx q=>by
       rcases hlB with e | e
       ·exact (hAn x hx).2 (by rw [← e];exact q)
       ·rw [e] at q
        have h1:=(oA2.lt x hx).2
        have h2:=Option.some.inj q
        omega
      replace u5:=(hgB.block _ (zaa u5) (fun e=>by have:=(hBlt _ e.symm).1;omega)).trans u5
      replace oA2:=zct oA2 hgB (fun b q r=>(hAn b q).2 r)
      replace K0:=K0.grown hgB (fun i q h=>absurd (hBlt i q).1 (by omega))
      clear oB hgB hlB cB
      refine hK.out _ _ (u5) (fun _=>?_)
      clear hK K
      try simp only [putS]
      refine zay (rs:=[11]) (by kernel_rfl) (by simp) ?_
      refine zan.late rfl (by kernel_rfl) (fun K hK=>?_) zan.nil
      try rw [if_pos (by rfl)]
      have c0:=zac u5 0 rfl
      have f0:=zdy u5 0
      go_simp
      clear c0 f0
      replace oA2:=zbw oA2 (w':=wB.setCell ⟨W.heap.size+1,0,none⟩ (.slice qA (sh.length+1) mA)) (fun b q=>Below.heap_setCell _ _ _ _ (by show b≠W.heap.size+1;have:=(oA2.lt b q).1;omega))
      replace oB2:=zbw oB2 (w':=wB.setCell ⟨W.heap.size+1,0,none⟩ (.slice qA (sh.length+1) mA)) (fun b q=>Below.heap_setCell _ _ _ _ (by show b≠W.heap.size+1;have:=(oB2.lt b q).1;omega))
      replace K0:=K0.set (p:=⟨W.heap.size+1,0,none⟩) rfl (.slice qA (sh.length+1) mA)
      replace u5:=zcd u5 0 (.slice qA (sh.length+1) mA)
      refine hK.out _ _ ?_
      clear hK K
      try simp only [putS]
      refine zce (i:=12) (v:=.pointer (some ⟨W.heap.size+1,1,none⟩)) rfl (by kernel_rfl) (by kernel_rfl) (by kernel_rfl) rfl (fun _ _ _ h=>h) (Or.inl ⟨by rfl,fun W _=>by go_simp⟩) (fun h=>by have q:true=false:=h.symm.trans (by kernel_rfl);cases q) ?_
      try simp only [putS]
      refine zay (rs:=[13]) (by kernel_rfl) (by simp) ?_
      refine zan.late rfl (by kernel_rfl) (fun K hK=>?_) zan.nil
      try rw [if_pos (by rfl)]
      have c0:=zac u5 1 rfl
      have f0:=zdy u5 1
      go_simp
      clear c0 f0
      replace oA2:=zbw oA2 (w':=(wB.setCell ⟨W.heap.size+1,0,none⟩ (.slice qA (sh.length+1) mA)).setCell ⟨W.heap.size+1,1,none⟩ (.slice qB (sh.length+1) mB)) (fun b q=>Below.heap_setCell _ _ _ _ (by show b≠W.heap.size+1;have:=(oA2.lt b q).1;omega))
      replace oB2:=zbw oB2 (w':=(wB.setCell ⟨W.heap.size+1,0,none⟩ (.slice qA (sh.length+1) mA)).setCell ⟨W.heap.size+1,1,none⟩ (.slice qB (sh.length+1) mB)) (fun b q=>Below.heap_setCell _ _ _ _ (by show b≠W.heap.size+1;have:=(oB2.lt b q).1;omega))
      replace K0:=K0.set (p:=⟨W.heap.size+1,1,none⟩) rfl (.slice qB (sh.length+1) mB)
      replace u5:=zcd u5 1 (.slice qB (sh.length+1) mB)
      refine hK.out _ _ ?_
      clear hK K
      try simp only [putS]
      refine zd5 (by kernel_rfl) ?_ _
      have HN:Hid (ShS w1 (W.heap.size+1) (zat (vs.take (j+1)) us) (.slice qA (sh.length+1) mA) (.slice qB (sh.length+1) mB) ((wB.setCell ⟨W.heap.size+1,0,none⟩ (.slice qA (sh.length+1) mA)).setCell ⟨W.heap.size+1,1,none⟩ (.slice qB (sh.length+1) mB))):=Lib.hid (by
       rw [HSN.out]
       exact ⟨u5,by simpa using oA2,by simpa using oB2,hap2,K0⟩)
      generalize ((wB.setCell ⟨W.heap.size+1,0,none⟩ (.slice qA (sh.length+1) mA)).setCell ⟨W.heap.size+1,1,none⟩ (.slice qB (sh.length+1) mB))=wE at*
      clear oA2 oB2 hap2 K0 u5 hAn hap hAlt hBlt
      go_wp2_with fail
      go_roundg (gk - 1)
      case measure=>omega
      case rel=>exact ⟨j+1,_,_,by omega,by go_num,HN⟩
  ·have hj2:¬ ((j:Int) < vs.length):=by have:=HL.out;omega
   have e:vs.take j=vs:=by rw [List.take_of_length_le];have:=HL.out;omega
   have hS:=HS.out
   rw [e] at hS
   have u5:=hS.cell
   have v5:wr.heap[W.heap.size]?=some (.cells #[.slice none 0 0,.slice none 0 0] 87):=(hS.kept.block _ (by omega) (by omega)).trans HV1.out
   obtain ⟨pA,kA,rfl⟩:=zar hS.a
   obtain ⟨pB,kB,rfl⟩:=zar hS.b
   have HS3:=Lib.hid hS
   clear hS e HS
   go_wp2_with (first
    |((with_reducible refine zag (.tmp 5) (W.heap.size+1) 87 87 [.slice pA (zat vs us).length kA,.slice pB (zat vs us).length kB] 2 _ u5 rfl Tryz.underlying87 rfl zh3 ?_ ?_ ?_ ?_);rfl;rfl;rfl)
    |((with_reducible refine zas (.tmp 4) (.tmp 32) W.heap.size 87 87 _ [.slice pA (zat vs us).length kA,.slice pB (zat vs us).length kB] 2 v5 rfl ?_ ?_ ?_ ?_ zh3 rfl (zch rfl rfl) ?_);rfl;rfl;rfl;rfl;intro wX oX v6))
   have hSo:=HS3.out
   have hzk:=hSo.kept.size
   have neA:∀ g,(Value.slice pA (zat vs us).length kA).ownBlock=some g→wX.heap[g]?=wr.heap[g]?:=fun g e=>oX.block g (hSo.a.lt g e).2 (by have:=(hSo.a.lt g e).1;omega)
   have neB:∀ g,(Value.slice pB (zat vs us).length kB).ownBlock=some g→wX.heap[g]?=wr.heap[g]?:=fun g e=>oX.block g (hSo.b.lt g e).2 (by have:=(hSo.b.lt g e).1;omega)
   refine bodyPost_ret (results_cell_row (p:=4) (ty:=87) Tryz.results76 _ _ W.heap.size 87 _ (0,0) _ rfl v6 Tryz.underlying87 rfl zh3) rfl
    ⟨_,_,rfl,zig (zbw hSo.a neA) (by omega),zig (zbw hSo.b neB) (by omega),?_⟩
   have h1:Below W.heap.size W wr:=HB1.out.trans (hSo.kept.low (B:=W.heap.size) (by omega) (fun i h=>by omega))
   exact zam h1 oX (Nat.le_refl _) h1.size
end Go.Proofs.YteclpnfckjfibaaGreatDoor
