/- Texts of one kind, one behind the other: each says ahead of itself what it shows. -/
import Derived.WalkArith
import Derived.Deep.AppendLies
import Derived.Test.YteclpnfckjfibaaGreatDoorDaf
namespace Go.Proofs.YteclpnfckjfibaaGreatDoor
open Go.RowKit
set_option maxHeartbeats 12800000
set_option maxRecDepth 20000
def zis (vs us:List ByteArray):List Int:=vs.map fun v=>zcx (zbl v us)
theorem znt {t:ByteArray} {us:List ByteArray} (hn:us.length≤2097152):(Lit.int .i64 (zcx (zbl t us))).wf=true:=by
 cases h:zbl t us with
 | none=>exact zx6 (by decide) (by decide)
 | some k=>
   have:=zfg h
   show (Lit.int .i64 (k:Int)).wf=true
   exact zx6 (by omega) (by omega)
theorem zmw {w:World} {base base' size n:Nat} {e:TypeId} {v:Value} {xs:List Value} (h:w.ownsRow base e size v n xs) (hb:base'≤base):w.ownsRow base' e size v n xs:=by
 refine ⟨h.1,?_⟩
 rcases h.2 with q | ⟨g,cap,cur,e1,h0,r⟩
 ·exact .inl q
 ·exact .inr ⟨g,cap,cur,e1,Nat.le_trans hb h0,r⟩
theorem za1.before {β:Type} {E:Elem β} {D:TypeId} {w w1:World} {bs:List β} {e:Ending} {w':World} (b:Below w.heap.size w w1) (h:za1 E D w1 bs e w'):za1 E D w bs e w':=by
 obtain ⟨V,xs,rfl,h1,h2,h3⟩:=h
 exact ⟨V,xs,rfl,zmw h1 b.size,h2.stays (fun g hg=>⟨⟨Nat.le_trans b.size hg.1,hg.2⟩,rfl⟩),b.trans (h3.mono b.size)⟩
theorem zx8 (x:ByteArray) (V:Value) (us:List ByteArray) (g:Nat) (W:World) (hg:W.heap[g]?=some (.cells #[V] 22)) (h:zai zaz W (Old W) V us) (hn:us.length≤2097152):Calls Tryz.prog 170 #[.string x,.pointer (some ⟨g,0,none⟩)] W fun e w'=>e=.returned (.int .i64 (zcx (zbl x us)))∧W=w':=by
 have HI:=Lib.hid (zqa V us x (Old W) W h hn)
 obtain ⟨p,cap,rfl⟩:=h.slice
 have c0:=zad hg 0 rfl
 clear h hg
 go_enter Tryz.func170,Tryz.ntmps170
 go_wp2_with (first
  |(go_at_call 124;(with_reducible refine HI.out.mono ?_);rintro e w1 ⟨rfl,rfl⟩))
 go_ret
 exact ⟨rfl,rfl⟩
theorem zq8 (vs us:List ByteArray) (V U:Value) (W:World) (hv:zai zaz W (Old W) V vs) (hu:zai zaz W (Old W) U us) (hvn:vs.length≤2097152) (hun:us.length≤2097152):Calls Tryz.prog 112 #[V,U] W (za1 intE 3 W (zis vs us)):=by
 obtain ⟨pu,ku,rfl⟩:=hu.slice
 obtain ⟨W1,hW1⟩:∃ W1,W1=W.alloc (.cells #[.slice pu us.length ku] 22):=⟨_,rfl⟩
 have b1:Below W.heap.size W W1:=by rw [hW1];exact zav _ _
 have u1:W1.heap[W.heap.size]?=some (.cells #[.slice pu us.length ku] 22):=by rw [hW1];exact zaf _ _ rfl
 have hm:=(map169 (.pointer (some ⟨W.heap.size,0,none⟩)) (fun v=>zcx (zbl v us)) vs V W1 (hv.stays (zae b1)) hvn (fun x _ W' c hb hr=>by
  have hb2:=zab b1 hb b1.size
  refine (zx8 x _ us W.heap.size W' ((hb.block _ (zaa u1)).trans u1) (hu.stays (zae hb2)) hun).mono ?_
  rintro e w' ⟨rfl,rfl⟩
  exact ⟨_,[_],rfl,rfl,⟨rfl,znt hun⟩,Below.refl _ _⟩)).mono (fun e w' h=>za1.before b1 h)
 obtain ⟨p,cap,rfl⟩:=hv.slice
 have HM:=Lib.hid hm
 have HW:=Lib.hid hW1
 clear hm hW1 hv hu u1 b1
 go_enter Tryz.func112,Tryz.ntmps112
 go_upto_region 1 with fail
 rw [← HW.out]
 go_wp2_with (first
  |(go_at_call 169;(with_reducible refine HM.out.mono ?_);rintro e w1 ⟨V2,xs,rfl,hown,hrow,hb⟩;have hown2:=hown;rw [List.length_map] at hown2;obtain ⟨p2,k2,rfl⟩:=zat hown2))
 go_ret
 exact ⟨_,xs,rfl,hown,hrow,hb⟩
def za4 (vs us:List ByteArray):List (Nat × Nat):=vs.zipIdx.filterMap fun p=>(zbl p.1 us).map fun k=>(p.2,k)
theorem zs1 {vs us:List ByteArray} {j k:Nat} (hj:j < vs.length) (h:zbl vs[j] us=some k):za4 (vs.take (j+1)) us=za4 (vs.take j) us++[(j,k)]:=by
 unfold za4
 rw [List.take_succ_eq_append_getElem hj,List.zipIdx_append,List.filterMap_append,List.length_take]
 simp [h,Nat.min_eq_left (Nat.le_of_lt hj)]
theorem zs2 {vs us:List ByteArray} {j:Nat} (hj:j < vs.length) (h:zbl vs[j] us=none):za4 (vs.take (j+1)) us=za4 (vs.take j) us:=by
 unfold za4
 rw [List.take_succ_eq_append_getElem hj,List.zipIdx_append,List.filterMap_append,List.length_take]
 simp [h]
theorem zie (vs us:List ByteArray):(za4 vs us).length≤vs.length:=by
 unfold za4
 refine Nat.le_trans (List.length_filterMap_le _ _) ?_
 rw [List.length_zipIdx]
 exact Nat.le_refl _
structure ShS (w1:World) (g:Nat) (sh:List (Nat × Nat)) (A B:Value) (wr:World):Prop where
 cell:wr.heap[g]?=some (.cells #[A,B] 87)
 a:wr.ownsRow w1.heap.size 3 1 A sh.length (sh.map fun p=>Value.int .i64 (p.1:Nat))
 b:wr.ownsRow w1.heap.size 3 1 B sh.length (sh.map fun p=>Value.int .i64 (p.2:Nat))
 apart:∀ x,A.ownBlock=some x→B.ownBlock≠some x
 kept:Kept (fun i=>i=g) w1 wr
def zq9 (W:World) (sh:List (Nat × Nat)) (e:Ending) (w':World):Prop:=
 ∃ A B,e=.returned (.agg #[A,B])∧w'.ownsRow W.heap.size 3 1 A sh.length (sh.map fun p=>Value.int .i64 (p.1:Nat))∧w'.ownsRow W.heap.size 3 1 B sh.length (sh.map fun p=>Value.int .i64 (p.2:Nat))∧Below W.heap.size W w'
theorem zmf:(Tryz.prog.info? 87).map (·.size)=some 2:=by kernel_rfl
theorem zul (vs us:List ByteArray) (V U:Value) (W:World) (hv:zai zaz W (Old W) V vs) (hu:zai zaz W (Old W) U us) (hvn:vs.length≤2097152) (hun:us.length≤2097152):Calls Tryz.prog 76 #[V,U] W (zq9 W (za4 vs us)):=by
 obtain ⟨i0,hi,hz0,hz1,hz2⟩:=info_parts zem
 obtain ⟨W1,hW1⟩:∃ W1,W1=(W.alloc (.cells #[.slice none 0 0,.slice none 0 0] 87)).alloc (.cells #[.slice none 0 0,.slice none 0 0] 87):=⟨_,rfl⟩
 have b1:Below W.heap.size W W1:=by rw [hW1];exact zcr _ _ _
 have s1:W1.heap.size=W.heap.size+2:=by rw [hW1];simp
 have v1:W1.heap[W.heap.size]?=some (.cells #[.slice none 0 0,.slice none 0 0] 87):=by rw [hW1];exact zaq _ (zaf _ _ rfl)
 have u1:W1.heap[W.heap.size+1]?=some (.cells #[.slice none 0 0,.slice none 0 0] 87):=by rw [hW1];exact zaf _ _ (by simp)
 have HC:=Lib.hid (zq8 vs us V U W1 (hv.stays (zae b1)) (hu.stays (zae b1)) hvn hun)
 have hcl:(zis vs us).length=vs.length:=by simp [zis]
 obtain ⟨n,hln⟩:∃ n,n=vs.length:=⟨_,rfl⟩
 have HL:=Lib.hid hln
 have HW:=Lib.hid hW1
 obtain ⟨p,cap,rfl⟩:=hv.slice
 obtain ⟨pu,capu,rfl⟩:=hu.slice
 clear hW1 hv hu
 go_enter Tryz.func76,Tryz.ntmps76
 go_upto_region 2 with fail
 rw [← HW.out]
 go_wp2_with (first
  |(go_at_call 112;(with_reducible refine HC.out.mono ?_);rintro e w1 ⟨C,cs,rfl,hown,hrow,hb1⟩;have hown2:=hown;rw [hcl,← hln] at hown2;obtain ⟨pc,kc,rfl⟩:=zat hown2))
 have hsl:zai intE w1 (fun x=>W1.heap.size≤x∧x < w1.heap.size) (.slice pc n kc) (zis vs us):=(za1.slice hown hrow).stays (fun g hg=>⟨hg,rfl⟩)
 have hz1w:W.heap.size+2≤w1.heap.size:=by have:=hb1.size;omega
 have st:Hid (ShS w1 (W.heap.size+1) [] (.slice none 0 0) (.slice none 0 0) w1):=Lib.hid ⟨(hb1.block _ (by omega)).trans u1,World.ownsRow_nil _ _ _ _,World.ownsRow_nil _ _ _ _,(fun x h=>by cases h),Kept.refl _ _⟩
 have HSL:=Lib.hid hsl
 have HV1:=Lib.hid ((hb1.block _ (by omega)).trans v1)
 have HB1:=Lib.hid (zab b1 hb1 b1.size)
 clear hsl hown2 hown hrow hb1 v1 u1 hcl hln b1
 go_loopg [12] n (fun gg s12 wr=>∃ (j:Nat) (A B:Value),j+gg=n∧s12=.int .i64 j∧Hid (ShS w1 (W.heap.size+1) (za4 (vs.take j) us) A B wr))
 case atStart=>exact ⟨0,_,_,by omega,rfl,by simpa [za4] using st⟩
 case round=>
  clear st
  obtain ⟨j,A,B,hjg,rfl,HS⟩:=hrel
  by_cases hj:(j:Int) < n
  ·have hj1:j < vs.length:=by have:=HL.out;omega
   have hcs:∃ g off,pc=some ⟨g,off,none⟩∧wr.cell? ⟨g,off+j,none⟩=some (.int .i64 (zcx (zbl vs[j] us))):=by
    obtain ⟨g,off,cap',c,e0,hg,hrl,hra⟩:=(zai.stays (P':=fun _=>True) (w':=wr) (fun x hx=>⟨trivial,HS.out.kept.block x hx.2 (by have:=hx.1;omega)⟩) HSL.out).at_ j (by simpa [zis] using hj1)
    injection e0 with e1 e2 e3
    obtain ⟨rfl,hwf⟩:=hrl
    refine ⟨g,off,e1,?_⟩
    have:=hra 0 _ rfl
    simpa [intE,zis] using this
   obtain ⟨gc,oc,rfl,cj⟩:=hcs
   cases hp:zbl vs[j] us with
   | none=>
     rw [hp] at cj
     have HS2:Hid (ShS w1 (W.heap.size+1) (za4 (vs.take (j+1)) us) A B wr):=Lib.hid (by rw [zs2 hj1 hp];exact HS.out)
     replace cj:wr.cell? ⟨gc,oc+j,none⟩=some (.int .i64 (-1)):=cj
     clear hp
     go_wp2_with fail
     go_roundg (gk - 1)
     case measure=>omega
     case rel=>exact ⟨j+1,A,B,by omega,by go_num,HS2⟩
   | some k=>
     rw [hp] at cj
     replace cj:wr.cell? ⟨gc,oc+j,none⟩=some (.int .i64 (k:Nat)):=cj
     have hkn:((k:Int) != -1)=true:=by rw [bne_iff_ne];omega
     have hsl2:(za4 (vs.take j) us).length≤2097152:=by
      have:=zie (vs.take j) us
      rw [List.length_take] at this
      omega
     have HSN:=Lib.hid (zs1 hj1 hp)
     obtain ⟨u5,oA,oB,hap,K0⟩:=HS.out
     generalize za4 (vs.take j) us=sh at*
     obtain ⟨pA,kA,rfl⟩:=zat oA
     obtain ⟨pB,kB,rfl⟩:=zat oB
     have hAlt:=oA.lt
     have hBlt:=oB.lt
     clear hp HS
     go_upto_region 6 with fail
     refine zew (S:=fun W'=>W'.heap[W.heap.size+1]?=some (.cells #[.slice pA sh.length kA,.slice pB sh.length kB] 87)) (fun i=>i == 11 || i == 13) (by kernel_rfl) u5 (fun hh=>?_)
     clear hh
     replace u5:wr.drew.heap[W.heap.size+1]?=some (.cells #[.slice pA sh.length kA,.slice pB sh.length kB] 87):=u5
     replace oA:=oA.drew
     replace oB:=oB.drew
     replace K0:=K0.drew
     replace hAlt:∀ x,(Value.slice pA sh.length kA).ownBlock=some x→w1.heap.size≤x∧x < wr.drew.heap.size:=hAlt
     replace hBlt:∀ x,(Value.slice pB sh.length kB).ownBlock=some x→w1.heap.size≤x∧x < wr.drew.heap.size:=hBlt
     generalize wr.drew=wD at*
     refine za9 (i:=0) (v:=.pointer (some ⟨W.heap.size+1,0,none⟩)) rfl (by kernel_rfl) (by kernel_rfl) (by kernel_rfl) rfl (by kernel_rfl) (by kernel_rfl) (fun _ _ _ h=>h) (Or.inl ⟨by rfl,fun W _=>by go_simp⟩) (u5) ?_
     try simp only [putS]
     refine zb6 (i:=2) (v:=.int .i64 (j:Int)) rfl (by kernel_rfl) (by kernel_rfl) (by kernel_rfl) rfl (fun _ _ _ h=>h) (Or.inl ⟨by rfl,fun W _=>by go_simp⟩) (fun _=>u5) ?_
     try simp only [putS]
     refine za9 (i:=5) (v:=.pointer (some ⟨W.heap.size+1,1,none⟩)) rfl (by kernel_rfl) (by kernel_rfl) (by kernel_rfl) rfl (by kernel_rfl) (by kernel_rfl) (fun _ _ _ h=>h) (Or.inl ⟨by rfl,fun W _=>by go_simp⟩) (u5) ?_
     try simp only [putS]
     refine zb6 (i:=7) (v:=.int .i64 (k:Int)) rfl (by kernel_rfl) (by kernel_rfl) (by kernel_rfl) rfl (fun _ _ _ h=>h) (Or.inl ⟨by rfl,fun W _=>by go_simp⟩) (fun _=>u5) ?_
     try simp only [putS]
     refine za9 (i:=1) (v:=.slice pA sh.length kA) rfl (by kernel_rfl) (by kernel_rfl) (by kernel_rfl) rfl (by kernel_rfl) (by kernel_rfl) (fun _ _ _ h=>h) (Or.inl ⟨by rfl,fun W' h=>by have c0:=zad h 0 rfl;go_simp⟩) (u5) ?_
     try simp only [putS]
     refine za9 (i:=6) (v:=.slice pB sh.length kB) rfl (by kernel_rfl) (by kernel_rfl) (by kernel_rfl) rfl (by kernel_rfl) (by kernel_rfl) (fun _ _ _ h=>h) (Or.inl ⟨by rfl,fun W' h=>by have c0:=zad h 1 rfl;go_simp⟩) (u5) ?_
     try simp only [putS]
     refine zaw (rs:=[3,8]) (by kernel_rfl) (by simp) ?_
     refine zan.cons rfl (fun K hK=>?_) (zan.cons rfl (fun K hK=>?_) zan.nil)
     ·try rw [if_pos (by rfl)]
      go_simp
      replace u5:=zaq (.cells #[.int .i64 (j:Int)] 3) u5
      have cA:(wD.alloc (.cells #[.int .i64 (j:Int)] 3)).heap[wD.heap.size]?=some (.cells #[.int .i64 (j:Int)] 3):=zaf _ _ (by simp)
      replace oA:=oA.alloc (.cells #[.int .i64 (j:Int)] 3)
      replace oB:=oB.alloc (.cells #[.int .i64 (j:Int)] 3)
      replace K0:=K0.alloc (.cells #[.int .i64 (j:Int)] 3)
      refine hK.out _ _ (u5) (fun _=>?_)
      clear hK K
      try simp only [putS]
      refine zaw (rs:=[4,8]) (by kernel_rfl) (by simp) ?_
      refine zan.cons rfl (fun K hK=>?_) (zan.cons rfl (fun K hK=>?_) zan.nil)
      ·try rw [if_pos (by rfl)]
       refine zbx (P:=Tryz.prog) (w:=(wD.alloc (.cells #[.int .i64 (j:Int)] 3))) (.tmp 20) (.tmp 22) 26 rfl w1.heap.size 3 i0 (.int .i64 0) 1 8 Tryz.underlying26 hi hz0 hz1 hz2 rfl (by decide) (.slice pA sh.length kA) sh.length _ rfl oA ⟨wD.heap.size,0,none⟩ 1 1 [.int .i64 (j:Int)] rfl rfl (World.news_of_block (by exact cA)) (by simp [Value.oneCell']) (by unfold maxLen;omega) (by omega) K0.size ?_
       intro vA wA oA2 hgA _ hlA
       obtain ⟨qA,mA,rfl⟩:=zat oA2
       have hAn:∀ x,(Value.slice qA (sh.length+1) mA).ownBlock=some x→w1.heap.size≤x∧(Value.slice pB sh.length kB).ownBlock≠some x:=fun x hx=>⟨(oA2.lt x hx).1,fun q=>by
        rcases hlA with e | e
        ·exact hap x (by rw [← e];exact hx) q
        ·rw [e] at hx
         have h1:=(hBlt x q).2
         have h2:=Option.some.inj hx
         (try simp at h2)
         omega⟩
       replace u5:=(hgA.block _ (zaa u5) (fun e=>by have:=(hAlt _ e.symm).1;omega)).trans u5
       replace oB:=zc2 oB hgA (fun b q r=>hap b r q)
       replace K0:=K0.grown hgA (fun i q h=>absurd (hAlt i q).1 (by omega))
       clear oA hgA hlA cA
       refine hK.out _ _ (u5) (fun _=>?_)
       clear hK K
       try simp only [putS]
       refine zb6 (i:=10) (v:=.pointer (some ⟨W.heap.size+1,0,none⟩)) rfl (by kernel_rfl) (by kernel_rfl) (by kernel_rfl) rfl (fun _ _ _ h=>h) (Or.inl ⟨by rfl,fun W _=>by go_simp⟩) (fun _=>u5) ?_
       try simp only [putS]
       refine zaw (rs:=[8]) (by kernel_rfl) (by simp) ?_
       refine zan.cons rfl (fun K hK=>?_) zan.nil
       try rw [if_pos (by rfl)]
       go_simp
       replace u5:=zaq (.cells #[.int .i64 (k:Int)] 3) u5
       have cB:(wA.alloc (.cells #[.int .i64 (k:Int)] 3)).heap[wA.heap.size]?=some (.cells #[.int .i64 (k:Int)] 3):=zaf _ _ (by simp)
       replace oA2:=oA2.alloc (.cells #[.int .i64 (k:Int)] 3)
       replace oB:=oB.alloc (.cells #[.int .i64 (k:Int)] 3)
       replace K0:=K0.alloc (.cells #[.int .i64 (k:Int)] 3)
       refine hK.out _ _ (u5) (fun _=>?_)
       clear hK K
       try simp only [putS]
       refine zaw (rs:=[9]) (by kernel_rfl) (by simp) ?_
       refine zan.cons rfl (fun K hK=>?_) zan.nil
       try rw [if_pos (by rfl)]
       refine zbx (P:=Tryz.prog) (w:=(wA.alloc (.cells #[.int .i64 (k:Int)] 3))) (.tmp 25) (.tmp 27) 26 rfl w1.heap.size 3 i0 (.int .i64 0) 1 8 Tryz.underlying26 hi hz0 hz1 hz2 rfl (by decide) (.slice pB sh.length kB) sh.length _ rfl oB ⟨wA.heap.size,0,none⟩ 1 1 [.int .i64 (k:Int)] rfl rfl (World.news_of_block (by exact cB)) (by simp [Value.oneCell']) (by unfold maxLen;omega) (by omega) K0.size ?_
       intro vB wB oB2 hgB _ hlB
       obtain ⟨qB,mB,rfl⟩:=zat oB2
       have hap2:∀ x,(Value.slice qA (sh.length+1) mA).ownBlock=some x→(Value.slice qB (sh.length+1) mB).ownBlock≠some x:=fun x hx q=>by
        rcases hlB with e | e
        ·exact (hAn x hx).2 (by rw [← e];exact q)
        ·rw [e] at q
         have h1:=(oA2.lt x hx).2
         have h2:=Option.some.inj q
         omega
       replace u5:=(hgB.block _ (zaa u5) (fun e=>by have:=(hBlt _ e.symm).1;omega)).trans u5
       replace oA2:=zc2 oA2 hgB (fun b q r=>(hAn b q).2 r)
       replace K0:=K0.grown hgB (fun i q h=>absurd (hBlt i q).1 (by omega))
       clear oB hgB hlB cB
       refine hK.out _ _ (u5) (fun _=>?_)
       clear hK K
       try simp only [putS]
       refine zaw (rs:=[11]) (by kernel_rfl) (by simp) ?_
       refine zan.late rfl (by kernel_rfl) (fun K hK=>?_) zan.nil
       try rw [if_pos (by rfl)]
       have c0:=zad u5 0 rfl
       have f0:=zdl u5 0
       go_simp
       clear c0 f0
       replace oA2:=zbf oA2 (w':=wB.setCell ⟨W.heap.size+1,0,none⟩ (.slice qA (sh.length+1) mA)) (fun b q=>Below.heap_setCell _ _ _ _ (by show b≠W.heap.size+1;have:=(oA2.lt b q).1;omega))
       replace oB2:=zbf oB2 (w':=wB.setCell ⟨W.heap.size+1,0,none⟩ (.slice qA (sh.length+1) mA)) (fun b q=>Below.heap_setCell _ _ _ _ (by show b≠W.heap.size+1;have:=(oB2.lt b q).1;omega))
       replace K0:=K0.set (p:=⟨W.heap.size+1,0,none⟩) rfl (.slice qA (sh.length+1) mA)
       replace u5:=zb8 u5 0 (.slice qA (sh.length+1) mA)
       refine hK.out _ _ ?_
       clear hK K
       try simp only [putS]
       refine zb6 (i:=12) (v:=.pointer (some ⟨W.heap.size+1,1,none⟩)) rfl (by kernel_rfl) (by kernel_rfl) (by kernel_rfl) rfl (fun _ _ _ h=>h) (Or.inl ⟨by rfl,fun W _=>by go_simp⟩) (fun h=>by have q:true=false:=h.symm.trans (by kernel_rfl);cases q) ?_
       try simp only [putS]
       refine zaw (rs:=[13]) (by kernel_rfl) (by simp) ?_
       refine zan.late rfl (by kernel_rfl) (fun K hK=>?_) zan.nil
       try rw [if_pos (by rfl)]
       have c0:=zad u5 1 rfl
       have f0:=zdl u5 1
       go_simp
       clear c0 f0
       replace oA2:=zbf oA2 (w':=(wB.setCell ⟨W.heap.size+1,0,none⟩ (.slice qA (sh.length+1) mA)).setCell ⟨W.heap.size+1,1,none⟩ (.slice qB (sh.length+1) mB)) (fun b q=>Below.heap_setCell _ _ _ _ (by show b≠W.heap.size+1;have:=(oA2.lt b q).1;omega))
       replace oB2:=zbf oB2 (w':=(wB.setCell ⟨W.heap.size+1,0,none⟩ (.slice qA (sh.length+1) mA)).setCell ⟨W.heap.size+1,1,none⟩ (.slice qB (sh.length+1) mB)) (fun b q=>Below.heap_setCell _ _ _ _ (by show b≠W.heap.size+1;have:=(oB2.lt b q).1;omega))
       replace K0:=K0.set (p:=⟨W.heap.size+1,1,none⟩) rfl (.slice qB (sh.length+1) mB)
       replace u5:=zb8 u5 1 (.slice qB (sh.length+1) mB)
       refine hK.out _ _ ?_
       clear hK K
       try simp only [putS]
       refine zd0 (by kernel_rfl) ?_ _
       have HN:Hid (ShS w1 (W.heap.size+1) (za4 (vs.take (j+1)) us) (.slice qA (sh.length+1) mA) (.slice qB (sh.length+1) mB) ((wB.setCell ⟨W.heap.size+1,0,none⟩ (.slice qA (sh.length+1) mA)).setCell ⟨W.heap.size+1,1,none⟩ (.slice qB (sh.length+1) mB))):=Lib.hid (by
        rw [HSN.out]
        exact ⟨u5,by simpa using oA2,by simpa using oB2,hap2,K0⟩)
       generalize ((wB.setCell ⟨W.heap.size+1,0,none⟩ (.slice qA (sh.length+1) mA)).setCell ⟨W.heap.size+1,1,none⟩ (.slice qB (sh.length+1) mB))=wE at*
       clear oA2 oB2 hap2 K0 u5 hAn hap hAlt hBlt
       go_wp2_with fail
       go_roundg (gk - 1)
       case measure=>omega
       case rel=>exact ⟨j+1,_,_,by omega,by go_num,HN⟩
      ·try rw [if_pos (by rfl)]
       go_simp
       replace u5:=zaq (.cells #[.int .i64 (k:Int)] 3) u5
       have cB:((wD.alloc (.cells #[.int .i64 (j:Int)] 3)).alloc (.cells #[.int .i64 (k:Int)] 3)).heap[wD.heap.size+1]?=some (.cells #[.int .i64 (k:Int)] 3):=zaf _ _ (by simp)
       replace cA:=zaq (.cells #[.int .i64 (k:Int)] 3) cA
       replace oA:=oA.alloc (.cells #[.int .i64 (k:Int)] 3)
       replace oB:=oB.alloc (.cells #[.int .i64 (k:Int)] 3)
       replace K0:=K0.alloc (.cells #[.int .i64 (k:Int)] 3)
       refine hK.out _ _ (u5) (fun _=>?_)
       clear hK K
       try simp only [putS]
       refine zaw (rs:=[4]) (by kernel_rfl) (by simp) ?_
       refine zan.cons rfl (fun K hK=>?_) zan.nil
       try rw [if_pos (by rfl)]
       refine zbx (P:=Tryz.prog) (w:=((wD.alloc (.cells #[.int .i64 (j:Int)] 3)).alloc (.cells #[.int .i64 (k:Int)] 3))) (.tmp 20) (.tmp 22) 26 rfl w1.heap.size 3 i0 (.int .i64 0) 1 8 Tryz.underlying26 hi hz0 hz1 hz2 rfl (by decide) (.slice pA sh.length kA) sh.length _ rfl oA ⟨wD.heap.size,0,none⟩ 1 1 [.int .i64 (j:Int)] rfl rfl (World.news_of_block (by exact cA)) (by simp [Value.oneCell']) (by unfold maxLen;omega) (by omega) K0.size ?_
       intro vA wA oA2 hgA _ hlA
       obtain ⟨qA,mA,rfl⟩:=zat oA2
       have hAn:∀ x,(Value.slice qA (sh.length+1) mA).ownBlock=some x→w1.heap.size≤x∧(Value.slice pB sh.length kB).ownBlock≠some x:=fun x hx=>⟨(oA2.lt x hx).1,fun q=>by
        rcases hlA with e | e
        ·exact hap x (by rw [← e];exact hx) q
        ·rw [e] at hx
         have h1:=(hBlt x q).2
         have h2:=Option.some.inj hx
         (try simp at h2)
         omega⟩
       replace u5:=(hgA.block _ (zaa u5) (fun e=>by have:=(hAlt _ e.symm).1;omega)).trans u5
       replace oB:=zc2 oB hgA (fun b q r=>hap b r q)
       replace K0:=K0.grown hgA (fun i q h=>absurd (hAlt i q).1 (by omega))
       replace cB:=(hgA.block _ (zaa cB) (fun e=>by have:=(hAlt _ e.symm).2;(first | omega |(simp at this;omega) | simp at this))).trans cB
       clear oA hgA hlA cA
       refine hK.out _ _ (u5) (fun _=>?_)
       clear hK K
       try simp only [putS]
       refine zb6 (i:=10) (v:=.pointer (some ⟨W.heap.size+1,0,none⟩)) rfl (by kernel_rfl) (by kernel_rfl) (by kernel_rfl) rfl (fun _ _ _ h=>h) (Or.inl ⟨by rfl,fun W _=>by go_simp⟩) (fun _=>u5) ?_
       try simp only [putS]
       refine zaw (rs:=[9]) (by kernel_rfl) (by simp) ?_
       refine zan.cons rfl (fun K hK=>?_) zan.nil
       try rw [if_pos (by rfl)]
       refine zbx (P:=Tryz.prog) (w:=wA) (.tmp 25) (.tmp 27) 26 rfl w1.heap.size 3 i0 (.int .i64 0) 1 8 Tryz.underlying26 hi hz0 hz1 hz2 rfl (by decide) (.slice pB sh.length kB) sh.length _ rfl oB ⟨wD.heap.size+1,0,none⟩ 1 1 [.int .i64 (k:Int)] rfl rfl (World.news_of_block (by exact cB)) (by simp [Value.oneCell']) (by unfold maxLen;omega) (by omega) K0.size ?_
       intro vB wB oB2 hgB _ hlB
       obtain ⟨qB,mB,rfl⟩:=zat oB2
       have hap2:∀ x,(Value.slice qA (sh.length+1) mA).ownBlock=some x→(Value.slice qB (sh.length+1) mB).ownBlock≠some x:=fun x hx q=>by
        rcases hlB with e | e
        ·exact (hAn x hx).2 (by rw [← e];exact q)
        ·rw [e] at q
         have h1:=(oA2.lt x hx).2
         have h2:=Option.some.inj q
         omega
       replace u5:=(hgB.block _ (zaa u5) (fun e=>by have:=(hBlt _ e.symm).1;omega)).trans u5
       replace oA2:=zc2 oA2 hgB (fun b q r=>(hAn b q).2 r)
       replace K0:=K0.grown hgB (fun i q h=>absurd (hBlt i q).1 (by omega))
       clear oB hgB hlB cB
       refine hK.out _ _ (u5) (fun _=>?_)
       clear hK K
       try simp only [putS]
       refine zaw (rs:=[11]) (by kernel_rfl) (by simp) ?_
       refine zan.late rfl (by kernel_rfl) (fun K hK=>?_) zan.nil
       try rw [if_pos (by rfl)]
       have c0:=zad u5 0 rfl
       have f0:=zdl u5 0
       go_simp
       clear c0 f0
       replace oA2:=zbf oA2 (w':=wB.setCell ⟨W.heap.size+1,0,none⟩ (.slice qA (sh.length+1) mA)) (fun b q=>Below.heap_setCell _ _ _ _ (by show b≠W.heap.size+1;have:=(oA2.lt b q).1;omega))
       replace oB2:=zbf oB2 (w':=wB.setCell ⟨W.heap.size+1,0,none⟩ (.slice qA (sh.length+1) mA)) (fun b q=>Below.heap_setCell _ _ _ _ (by show b≠W.heap.size+1;have:=(oB2.lt b q).1;omega))
       replace K0:=K0.set (p:=⟨W.heap.size+1,0,none⟩) rfl (.slice qA (sh.length+1) mA)
       replace u5:=zb8 u5 0 (.slice qA (sh.length+1) mA)
       refine hK.out _ _ ?_
       clear hK K
       try simp only [putS]
       refine zb6 (i:=12) (v:=.pointer (some ⟨W.heap.size+1,1,none⟩)) rfl (by kernel_rfl) (by kernel_rfl) (by kernel_rfl) rfl (fun _ _ _ h=>h) (Or.inl ⟨by rfl,fun W _=>by go_simp⟩) (fun h=>by have q:true=false:=h.symm.trans (by kernel_rfl);cases q) ?_
       try simp only [putS]
       refine zaw (rs:=[13]) (by kernel_rfl) (by simp) ?_
       refine zan.late rfl (by kernel_rfl) (fun K hK=>?_) zan.nil
       try rw [if_pos (by rfl)]
       have c0:=zad u5 1 rfl
       have f0:=zdl u5 1
       go_simp
       clear c0 f0
       replace oA2:=zbf oA2 (w':=(wB.setCell ⟨W.heap.size+1,0,none⟩ (.slice qA (sh.length+1) mA)).setCell ⟨W.heap.size+1,1,none⟩ (.slice qB (sh.length+1) mB)) (fun b q=>Below.heap_setCell _ _ _ _ (by show b≠W.heap.size+1;have:=(oA2.lt b q).1;omega))
       replace oB2:=zbf oB2 (w':=(wB.setCell ⟨W.heap.size+1,0,none⟩ (.slice qA (sh.length+1) mA)).setCell ⟨W.heap.size+1,1,none⟩ (.slice qB (sh.length+1) mB)) (fun b q=>Below.heap_setCell _ _ _ _ (by show b≠W.heap.size+1;have:=(oB2.lt b q).1;omega))
       replace K0:=K0.set (p:=⟨W.heap.size+1,1,none⟩) rfl (.slice qB (sh.length+1) mB)
       replace u5:=zb8 u5 1 (.slice qB (sh.length+1) mB)
       refine hK.out _ _ ?_
       clear hK K
       try simp only [putS]
       refine zd0 (by kernel_rfl) ?_ _
       have HN:Hid (ShS w1 (W.heap.size+1) (za4 (vs.take (j+1)) us) (.slice qA (sh.length+1) mA) (.slice qB (sh.length+1) mB) ((wB.setCell ⟨W.heap.size+1,0,none⟩ (.slice qA (sh.length+1) mA)).setCell ⟨W.heap.size+1,1,none⟩ (.slice qB (sh.length+1) mB))):=Lib.hid (by
        rw [HSN.out]
        exact ⟨u5,by simpa using oA2,by simpa using oB2,hap2,K0⟩)
       generalize ((wB.setCell ⟨W.heap.size+1,0,none⟩ (.slice qA (sh.length+1) mA)).setCell ⟨W.heap.size+1,1,none⟩ (.slice qB (sh.length+1) mB))=wE at*
       clear oA2 oB2 hap2 K0 u5 hAn hap hAlt hBlt
       go_wp2_with fail
       go_roundg (gk - 1)
       case measure=>omega
       case rel=>exact ⟨j+1,_,_,by omega,by go_num,HN⟩
     ·try rw [if_pos (by rfl)]
      go_simp
      replace u5:=zaq (.cells #[.int .i64 (k:Int)] 3) u5
      have cB:(wD.alloc (.cells #[.int .i64 (k:Int)] 3)).heap[wD.heap.size]?=some (.cells #[.int .i64 (k:Int)] 3):=zaf _ _ (by simp)
      replace oA:=oA.alloc (.cells #[.int .i64 (k:Int)] 3)
      replace oB:=oB.alloc (.cells #[.int .i64 (k:Int)] 3)
      replace K0:=K0.alloc (.cells #[.int .i64 (k:Int)] 3)
      refine hK.out _ _ (u5) (fun _=>?_)
      clear hK K
      try simp only [putS]
      refine zaw (rs:=[3]) (by kernel_rfl) (by simp) ?_
      refine zan.cons rfl (fun K hK=>?_) zan.nil
      try rw [if_pos (by rfl)]
      go_simp
      replace u5:=zaq (.cells #[.int .i64 (j:Int)] 3) u5
      have cA:((wD.alloc (.cells #[.int .i64 (k:Int)] 3)).alloc (.cells #[.int .i64 (j:Int)] 3)).heap[wD.heap.size+1]?=some (.cells #[.int .i64 (j:Int)] 3):=zaf _ _ (by simp)
      replace cB:=zaq (.cells #[.int .i64 (j:Int)] 3) cB
      replace oA:=oA.alloc (.cells #[.int .i64 (j:Int)] 3)
      replace oB:=oB.alloc (.cells #[.int .i64 (j:Int)] 3)
      replace K0:=K0.alloc (.cells #[.int .i64 (j:Int)] 3)
      refine hK.out _ _ (u5) (fun _=>?_)
      clear hK K
      try simp only [putS]
      refine zaw (rs:=[4]) (by kernel_rfl) (by simp) ?_
      refine zan.cons rfl (fun K hK=>?_) zan.nil
      try rw [if_pos (by rfl)]
      refine zbx (P:=Tryz.prog) (w:=((wD.alloc (.cells #[.int .i64 (k:Int)] 3)).alloc (.cells #[.int .i64 (j:Int)] 3))) (.tmp 20) (.tmp 22) 26 rfl w1.heap.size 3 i0 (.int .i64 0) 1 8 Tryz.underlying26 hi hz0 hz1 hz2 rfl (by decide) (.slice pA sh.length kA) sh.length _ rfl oA ⟨wD.heap.size+1,0,none⟩ 1 1 [.int .i64 (j:Int)] rfl rfl (World.news_of_block (by exact cA)) (by simp [Value.oneCell']) (by unfold maxLen;omega) (by omega) K0.size ?_
      intro vA wA oA2 hgA _ hlA
      obtain ⟨qA,mA,rfl⟩:=zat oA2
      have hAn:∀ x,(Value.slice qA (sh.length+1) mA).ownBlock=some x→w1.heap.size≤x∧(Value.slice pB sh.length kB).ownBlock≠some x:=fun x hx=>⟨(oA2.lt x hx).1,fun q=>by
       rcases hlA with e | e
       ·exact hap x (by rw [← e];exact hx) q
       ·rw [e] at hx
        have h1:=(hBlt x q).2
        have h2:=Option.some.inj hx
        (try simp at h2)
        omega⟩
      replace u5:=(hgA.block _ (zaa u5) (fun e=>by have:=(hAlt _ e.symm).1;omega)).trans u5
      replace oB:=zc2 oB hgA (fun b q r=>hap b r q)
      replace K0:=K0.grown hgA (fun i q h=>absurd (hAlt i q).1 (by omega))
      replace cB:=(hgA.block _ (zaa cB) (fun e=>by have:=(hAlt _ e.symm).2;(first | omega |(simp at this;omega) | simp at this))).trans cB
      clear oA hgA hlA cA
      refine hK.out _ _ (u5) (fun _=>?_)
      clear hK K
      try simp only [putS]
      refine zb6 (i:=10) (v:=.pointer (some ⟨W.heap.size+1,0,none⟩)) rfl (by kernel_rfl) (by kernel_rfl) (by kernel_rfl) rfl (fun _ _ _ h=>h) (Or.inl ⟨by rfl,fun W _=>by go_simp⟩) (fun _=>u5) ?_
      try simp only [putS]
      refine zaw (rs:=[9]) (by kernel_rfl) (by simp) ?_
      refine zan.cons rfl (fun K hK=>?_) zan.nil
      try rw [if_pos (by rfl)]
      refine zbx (P:=Tryz.prog) (w:=wA) (.tmp 25) (.tmp 27) 26 rfl w1.heap.size 3 i0 (.int .i64 0) 1 8 Tryz.underlying26 hi hz0 hz1 hz2 rfl (by decide) (.slice pB sh.length kB) sh.length _ rfl oB ⟨wD.heap.size,0,none⟩ 1 1 [.int .i64 (k:Int)] rfl rfl (World.news_of_block (by exact cB)) (by simp [Value.oneCell']) (by unfold maxLen;omega) (by omega) K0.size ?_
      intro vB wB oB2 hgB _ hlB
      obtain ⟨qB,mB,rfl⟩:=zat oB2
      have hap2:∀ x,(Value.slice qA (sh.length+1) mA).ownBlock=some x→(Value.slice qB (sh.length+1) mB).ownBlock≠some x:=fun x hx q=>by
       rcases hlB with e | e
       ·exact (hAn x hx).2 (by rw [← e];exact q)
       ·rw [e] at q
        have h1:=(oA2.lt x hx).2
        have h2:=Option.some.inj q
        omega
      replace u5:=(hgB.block _ (zaa u5) (fun e=>by have:=(hBlt _ e.symm).1;omega)).trans u5
      replace oA2:=zc2 oA2 hgB (fun b q r=>(hAn b q).2 r)
      replace K0:=K0.grown hgB (fun i q h=>absurd (hBlt i q).1 (by omega))
      clear oB hgB hlB cB
      refine hK.out _ _ (u5) (fun _=>?_)
      clear hK K
      try simp only [putS]
      refine zaw (rs:=[11]) (by kernel_rfl) (by simp) ?_
      refine zan.late rfl (by kernel_rfl) (fun K hK=>?_) zan.nil
      try rw [if_pos (by rfl)]
      have c0:=zad u5 0 rfl
      have f0:=zdl u5 0
      go_simp
      clear c0 f0
      replace oA2:=zbf oA2 (w':=wB.setCell ⟨W.heap.size+1,0,none⟩ (.slice qA (sh.length+1) mA)) (fun b q=>Below.heap_setCell _ _ _ _ (by show b≠W.heap.size+1;have:=(oA2.lt b q).1;omega))
      replace oB2:=zbf oB2 (w':=wB.setCell ⟨W.heap.size+1,0,none⟩ (.slice qA (sh.length+1) mA)) (fun b q=>Below.heap_setCell _ _ _ _ (by show b≠W.heap.size+1;have:=(oB2.lt b q).1;omega))
      replace K0:=K0.set (p:=⟨W.heap.size+1,0,none⟩) rfl (.slice qA (sh.length+1) mA)
      replace u5:=zb8 u5 0 (.slice qA (sh.length+1) mA)
      refine hK.out _ _ ?_
      clear hK K
      try simp only [putS]
      refine zb6 (i:=12) (v:=.pointer (some ⟨W.heap.size+1,1,none⟩)) rfl (by kernel_rfl) (by kernel_rfl) (by kernel_rfl) rfl (fun _ _ _ h=>h) (Or.inl ⟨by rfl,fun W _=>by go_simp⟩) (fun h=>by have q:true=false:=h.symm.trans (by kernel_rfl);cases q) ?_
      try simp only [putS]
      refine zaw (rs:=[13]) (by kernel_rfl) (by simp) ?_
      refine zan.late rfl (by kernel_rfl) (fun K hK=>?_) zan.nil
      try rw [if_pos (by rfl)]
      have c0:=zad u5 1 rfl
      have f0:=zdl u5 1
      go_simp
      clear c0 f0
      replace oA2:=zbf oA2 (w':=(wB.setCell ⟨W.heap.size+1,0,none⟩ (.slice qA (sh.length+1) mA)).setCell ⟨W.heap.size+1,1,none⟩ (.slice qB (sh.length+1) mB)) (fun b q=>Below.heap_setCell _ _ _ _ (by show b≠W.heap.size+1;have:=(oA2.lt b q).1;omega))
      replace oB2:=zbf oB2 (w':=(wB.setCell ⟨W.heap.size+1,0,none⟩ (.slice qA (sh.length+1) mA)).setCell ⟨W.heap.size+1,1,none⟩ (.slice qB (sh.length+1) mB)) (fun b q=>Below.heap_setCell _ _ _ _ (by show b≠W.heap.size+1;have:=(oB2.lt b q).1;omega))
      replace K0:=K0.set (p:=⟨W.heap.size+1,1,none⟩) rfl (.slice qB (sh.length+1) mB)
      replace u5:=zb8 u5 1 (.slice qB (sh.length+1) mB)
      refine hK.out _ _ ?_
      clear hK K
      try simp only [putS]
      refine zd0 (by kernel_rfl) ?_ _
      have HN:Hid (ShS w1 (W.heap.size+1) (za4 (vs.take (j+1)) us) (.slice qA (sh.length+1) mA) (.slice qB (sh.length+1) mB) ((wB.setCell ⟨W.heap.size+1,0,none⟩ (.slice qA (sh.length+1) mA)).setCell ⟨W.heap.size+1,1,none⟩ (.slice qB (sh.length+1) mB))):=Lib.hid (by
       rw [HSN.out]
       exact ⟨u5,by simpa using oA2,by simpa using oB2,hap2,K0⟩)
      generalize ((wB.setCell ⟨W.heap.size+1,0,none⟩ (.slice qA (sh.length+1) mA)).setCell ⟨W.heap.size+1,1,none⟩ (.slice qB (sh.length+1) mB))=wE at*
      clear oA2 oB2 hap2 K0 u5 hAn hap hAlt hBlt
      go_wp2_with fail
      go_roundg (gk - 1)
      case measure=>omega
      case rel=>exact ⟨j+1,_,_,by omega,by go_num,HN⟩
  ·have hj2:¬ ((j:Int) < vs.length):=by have:=HL.out;omega
   have e:vs.take j=vs:=by rw [List.take_of_length_le];have:=HL.out;omega
   have hS:=HS.out
   rw [e] at hS
   have u5:=hS.cell
   have v5:wr.heap[W.heap.size]?=some (.cells #[.slice none 0 0,.slice none 0 0] 87):=(hS.kept.block _ (by omega) (by omega)).trans HV1.out
   obtain ⟨pA,kA,rfl⟩:=zat hS.a
   obtain ⟨pB,kB,rfl⟩:=zat hS.b
   have HS3:=Lib.hid hS
   clear hS e HS
   go_wp2_with (first
    |((with_reducible refine zah (.tmp 5) (W.heap.size+1) 87 87 [.slice pA (za4 vs us).length kA,.slice pB (za4 vs us).length kB] 2 _ u5 rfl Tryz.underlying87 rfl zmf ?_ ?_ ?_ ?_);rfl;rfl;rfl)
    |((with_reducible refine zar (.tmp 4) (.tmp 32) W.heap.size 87 87 _ [.slice pA (za4 vs us).length kA,.slice pB (za4 vs us).length kB] 2 v5 rfl ?_ ?_ ?_ ?_ zmf rfl (zbv rfl rfl) ?_);rfl;rfl;rfl;rfl;intro wX oX v6))
   have hSo:=HS3.out
   have hzk:=hSo.kept.size
   have neA:∀ g,(Value.slice pA (za4 vs us).length kA).ownBlock=some g→wX.heap[g]?=wr.heap[g]?:=fun g e=>oX.block g (hSo.a.lt g e).2 (by have:=(hSo.a.lt g e).1;omega)
   have neB:∀ g,(Value.slice pB (za4 vs us).length kB).ownBlock=some g→wX.heap[g]?=wr.heap[g]?:=fun g e=>oX.block g (hSo.b.lt g e).2 (by have:=(hSo.b.lt g e).1;omega)
   refine bodyPost_ret (results_cell_row (p:=4) (ty:=87) Tryz.results76 _ _ W.heap.size 87 _ (0,0) _ rfl v6 Tryz.underlying87 rfl zmf) rfl
    ⟨_,_,rfl,zmw (zbf hSo.a neA) (by omega),zmw (zbf hSo.b neB) (by omega),?_⟩
   have h1:Below W.heap.size W wr:=HB1.out.trans (hSo.kept.low (B:=W.heap.size) (by omega) (fun i h=>by omega))
   exact zam h1 oX (Nat.le_refl _) h1.size
def zit:Val:=.mk 0 false 0 ⟨#[]⟩ ⟨#[]⟩ []
def atV (r:List Val) (i:Nat):Val:=r.getD i zit
theorem zh4 {r:List Val} {i:Nat} (h:i < r.length):atV r i=r[i]:=by simp [atV,h]
def fit1 (a b:List Val) (p:Nat × Nat):Bool:=!((isB (atV a p.1) && isB (atV b p.2)) && !zc9 (atV a p.1) (atV b p.2))
def fitB (sh:List (Nat × Nat)) (a b:List Val):Bool:=sh.all (fit1 a b)
def zra (a b:List Val) (p:Nat × Nat):Bool:=isB (atV a p.1) && isB (atV b p.2)
def zmq (sh:List (Nat × Nat)) (a b:List Val):Bool:=sh.any (zra a b)
theorem zcj {W W':World} {g o:Nat} {cs:List Value} (h:W.rangeAt g o cs) (b:Below W.heap.size W W'):W'.rangeAt g o cs:=fun j u hu=>zbj (h j u hu) b
structure FitS (g0:Nat) (cs0:Array Value) (gA oA:Nat) (zA:Int) (gB oB:Nat) (zB:Int) (ga oa:Nat) (ca:List Value) (gb ob:Nat) (cb:List Value) (W:World):Prop where
 s:W.heap[g0]?=some (.cells cs0 87)
 a:W.cell? ⟨gA,oA,none⟩=some (.int .i64 zA)
 b:W.cell? ⟨gB,oB,none⟩=some (.int .i64 zB)
 ra:W.rangeAt ga oa ca
 rb:W.rangeAt gb ob cb
theorem FitS.below {g0:Nat} {cs0:Array Value} {gA oA:Nat} {zA:Int} {gB oB:Nat} {zB:Int} {ga oa:Nat} {ca:List Value} {gb ob:Nat} {cb:List Value} {W W':World} (h:FitS g0 cs0 gA oA zA gB oB zB ga oa ca gb ob cb W) (b:Below W.heap.size W W'):FitS g0 cs0 gA oA zA gB oB zB ga oa ca gb ob cb W':=
 ⟨(b.block _ (zaa h.s)).trans h.s,zbj h.a b,zbj h.b b,zcj h.ra b,zcj h.rb b⟩
theorem FitS.drew {g0:Nat} {cs0:Array Value} {gA oA:Nat} {zA:Int} {gB oB:Nat} {zB:Int} {ga oa:Nat} {ca:List Value} {gb ob:Nat} {cb:List Value} {W:World} (h:FitS g0 cs0 gA oA zA gB oB zB ga oa ca gb ob cb W):FitS g0 cs0 gA oA zA gB oB zB ga oa ca gb ob cb W.drew:=⟨h.s,h.a,h.b,h.ra,h.rb⟩
structure ShIn (W:World) (P:Nat→Prop) (sh:List (Nat × Nat)) (A B:Value):Prop where
 a:zai intE W P A (sh.map fun p=>(p.1:Int))
 b:zai intE W P B (sh.map fun p=>(p.2:Int))
theorem ShIn.stays {W W':World} {P P':Nat→Prop} {sh:List (Nat × Nat)} {A B:Value} (h:ShIn W P sh A B) (s:zel P P' W W'):ShIn W' P' sh A B:=⟨h.a.stays s,h.b.stays s⟩
theorem ShIn.at_ {W:World} {P:Nat→Prop} {sh:List (Nat × Nat)} {A B:Value} (h:ShIn W P sh A B) (j:Nat) (hj:j < sh.length):∃ gA oA kA gB oB kB,A=.slice (some ⟨gA,oA,none⟩) sh.length kA∧B=.slice (some ⟨gB,oB,none⟩) sh.length kB∧W.cell? ⟨gA,oA+j,none⟩=some (.int .i64 (sh[j].1:Nat))∧W.cell? ⟨gB,oB+j,none⟩=some (.int .i64 (sh[j].2:Nat)):=by
 obtain ⟨gA,oA,kA,c,e,_,hr,ha⟩:=h.a.at_ j (by simpa using hj)
 obtain ⟨gB,oB,kB,d,e2,_,hr2,hb⟩:=h.b.at_ j (by simpa using hj)
 obtain ⟨rfl,_⟩:=hr
 obtain ⟨rfl,_⟩:=hr2
 refine ⟨gA,oA,kA,gB,oB,kB,by simpa using e,by simpa using e2,?_,?_⟩
 ·have:=ha 0 _ rfl
  simpa [intE] using this
 ·have:=hb 0 _ rfl
  simpa [intE] using this
theorem ShIn.slice {W:World} {P:Nat→Prop} {sh:List (Nat × Nat)} {A B:Value} (h:ShIn W P sh A B):∃ pA kA pB kB,A=.slice pA sh.length kA∧B=.slice pB sh.length kB:=by
 obtain ⟨pA,kA,e⟩:=h.a.slice
 obtain ⟨pB,kB,e2⟩:=h.b.slice
 exact ⟨pA,kA,pB,kB,by simpa using e,by simpa using e2⟩
theorem zx9 (v u:Val) (W:World) (c d:List Value) (P P':Nat→Prop) (h:zdp W P c v) (h2:zdp W P' d u):Calls Tryz.prog 137 #[.agg c.toArray,.agg d.toArray] W fun e w'=>e=.returned (.bool (zc9 v u))∧Low W.heap.size W w':=by
 obtain ⟨k,b,n,t,x,q⟩:=v
 obtain ⟨k2,b2,n2,t2,x2,q2⟩:=u
 obtain ⟨L,rfl,hf,hq⟩:=h
 obtain ⟨L2,rfl,hf2,hq2⟩:=h2
 obtain ⟨p,cap,rfl⟩:=zb4 (zbe.held q hq)
 obtain ⟨p2,cap2,rfl⟩:=zb4 (zbe.held q2 hq2)
 exact zxw _ W k b n t x q p cap _ k2 b2 n2 t2 x2 q2 p2 cap2 rfl rfl hf.hn (zbe.held q hq) (zbe.held q2 hq2)
theorem fitAt (sh:List (Nat × Nat)) (A B ra rb:Value) (a b:List Val) (W:World) (hs:ShIn W (Old W) sh A B) (ha:zai valE W (Old W) ra a) (hb:zai valE W (Old W) rb b) (hin:∀ p∈sh,p.1 < a.length∧p.2 < b.length) (hn:sh.length≤2097152) (_han:a.length≤2097152) (_hbn:b.length≤2097152):
 Calls Tryz.prog 86 #[.agg #[A,B],ra,rb] W fun e w'=>e=.returned (.bool (fitB sh a b))∧Below W.heap.size W w':=by
 obtain ⟨W1,hW1⟩:∃ W1,W1=W.alloc (.cells #[A,B] 87):=⟨_,rfl⟩
 have b1:Below W.heap.size W W1:=by rw [hW1];exact zav _ _
 have u1:W1.heap[W.heap.size]?=some (.cells #[A,B] 87):=by rw [hW1];exact zaf _ _ rfl
 have hs1:=hs.stays (zae b1)
 have ha1:=ha.stays (zae b1)
 have hb1:=hb.stays (zae b1)
 obtain ⟨pA,kA,pB,kB,rfl,rfl⟩:=hs.slice
 obtain ⟨pa,ka,rfl⟩:=ha.slice
 obtain ⟨pb,kb,rfl⟩:=hb.slice
 obtain ⟨r,hr⟩:∃ r,r=fitB sh a b:=⟨_,rfl⟩
 obtain ⟨n,hl⟩:∃ n,n=sh.length:=⟨_,rfl⟩
 rw [← hr]
 rw [← hl] at hn u1 hW1 ⊢
 have HS:=Lib.hid hs1
 have HA:=Lib.hid ha1
 have HB:=Lib.hid hb1
 have HI:=Lib.hid hin
 have HR:=Lib.hid hr
 have HL:=Lib.hid hl
 have HW:=Lib.hid hW1
 have HU:=Lib.hid u1
 have c0:=zad u1 0 rfl
 clear hs ha hb hs1 ha1 hb1 hin hr hl hW1 u1
 go_enter Tryz.func86,Tryz.ntmps86
 go_upto_region 1 with fail
 rw [← HW.out]
 go_wp2_with fail
 go_loopg [13] n (fun gg s13 wr=>∃ j:Nat,j+gg=n∧s13=.int .i64 j∧Hid (∀ i (h:i < sh.length),i < j→fit1 a b sh[i]=true)∧Hid (Below W1.heap.size W1 wr))
 case atStart=>exact ⟨0,by omega,rfl,Lib.hid (fun i _ h=>absurd h (by omega)),Lib.hid (Below.refl _ _)⟩
 case round=>
  clear c0
  obtain ⟨j,hjg,rfl,HF,HB1⟩:=hrel
  by_cases hj:(j:Int) < n
  ·have hj1:j < sh.length:=by have:=HL.out;omega
   have hsW:=HS.out.stays (zae HB1.out)
   obtain ⟨gA,oA,kA',gB,oB,kB',eA,eB,zA,zB⟩:=hsW.at_ j hj1
   injection eA with eA1 eA2 eA3
   injection eB with eB1 eB2 eB3
   subst eA1 eB1
   obtain ⟨x,hx⟩:∃ x,x=sh[j].1:=⟨_,rfl⟩
   obtain ⟨y,hy⟩:∃ y,y=sh[j].2:=⟨_,rfl⟩
   have hin:=HI.out sh[j] (List.getElem_mem hj1)
   rw [← hx] at zA hin
   rw [← hy] at zB hin
   obtain ⟨ga,oa,ka',ca,ea,_,hra,ra⟩:=(HA.out.stays (zae HB1.out)).at_ x hin.1
   obtain ⟨gb,ob,kb',cb,eb,_,hrb,rb⟩:=(HB.out.stays (zae HB1.out)).at_ y hin.2
   injection ea with ea1 ea2 ea3
   injection eb with eb1 eb2 eb3
   subst ea1 eb1
   replace ra:wr.rangeAt ga (oa+x*6) ca:=ra
   replace rb:wr.rangeAt gb (ob+y*6) cb:=rb
   have hs0:FitS W.heap.size #[.slice (some ⟨gA,oA,none⟩) n kA,.slice (some ⟨gB,oB,none⟩) n kB] gA (oA+j) x gB (oB+j) y ga (oa+x*6) ca gb (ob+y*6) cb wr:=⟨(HB1.out.block _ (zaa HU.out)).trans HU.out,zA,zB,ra,rb⟩
   have hxa:(x:Int) < a.length:=by have:=hin.1;omega
   have hyb:(y:Int) < b.length:=by have:=hin.2;omega
   have hla:ca.length=6:=valE.len hra
   have hlb:cb.length=6:=valE.len hrb
   have hoa:=valE.one hra
   have hob:=valE.one hrb
   have hfx:fit1 a b sh[j]=!((isB a[x] && isB b[y]) && !zc9 a[x] b[y]):=by
    unfold fit1
    rw [← hx,← hy,zh4 hin.1,zh4 hin.2]
   have H1:Hid (∀ W',Below wr.heap.size wr W'→Calls Tryz.prog 126 #[.agg ca.toArray] W' fun e w'=>e=.returned (.bool (isB a[x]))∧Low W'.heap.size W' w'):=Lib.hid fun W' hb=>zd6 _ W' ca _ (valE.stays (zae hb) hra)
   have H2:Hid (∀ W',Below wr.heap.size wr W'→Calls Tryz.prog 126 #[.agg cb.toArray] W' fun e w'=>e=.returned (.bool (isB b[y]))∧Low W'.heap.size W' w'):=Lib.hid fun W' hb=>zd6 _ W' cb _ (valE.stays (zae hb) hrb)
   have H3:Hid (∀ W',Below wr.heap.size wr W'→Calls Tryz.prog 137 #[.agg ca.toArray,.agg cb.toArray] W' fun e w'=>e=.returned (.bool (zc9 a[x] b[y]))∧Low W'.heap.size W' w'):=Lib.hid fun W' hb=>zx9 _ _ W' ca cb _ _ (valE.stays (zae hb) hra) (valE.stays (zae hb) hrb)
   obtain ⟨q1,hq1⟩:∃ q,q=isB a[x]:=⟨_,rfl⟩
   obtain ⟨q2,hq2⟩:∃ q,q=isB b[y]:=⟨_,rfl⟩
   obtain ⟨q3,hq3⟩:∃ q,q=zc9 a[x] b[y]:=⟨_,rfl⟩
   rw [← hq1] at H1 hfx
   rw [← hq2] at H2 hfx
   rw [← hq3] at H3 hfx
   have HFX:=Lib.hid hfx
   clear hfx hq1 hq2 hq3 hsW zA zB ra rb hx hy hin hra hrb eA2 eA3 eB2 eB3 ea2 ea3 eb2 eb3
   go_upto_region 4 with fail
   go_cut [8,9] (fun s8 s9 wx=>∃ b8 b9,s8=.pointer (some ⟨b8,0,none⟩)∧s9=.pointer (some ⟨b9,0,none⟩)∧Hid (wx.heap[b8]?=some (.cells ca.toArray 48 (0,0))∧wx.heap[b9]?=some (.cells cb.toArray 48 (0,0))∧Below wr.heap.size wr wx))
   case first=>
    as_aux_lemma=>
     refine wp_region_held_drew (S:=FitS W.heap.size #[.slice (some ⟨gA,oA,none⟩) n kA,.slice (some ⟨gB,oB,none⟩) n kB] gA (oA+j) x gB (oB+j) y ga (oa+x*6) ca gb (ob+y*6) cb) (by kernel_rfl) hs0.drew (fun hh=>?_)
     clear hh
     have hs1:=hs0.drew
     have bq:Below wr.drew.heap.size wr.drew wr.drew:=Below.refl _ _
     have hzw:wr.drew.heap.size=wr.heap.size:=rfl
     have HBD:Hid (∀ w',Below wr.drew.heap.size wr.drew w'→Below wr.heap.size wr w'):=Lib.hid fun w' h=>((Below.refl _ _).drew).trans h
     generalize wr.drew=wD at*
     clear hzw
     refine tg (i:=0) (.slice (some ⟨ga,oa,none⟩) a.length ka) rfl (hs1) ?_
     refine tg (i:=1) (.pointer (some ⟨W.heap.size,0,none⟩)) rfl (hs1) ?_
     refine tg (i:=3) (.int .i64 (j:Int)) rfl (hs1) ?_
     refine tg (i:=8) (.slice (some ⟨gb,ob,none⟩) b.length kb) rfl (hs1) ?_
     refine tg (i:=9) (.pointer (some ⟨W.heap.size,1,none⟩)) rfl (hs1) ?_
     refine tg (i:=11) (.int .i64 (j:Int)) rfl (hs1) ?_
     refine tk (i:=2) (v:=.slice (some ⟨gA,oA,none⟩) n kA) rfl (Or.inl ⟨by rfl,fun W' h=>by have c0:=zad h.s 0 rfl;go_simp⟩) (hs1) ?_
     refine tk (i:=10) (v:=.slice (some ⟨gB,oB,none⟩) n kB) rfl (Or.inl ⟨by rfl,fun W' h=>by have c0:=zad h.s 1 rfl;go_simp⟩) (hs1) ?_
     refine tg (i:=4) (.pointer (some ⟨gA,oA+j,none⟩)) rfl (hs1) ?_
     refine tg (i:=12) (.pointer (some ⟨gB,oB+j,none⟩)) rfl (hs1) ?_
     refine tk (i:=5) (v:=.int .i64 (x:Int)) rfl (Or.inl ⟨by rfl,fun W' h=>by have c0:=h.a;go_simp⟩) (hs1) ?_
     refine tk (i:=13) (v:=.int .i64 (y:Int)) rfl (Or.inl ⟨by rfl,fun W' h=>by have c0:=h.b;go_simp⟩) (hs1) ?_
     refine tg (i:=6) (.pointer (some ⟨ga,oa+x*6,none⟩)) rfl (hs1) ?_
     refine tg (i:=14) (.pointer (some ⟨gb,ob+y*6,none⟩)) rfl (hs1) ?_
     refine tk (i:=7) (v:=.agg ca.toArray) rfl (yieldsIf_load_mid (by rfl) 48 (.tmp 22) rfl ga (oa+x*6) rfl ca _ (fun W h=>h.ra) Tryz.underlying48 rfl (by rw [zap,hla])) (hs1) ?_
     refine tk (i:=15) (v:=.agg cb.toArray) rfl (yieldsIf_load_mid (by rfl) 48 (.tmp 30) rfl gb (ob+y*6) rfl cb _ (fun W h=>h.rb) Tryz.underlying48 rfl (by rw [zap,hlb])) (hs1) ?_
     refine wpAnyH_ready (rs:=[16,17]) (by kernel_rfl) (by simp) ?_
     refine AllReadyH.cons rfl (fun K hK=>?_) (AllReadyH.cons rfl (fun K hK=>?_) AllReadyH.nil)
     ·try rw [if_pos (by rfl)]
      go_simp
      have y8:(wD.alloc (.cells #[.int .i64 0,.bool false,.int .i64 0,.string ⟨#[]⟩,.string ⟨#[]⟩,.slice none 0 0] 48)).heap[wD.heap.size]?=some (.cells #[.int .i64 0,.bool false,.int .i64 0,.string ⟨#[]⟩,.string ⟨#[]⟩,.slice none 0 0] 48):=zaf _ _ (by simp)
      have g8:wD.heap.size≤wD.heap.size:=by have:=bq.size;first | exact this | omega
      replace bq:=bq.alloc bq.size (.cells #[.int .i64 0,.bool false,.int .i64 0,.string ⟨#[]⟩,.string ⟨#[]⟩,.slice none 0 0] 48)
      refine hK.out _ _ (hs1.below bq) (fun _=>?_)
      clear hK K
      try simp only [putS]
      refine tr 17 rfl (fun K hK=>?_)
      try rw [if_pos (by rfl)]
      go_simp
      have y9:((wD.alloc (.cells #[.int .i64 0,.bool false,.int .i64 0,.string ⟨#[]⟩,.string ⟨#[]⟩,.slice none 0 0] 48)).alloc (.cells #[.int .i64 0,.bool false,.int .i64 0,.string ⟨#[]⟩,.string ⟨#[]⟩,.slice none 0 0] 48)).heap[wD.heap.size+1]?=some (.cells #[.int .i64 0,.bool false,.int .i64 0,.string ⟨#[]⟩,.string ⟨#[]⟩,.slice none 0 0] 48):=zaf _ _ (by simp)
      have g9:wD.heap.size≤wD.heap.size+1:=by have:=bq.size;first | exact this | omega
      replace y8:=zaq (.cells #[.int .i64 0,.bool false,.int .i64 0,.string ⟨#[]⟩,.string ⟨#[]⟩,.slice none 0 0] 48) y8
      replace bq:=bq.alloc bq.size (.cells #[.int .i64 0,.bool false,.int .i64 0,.string ⟨#[]⟩,.string ⟨#[]⟩,.slice none 0 0] 48)
      refine hK.out _ _ (hs1.below bq) (fun _=>?_)
      clear hK K
      try simp only [putS]
      refine tr 18 rfl (fun K hK=>?_)
      try rw [if_pos (by rfl)]
      refine zcl (.tmp 8) (.tmp 23) (wD.heap.size) 48 48 _ ca 6 y8 hla rfl rfl rfl zap rfl hoa ?_
      intro wX o8 x8
      replace y9:=(o8.block _ (zaa y9) (by omega)).trans y9
      replace bq:=zam bq o8 g8 bq.size
      clear y8
      have y8:=x8
      refine hK.out _ _ (hs1.below bq) (fun _=>?_)
      clear hK K
      try simp only [putS]
      refine tr 19 rfl (fun K hK=>?_)
      try rw [if_pos (by rfl)]
      refine zcl (.tmp 9) (.tmp 31) (wD.heap.size+1) 48 48 _ cb 6 y9 hlb rfl rfl rfl zap rfl hob ?_
      intro wY o9 x9
      replace y8:=(o9.block _ (zaa y8) (by omega)).trans y8
      replace bq:=zam bq o9 g9 bq.size
      clear y9
      have y9:=x9
      refine hK.out _ _ (hs1.below bq) (fun _=>?_)
      clear hK K
      try simp only [putS]
      refine wpAnyH_done (by kernel_rfl) ?_ _
      have hX:=HBD.out _ bq
      go_wp2_with fail
      go_meet
      case rel=>exact ⟨_,_,rfl,rfl,Lib.hid ⟨y8,y9,hX⟩⟩
     ·try rw [if_pos (by rfl)]
      go_simp
      have y9:(wD.alloc (.cells #[.int .i64 0,.bool false,.int .i64 0,.string ⟨#[]⟩,.string ⟨#[]⟩,.slice none 0 0] 48)).heap[wD.heap.size]?=some (.cells #[.int .i64 0,.bool false,.int .i64 0,.string ⟨#[]⟩,.string ⟨#[]⟩,.slice none 0 0] 48):=zaf _ _ (by simp)
      have g9:wD.heap.size≤wD.heap.size:=by have:=bq.size;first | exact this | omega
      replace bq:=bq.alloc bq.size (.cells #[.int .i64 0,.bool false,.int .i64 0,.string ⟨#[]⟩,.string ⟨#[]⟩,.slice none 0 0] 48)
      refine hK.out _ _ (hs1.below bq) (fun _=>?_)
      clear hK K
      try simp only [putS]
      refine tr 16 rfl (fun K hK=>?_)
      try rw [if_pos (by rfl)]
      go_simp
      have y8:((wD.alloc (.cells #[.int .i64 0,.bool false,.int .i64 0,.string ⟨#[]⟩,.string ⟨#[]⟩,.slice none 0 0] 48)).alloc (.cells #[.int .i64 0,.bool false,.int .i64 0,.string ⟨#[]⟩,.string ⟨#[]⟩,.slice none 0 0] 48)).heap[wD.heap.size+1]?=some (.cells #[.int .i64 0,.bool false,.int .i64 0,.string ⟨#[]⟩,.string ⟨#[]⟩,.slice none 0 0] 48):=zaf _ _ (by simp)
      have g8:wD.heap.size≤wD.heap.size+1:=by have:=bq.size;first | exact this | omega
      replace y9:=zaq (.cells #[.int .i64 0,.bool false,.int .i64 0,.string ⟨#[]⟩,.string ⟨#[]⟩,.slice none 0 0] 48) y9
      replace bq:=bq.alloc bq.size (.cells #[.int .i64 0,.bool false,.int .i64 0,.string ⟨#[]⟩,.string ⟨#[]⟩,.slice none 0 0] 48)
      refine hK.out _ _ (hs1.below bq) (fun _=>?_)
      clear hK K
      try simp only [putS]
      refine tr 18 rfl (fun K hK=>?_)
      try rw [if_pos (by rfl)]
      refine zcl (.tmp 8) (.tmp 23) (wD.heap.size+1) 48 48 _ ca 6 y8 hla rfl rfl rfl zap rfl hoa ?_
      intro wX o8 x8
      replace y9:=(o8.block _ (zaa y9) (by omega)).trans y9
      replace bq:=zam bq o8 g8 bq.size
      clear y8
      have y8:=x8
      refine hK.out _ _ (hs1.below bq) (fun _=>?_)
      clear hK K
      try simp only [putS]
      refine tr 19 rfl (fun K hK=>?_)
      try rw [if_pos (by rfl)]
      refine zcl (.tmp 9) (.tmp 31) (wD.heap.size) 48 48 _ cb 6 y9 hlb rfl rfl rfl zap rfl hob ?_
      intro wY o9 x9
      replace y8:=(o9.block _ (zaa y8) (by omega)).trans y8
      replace bq:=zam bq o9 g9 bq.size
      clear y9
      have y9:=x9
      refine hK.out _ _ (hs1.below bq) (fun _=>?_)
      clear hK K
      try simp only [putS]
      refine wpAnyH_done (by kernel_rfl) ?_ _
      have hX:=HBD.out _ bq
      go_wp2_with fail
      go_meet
      case rel=>exact ⟨_,_,rfl,rfl,Lib.hid ⟨y8,y9,hX⟩⟩
   case rest=>
    rename World=>wy
    obtain ⟨b8,b9,rfl,rfl,HX⟩:=hcut
    have bq:=HX.out.2.2
    have y8:=HX.out.1
    have y9:=HX.out.2.1
    clear hs0 HX
    cases q1 with
    | false=>
      have HF2:Hid (∀ i (h:i < sh.length),i < j+1→fit1 a b sh[i]=true):=Lib.hid fun i h1 h2=>by
       by_cases e:i=j
       ·subst e;rw [HFX.out];rfl
       ·exact HF.out i h1 (by omega)
      go_wp2_with (first
       |((with_reducible refine zah (.tmp 8) b8 48 48 ca 6 _ y8 hla Tryz.underlying48 rfl zap ?_ ?_ ?_ ?_);rfl;rfl;rfl)
       |(go_at_call 126;(with_reducible refine (H1.out _ bq).mono ?_);rintro e w3 ⟨rfl,h3⟩))
      have HB2:=Lib.hid (zab HB1.out (zab bq h3.is bq.size) HB1.out.size)
      clear bq h3
      go_roundg (gk - 1)
      case measure=>omega
      case rel=>exact ⟨j+1,by omega,by go_num,HF2,HB2⟩
    | true=>
      cases q2 with
      | false=>
        have HF2:Hid (∀ i (h:i < sh.length),i < j+1→fit1 a b sh[i]=true):=Lib.hid fun i h1 h2=>by
         by_cases e:i=j
         ·subst e;rw [HFX.out];rfl
         ·exact HF.out i h1 (by omega)
        go_wp2_with (first
         |((with_reducible refine zah (.tmp 8) b8 48 48 ca 6 _ y8 hla Tryz.underlying48 rfl zap ?_ ?_ ?_ ?_);rfl;rfl;rfl)
         |(go_at_call 126;(with_reducible refine (H1.out _ bq).mono ?_);rintro e w3 ⟨rfl,h3⟩;have bq3:=zab bq h3.is bq.size;have z9:=(h3.block _ (zaa y9)).trans y9)
         |((with_reducible refine zay ?_ (.tmp 9) b9 48 48 cb 6 _ z9 hlb Tryz.underlying48 rfl zap ?_ ?_ ?_);rfl;rfl;rfl)
         |(go_at_call 126;(with_reducible refine (H2.out _ bq3).mono ?_);rintro e w4 ⟨rfl,h4⟩))
        have HB2:=Lib.hid (zab HB1.out (zab bq3 h4.is bq3.size) HB1.out.size)
        clear bq h3 bq3 h4
        go_roundg (gk - 1)
        case measure=>omega
        case rel=>exact ⟨j+1,by omega,by go_num,HF2,HB2⟩
      | true=>
        cases q3 with
        | true=>
          have HF2:Hid (∀ i (h:i < sh.length),i < j+1→fit1 a b sh[i]=true):=Lib.hid fun i h1 h2=>by
           by_cases e:i=j
           ·subst e;rw [HFX.out];rfl
           ·exact HF.out i h1 (by omega)
          go_wp2_with (first
           |((with_reducible refine zah (.tmp 8) b8 48 48 ca 6 _ y8 hla Tryz.underlying48 rfl zap ?_ ?_ ?_ ?_);rfl;rfl;rfl)
           |(go_at_call 126;(with_reducible refine (H1.out _ bq).mono ?_);rintro e w3 ⟨rfl,h3⟩;have bq3:=zab bq h3.is bq.size;have z9:=(h3.block _ (zaa y9)).trans y9;have z8:=(h3.block _ (zaa y8)).trans y8)
           |((with_reducible refine zay ?_ (.tmp 9) b9 48 48 cb 6 _ z9 hlb Tryz.underlying48 rfl zap ?_ ?_ ?_);rfl;rfl;rfl)
           |(go_at_call 126;(with_reducible refine (H2.out _ bq3).mono ?_);rintro e w4 ⟨rfl,h4⟩;have bq4:=zab bq3 h4.is bq3.size;have x9:=(h4.block _ (zaa z9)).trans z9;have x8:=(h4.block _ (zaa z8)).trans z8)
           |((with_reducible refine zay ?_ (.tmp 8) b8 48 48 ca 6 _ x8 hla Tryz.underlying48 rfl zap ?_ ?_ ?_);rfl;rfl;rfl)
           |((with_reducible refine zay ?_ (.tmp 9) b9 48 48 cb 6 _ x9 hlb Tryz.underlying48 rfl zap ?_ ?_ ?_);rfl;rfl;rfl)
           |(go_at_call 137;(with_reducible refine (H3.out _ bq4).mono ?_);rintro e w5 ⟨rfl,h5⟩))
          have HB2:=Lib.hid (zab HB1.out (zab bq4 h5.is bq4.size) HB1.out.size)
          clear bq h3 bq3 h4 bq4 h5
          go_roundg (gk - 1)
          case measure=>omega
          case rel=>exact ⟨j+1,by omega,by go_num,HF2,HB2⟩
        | false=>
          have HR2:Hid (r=false):=Lib.hid (by rw [HR.out];exact List.all_eq_false.2 ⟨sh[j],List.getElem_mem hj1,by rw [HFX.out];decide⟩)
          go_wp2_with (first
           |((with_reducible refine zah (.tmp 8) b8 48 48 ca 6 _ y8 hla Tryz.underlying48 rfl zap ?_ ?_ ?_ ?_);rfl;rfl;rfl)
           |(go_at_call 126;(with_reducible refine (H1.out _ bq).mono ?_);rintro e w3 ⟨rfl,h3⟩;have bq3:=zab bq h3.is bq.size;have z9:=(h3.block _ (zaa y9)).trans y9;have z8:=(h3.block _ (zaa y8)).trans y8)
           |((with_reducible refine zay ?_ (.tmp 9) b9 48 48 cb 6 _ z9 hlb Tryz.underlying48 rfl zap ?_ ?_ ?_);rfl;rfl;rfl)
           |(go_at_call 126;(with_reducible refine (H2.out _ bq3).mono ?_);rintro e w4 ⟨rfl,h4⟩;have bq4:=zab bq3 h4.is bq3.size;have x9:=(h4.block _ (zaa z9)).trans z9;have x8:=(h4.block _ (zaa z8)).trans z8)
           |((with_reducible refine zay ?_ (.tmp 8) b8 48 48 ca 6 _ x8 hla Tryz.underlying48 rfl zap ?_ ?_ ?_);rfl;rfl;rfl)
           |((with_reducible refine zay ?_ (.tmp 9) b9 48 48 cb 6 _ x9 hlb Tryz.underlying48 rfl zap ?_ ?_ ?_);rfl;rfl;rfl)
           |(go_at_call 137;(with_reducible refine (H3.out _ bq4).mono ?_);rintro e w5 ⟨rfl,h5⟩))
          have hB2:=zab HB1.out (zab bq4 h5.is bq4.size) HB1.out.size
          go_ret
          exact ⟨by rw [HR2.out];rfl,zab b1 hB2 b1.size⟩
  ·have HR2:Hid (r=true):=Lib.hid (by
    rw [HR.out]
    refine List.all_eq_true.2 fun p hp=>?_
    obtain ⟨i,hi,rfl⟩:=List.getElem_of_mem hp
    exact HF.out i hi (by have:=HL.out;omega))
   go_wp2_with fail
   go_ret
   exact ⟨by rw [HR2.out];rfl,zab b1 HB1.out b1.size⟩
structure AccB {β:Type} (E:Elem β) (D:TypeId) (P:Nat→Prop) (w:World) (bs:List β) (A:Value) (wr:World):Prop where
 own:∃ xs,wr.ownsRow w.heap.size D E.k A bs.length xs∧RowE E wr P xs bs
 bel:Below w.heap.size w wr
theorem AccB.startOwn {β:Type} (E:Elem β) (D:TypeId) (P:Nat→Prop) {w w':World} {v:Value} (h:w'.ownsRow w.heap.size D E.k v 0 []) (b:Below w.heap.size w w'):AccB E D P w [] v w':=
 ⟨⟨[],h,RowE.nil⟩,b⟩
theorem AccB.next {β:Type} {E:Elem β} {D:TypeId} {P:Nat→Prop} {w wr wX w3 w5:World} {A A2:Value} {xs c:List Value} {bs:List β} {b:β} {o:Obj} (hP:∀ x,P x→x < w.heap.size) (hown:wr.ownsRow w.heap.size D E.k A bs.length xs) (hrow:RowE E wr P xs bs) (hbel:Below w.heap.size w wr)
 (bX:Below wr.heap.size wr wX) (b3:Below wX.heap.size wX w3) (hc:E.rel w3 P c b) (hown':w5.ownsRow w.heap.size D E.k A2 (bs.length+1) (xs++c)) (hg:(w3.alloc o).grownBy w5 A.ownBlock)
 (_:A2.ownBlock=A.ownBlock∨A2.ownBlock=some (w3.alloc o).heap.size):AccB E D P w (bs++[b]) A2 w5:=by
 have s0:=hbel.size
 have sX:=bX.size
 have s3:=b3.size
 have s4:(w3.alloc o).heap.size=w3.heap.size+1:=by simp
 have off:∀ g,g < w.heap.size→w5.heap[g]?=w3.heap[g]?:=fun g hlt=>
  (hg.block g (by omega) (fun e=>by have:=(hown.lt g e.symm).1;omega)).trans (Below.heap_alloc _ _ _ (by omega))
 refine ⟨⟨xs++c,by simpa using hown',RowE.append bs [b] (hrow.stays (fun g hgg=>⟨hgg,?_⟩)) (RowE.single (E.stays (fun g hgg=>⟨hgg,off g (hP g hgg)⟩) hc))⟩,?_⟩
 ·have h2:g < w.heap.size:=hP g hgg
  exact (off g h2).trans ((b3.block g (by omega)).trans (bX.block g (by omega)))
 ·have b4:Below w.heap.size w (w3.alloc o):=((hbel.trans (bX.mono s0)).trans (b3.mono (by omega))).alloc (by omega) _
  exact b4.grown hg (by omega) (fun g e=>(hown.lt g e).1)
def zdr {β:Type} (E:Elem β) (D:TypeId) (P:Nat→Prop) (w:World) (bs:List β) (e:Ending) (w':World):Prop:=
 ∃ V xs,e=.returned V∧w'.ownsRow w.heap.size D E.k V bs.length xs∧RowE E w' P xs bs∧Below w.heap.size w w'
def zya {β:Type} (E:Elem β) (b:β) (P:Nat→Prop) (W:World) (e:Ending) (w':World):Prop:=
 ∃ u c,e=.returned u∧u.cells=c.toArray∧E.rel w' P c b∧Below W.heap.size W w'
theorem map114b (B:Value) (tell:Int→Val) (l:List Int) (v:Value) (w:World) (P:Nat→Prop) (hP:∀ x,P x→x < w.heap.size) (h:zai intE w (Old w) v l) (hn:l.length≤2097152)
 (each:∀ x∈l,∀ W c,Below w.heap.size w W→intE.rel W (Old W) c x→Calls Tryz.prog 174 #[.int .i64 x,B] W (zya valE (tell x) P W)):
 Calls Tryz.prog 114 #[v,.func (.func 174) #[] #[B]] w (zdr valE 48 P w (l.map tell)):=by
 obtain ⟨n,hln⟩:∃ n,n=l.length:=⟨_,rfl⟩
 obtain ⟨p,cap,rfl⟩:=h.slice
 rw [← hln] at hn
 obtain ⟨i0,hi,hz0,hz1,hz2⟩:=info_parts zh0
 have hgrow:=zku n (by omega) w
 have HL:=Lib.hid hln
 have HH:=Lib.hid h
 have HE:=Lib.hid each
 have HG:=Lib.hid hgrow
 rw [← hln]
 clear h hln each hgrow
 go_enter Tryz.func114,Tryz.ntmps114
 go_wp2_with (first
  |(go_at_call 171;(with_reducible refine HG.out.mono ?_);rintro e w1 ⟨v1,rfl,ho1,hb1⟩))
 have ACC0:=Lib.hid (AccB.startOwn valE 48 P ho1 hb1)
 clear ho1 hb1
 go_loopg [5,13] n (fun gg s5 s13 wr=>∃ j:Nat,j+gg=n∧s13=.int .i64 j∧Hid (AccB valE 48 P w ((l.take j).map tell) s5 wr))
 case atStart=>exact ⟨0,by omega,rfl,ACC0⟩
 case round=>
  clear ACC0
  obtain ⟨j,hjg,rfl,HA⟩:=hrel
  by_cases hlt:(j:Int) < n
  ·have hj1:j < l.length:=by have:=HL.out;omega
   have hbel:=HA.out.bel
   obtain ⟨g,off,cap',c,e0,hg,hrl,hra⟩:=(HH.out.stays (zae hbel)).at_ j hj1
   injection e0 with e1 e2 e3
   subst e1
   replace hra:wr.rangeAt g (off+j*1) c:=hra
   have hlen:c.length=1:=intE.len hrl
   have hjl:((l.take j).map tell).length=j:=by rw [List.length_map,List.length_take];omega
   have etk:(l.take (j+1)).map tell=(l.take j).map tell++[tell l[j]]:=by rw [List.take_succ_eq_append_getElem hj1,List.map_append];rfl
   have hbs:=hbel.size
   obtain ⟨rfl,hwf⟩:=hrl
   have c0:wr.cell? ⟨g,off+j,none⟩=some (.int .i64 l[j]):=by
    have:=hra 0 _ rfl
    simpa using this
   have bX:Below wr.heap.size wr wr:=Below.refl _ _
   have hcall:=HE.out l[j] (List.getElem_mem hj1) wr _ hbel ⟨rfl,hwf⟩
   have HX:=Lib.hid (And.intro bX hbel)
   have HK:=Lib.hid (And.intro hjl etk)
   clear hra hjl etk e2 e3 hbel bX
   go_wp2_with (first
    |(go_at_call 174;(with_reducible refine hcall.mono ?_);rintro e w3 ⟨u2,c',rfl,hu,hc',b3⟩
      obtain ⟨⟨xs,hown,hrow⟩,hbel⟩:=HA.out
      replace hown:wr.ownsRow w.heap.size 48 6 _ _ xs:=hown
      have hown3:=za6 (za6 hown HX.out.1) b3
      have hlen':c'.length=6:=valE.len hc'
      have hone':=valE.one hc'
      have hsX:=HX.out.1.size
      have hs3:=b3.size
      have HY:=Lib.hid (And.intro hown (And.intro hrow (And.intro hbel (And.intro b3 hc'))))
      clear hown hrow hbel b3 hc' HA hcall)
    |((with_reducible refine zbu ?_ 43 48 (.tmp 20) ?_ u2 c' ?_ hu i0 _ 6 hlen' (by omega) (by omega) Tryz.underlying43 hi hz0 hz1 ?_);rfl;rfl;rfl)
    |(at_builtin;refine wpList_append_own_at _ rfl _ _ 43 rfl w.heap.size 48 i0 (.agg #[.int .i64 0,.bool false,.int .i64 0,.string ⟨#[]⟩,.string ⟨#[]⟩,.slice none 0 0]) 6 80 Tryz.underlying43 hi hz0 hz1 hz2 rfl (by decide) _ _ _ rfl (hown3.alloc _) ⟨w3.heap.size,0,none⟩ 1 1 c' rfl (by rw [hlen']) (zb3 _ _ _) hone' ?_ ?_ ?_ ?_))
   all_goals (try (first |(rw [HK.out.1];unfold maxLen;omega) |(rw [HK.out.1];omega) |(simp;omega)))
   intro v' w5 hown' hgrow _ hloc
   have e9:min j l.length=j:=by omega
   rw [e9] at hown'
   have e10:=hown'
   rw [← HK.out.1] at e10
   have acc:AccB valE 48 P w ((l.take (j+1)).map tell) v' w5:=by
    rw [HK.out.2]
    exact AccB.next hP HY.out.1 HY.out.2.1 HY.out.2.2.1 HX.out.1 HY.out.2.2.2.1 HY.out.2.2.2.2 e10 hgrow (by simpa using hloc)
   have ACC:=Lib.hid acc
   clear acc hown' hgrow hloc hown3 HY HX
   go_wp2_with fail
   go_roundg (gk - 1)
   case measure=>omega
   case rel=>exact ⟨j+1,by omega,by go_num,ACC⟩
  ·have e:l.take j=l:=by rw [List.take_of_length_le];have:=HL.out;omega
   have hA:=HA.out
   rw [e] at hA
   obtain ⟨⟨xs,hown,hrow⟩,hbel⟩:=hA
   have HX:=Lib.hid (And.intro hown (And.intro hrow hbel))
   clear hown hrow hbel HA
   go_wp2_with fail
   go_ret
   exact ⟨_,xs,rfl,HX.out.1,HX.out.2.1,HX.out.2.2⟩
def zd7 (r:List Val) (c:Int):Val:=if c=-1 then zit else atV r c.toNat
def zmr (n:Nat) (c:Int):Prop:=c=-1∨∃ i:Nat,c=i∧i < n
theorem cell1At (r:List Val) (u:Value) (i g:Nat) (P:Nat→Prop) (W:World) (hP:∀ x,P x→x < W.heap.size) (hg:W.heap[g]?=some (.cells #[u] 43)) (h:zai valE W P u r) (hi:i < r.length):
 Calls Tryz.prog 174 #[.int .i64 (i:Nat),.pointer (some ⟨g,0,none⟩)] W fun e w'=>∃ c,e=.returned (.agg c.toArray)∧zdp w' P c r[i]∧Below W.heap.size W w':=by
 obtain ⟨ga,oa,ka,ca,rfl,_,hra,ra⟩:=h.at_ i hi
 replace ra:W.rangeAt ga (oa+i*6) ca:=ra
 have hla:ca.length=6:=valE.len hra
 have hoa:=valE.one hra
 have hlt:(i:Int) < r.length:=by omega
 obtain ⟨W0,hW0⟩:∃ W0,W0=W.alloc (.cells #[.int .i64 0,.bool false,.int .i64 0,.string ⟨#[]⟩,.string ⟨#[]⟩,.slice none 0 0] 48):=⟨_,rfl⟩
 have b0:Below W.heap.size W W0:=by rw [hW0];exact zav _ _
 have u0:W0.heap[W.heap.size]?=some (.cells #[.int .i64 0,.bool false,.int .i64 0,.string ⟨#[]⟩,.string ⟨#[]⟩,.slice none 0 0] 48):=by rw [hW0];exact zaf _ _ rfl
 have c0:=zad ((b0.block _ (zaa hg)).trans hg) 0 rfl
 have ra0:=zcj ra b0
 have HR:=Lib.hid hra
 have HW:=Lib.hid hW0
 clear h hra hW0 ra hg
 go_enter Tryz.func174,Tryz.ntmps174
 go_upto_region 1 with fail
 rw [← HW.out]
 go_wp2_with (first
  |((with_reducible refine za3 (.tmp 6) ga (oa+i*6) 48 ca 6 _ ra0 hla Tryz.underlying48 rfl zap ?_ ?_ ?_ ?_);rfl;rfl;rfl)
  |((with_reducible refine zar (.tmp 3) (.tmp 7) W.heap.size 48 48 _ ca 6 u0 hla ?_ ?_ ?_ ?_ zap rfl hoa ?_);rfl;rfl;rfl;rfl;intro wX oX uX))
 have bX:=zam b0 oX (Nat.le_refl _) b0.size
 exact bodyPost_ret (results_cell_row (p:=3) (ty:=48) Tryz.results174 _ _ W.heap.size 48 ca.toArray (0,0) _ rfl uX Tryz.underlying48 rfl (by rw [zap];simp [hla])) rfl ⟨ca,rfl,valE.stays (fun x hx=>⟨hx,bX.block x (hP x hx)⟩) HR.out,bX⟩
theorem zs3 (r:List Val) (is:List Nat) (u C:Value) (W:World) (h:zai valE W (Old W) u r) (hc:zai intE W (Old W) C (is.map fun i:Nat=>(i:Int))) (hi:∀ i∈is,i < r.length) (hn:is.length≤2097152):
 Calls Tryz.prog 125 #[u,C] W (zdr valE 48 (Old W) W (is.map (atV r))):=by
 obtain ⟨p,k,rfl⟩:=h.slice
 obtain ⟨pc,kc,eC⟩:=hc.slice
 rw [List.length_map] at eC
 subst eC
 obtain ⟨W1,hW1⟩:∃ W1,W1=W.alloc (.cells #[.slice p r.length k] 43):=⟨_,rfl⟩
 have b1:Below W.heap.size W W1:=by rw [hW1];exact zav _ _
 have u1:W1.heap[W.heap.size]?=some (.cells #[.slice p r.length k] 43):=by rw [hW1];exact zaf _ _ rfl
 have hm:=map114b (.pointer (some ⟨W.heap.size,0,none⟩)) (fun z=>atV r z.toNat) (is.map fun i:Nat=>(i:Int)) (.slice pc is.length kc) W1 (Old W) (fun x hx=>Nat.lt_of_lt_of_le hx b1.size) (hc.stays (zae b1)) (by simpa using hn) (fun x hx W' c hb hr=>by
  obtain ⟨i,him,rfl⟩:=List.mem_map.1 hx
  have hb2:=zab b1 hb b1.size
  refine (cell1At r _ i W.heap.size (Old W) W' (fun g hg=>Nat.lt_of_lt_of_le hg hb2.size) ((hb.block _ (zaa u1)).trans u1) (h.stays (fun g hg=>⟨hg,hb2.block g hg⟩)) (hi i him)).mono ?_
  rintro e w' ⟨c,rfl,hr,hb3⟩
  exact ⟨_,c,rfl,rfl,by rw [Int.toNat_natCast,zh4 (hi i him)];exact hr,hb3⟩)
 have e1:(is.map fun i:Nat=>(i:Int)).map (fun z=>atV r z.toNat)=is.map (atV r):=by rw [List.map_map];rfl
 rw [e1] at hm
 have hm2:Calls Tryz.prog 114 #[.slice pc is.length kc,.func (.func 174) #[] #[.pointer (some ⟨W.heap.size,0,none⟩)]] W1 (zdr valE 48 (Old W) W (is.map (atV r))):=hm.mono (by
  rintro e w' ⟨V,xs,rfl,h1,h2,h3⟩
  exact ⟨V,xs,rfl,zmw h1 b1.size,h2,b1.trans (h3.mono b1.size)⟩)
 have HM:=Lib.hid hm2
 have HW:=Lib.hid hW1
 clear hm hm2 hW1 h hc u1 b1
 go_enter Tryz.func125,Tryz.ntmps125
 go_upto_region 1 with fail
 rw [← HW.out]
 go_wp2_with (first
  |(go_at_call 114;(with_reducible refine HM.out.mono ?_);rintro e w1 ⟨V2,xs,rfl,hown,hrow,hb⟩;have hown2:=hown;rw [List.length_map] at hown2;obtain ⟨p2,k2,rfl⟩:=zat hown2))
 go_ret
 exact ⟨_,xs,rfl,hown,hrow,hb⟩
end Go.Proofs.YteclpnfckjfibaaGreatDoor
