/- Texts of one kind, one behind the other: each says ahead of itself what it shows. -/
import Derived.Carry
import Derived.Test.YteclpnfckjfibaaGreatDoorBar
import Derived.Lib.SlKeysI
import Derived.Test.YteclpnfckjfibaaGreatDoorBaf
import Derived.Test.YteclpnfckjfibaaGreatDoorBam
import Derived.Test.YteclpnfckjfibaaGreatDoorBae
/- NI -/
namespace Go.Proofs.YteclpnfckjfibaaGreatDoor
open Go.RowKit
structure IxS (W2:World) (b5 mb:Nat) (A B R:Value) (E:List (List UInt8 × Int)) (L:Value) (lo:List Int) (wr:World):Prop where
 cell:wr.heap[b5]?=some (.cells #[A,B,R,.map (some mb),L] 90)
 grp:zdu wr W2.heap.size mb E (fun g=>L.ownBlock=some g)
 loose:wr.ownsRow W2.heap.size 3 1 L lo.length (lo.map (Value.int .i64))
 kept:Kept (fun i=>i=b5∨i=mb) W2 wr
def zvz (W:World) (sh:List (Nat × Nat)) (rows:List (List Val)) (A B R:Value) (e:Ending) (w':World):Prop:=
 ∃ mb L,e=.returned (.agg #[A,B,R,.map (some mb),L])∧IxIn sh rows A B R mb L (Old w') w'∧L.oneCell'=true∧Below W.heap.size W w'
theorem zcw {w:World} {base:Nat} {V:Value} {zs:List Int} (P:Nat→Prop) (h:w.ownsRow base 3 1 V zs.length (zs.map (Value.int .i64))) (hz:∀ z∈zs,(Lit.int .i64 z).wf=true) (hP:∀ g,V.ownBlock=some g→P g):zaf intE w P V zs:=
 zb6 (E:=intE) (P:=fun _=>False) h (rowI zs hz) (fun g h=>h.elim) hP
where rowI:(zs:List Int)→(∀ z∈zs,(Lit.int .i64 z).wf=true)→RowE intE w (fun _=>False) (zs.map (Value.int .i64)) zs
 | [],_=>RowE.nil
 | z::l,h=>by
   show RowE intE w _ (Value.int .i64 z::l.map _) (z::l)
   unfold RowE
   exact ⟨[.int .i64 z],_,rfl,⟨rfl,h z (by simp)⟩,rowI l fun y hy=>h y (by simp [hy])⟩
theorem zqx (sh:List (Nat × Nat)) (rows:List (List Val)):(∀ e∈evI sh rows,∃ i:Nat,e.2=i∧i < rows.length)∧∀ z∈zbi sh rows,∃ i:Nat,z=i∧i < rows.length:=by
 constructor
 ·intro e he
  obtain ⟨p,hp,h⟩:=List.mem_filterMap.1 he
  have hi:=(List.mem_zipIdx' hp).1
  split at h
  ·cases h;exact ⟨p.2,rfl,hi⟩
  ·cases h
 ·intro z hz
  obtain ⟨p,hp,h⟩:=List.mem_filterMap.1 hz
  have hi:=(List.mem_zipIdx' hp).1
  split at h
  ·cases h
  ·cases h;exact ⟨p.2,rfl,hi⟩
theorem grp_nat (sh:List (Nat × Nat)) (rows:List (List Val)) (x:List UInt8):∀ z∈grp (evI sh rows) x,∃ i:Nat,z=i∧i < rows.length:=by
 intro z hz
 obtain ⟨e,he,rfl⟩:=List.mem_map.1 hz
 exact (zqx sh rows).1 e (List.mem_filter.1 he).1
theorem zrx {i n:Nat} (h:i < n) (hn:n≤2097152):(Lit.int .i64 (i:Int)).wf=true:=zu1 (by omega) (by omega)
theorem zdu.sliceAt {w:World} {base mb:Nat} {sh:List (Nat × Nat)} {rows:List (List Val)} {Av:Nat→Prop} (h:zdu w base mb (evI sh rows) Av) (hn:rows.length≤2097152):∃ n f,n≤rows.length∧HMap w Tryz.prog 9 mb n f∧∀ x,zaf intE w (Old w) ((f (.string x)).getD (.slice none 0 0)) (grp (evI sh rows) x)∧capK ((f (.string x)).getD (.slice none 0 0)):=by
 obtain ⟨n,f,h1,h2,h3,h4,h5⟩:=h
 refine ⟨n,f,Nat.le_trans h1 (zlf sh rows).1,h2,fun x=>?_⟩
 have hr:=zml h3 x
 exact ⟨zcw _ hr (fun z hz=>by obtain ⟨i,rfl,hi⟩:=grp_nat sh rows x z hz;exact zrx hi hn) (fun g e=>(hr.lt g e).2),zcp hr⟩
theorem zhn {sh:List (Nat × Nat)} {r:List Val} {v:Val} (hin:∀ p∈sh,p.2 < r.length) (h:v∈zbh sh r):v∈r:=by
 unfold zbh at h
 rw [List.map_map] at h
 obtain ⟨p,hp,rfl⟩:=List.mem_map.1 h
 show atV r p.2∈r
 rw [zc7 (hin p hp)]
 exact List.getElem_mem _
set_option maxHeartbeats 12800000 in
set_option maxRecDepth 20000 in
theorem zfn (sh:List (Nat × Nat)) (rows:List (List Val)) (A B R:Value) (W:World) (hG:Gd W) (hs:ShIn W (Old W) sh A B) (hr:zaf rowE W (Old W) R rows) (hin:∀ r∈rows,∀ p∈sh,p.2 < r.length) (hmay:∀ r∈rows,∀ v∈r,mayP v 0=true) (hwt:∀ r∈rows,13*wAll (zbh sh r)≤700000000) (hsn:sh.length≤2097152) (hn:rows.length≤2097152):
 Calls Tryz.prog 75 #[.agg #[A,B],R] W (zvz W sh rows A B R):=by
 obtain ⟨i0,hi,hz0,hz1,hz2⟩:=info_parts zd3
 obtain ⟨pA,kA,pB,kB,rfl,rfl⟩:=hs.slice
 obtain ⟨pR,kR,rfl⟩:=hr.slice
 obtain ⟨W1,hW1⟩:∃ W1,W1=(W.alloc (.cells #[.slice pA sh.length kA,.slice pB sh.length kB] 87)).alloc (.cells #[.slice none 0 0,.slice none 0 0,.slice none 0 0,.map none,.slice none 0 0] 90):=⟨_,rfl⟩
 have b1:Below W.heap.size W W1:=by rw [hW1];exact zc6 _ _ _
 have s1:W1.heap.size=W.heap.size+2:=by rw [hW1];simp
 have v2:W1.heap[W.heap.size]?=some (.cells #[.slice pA sh.length kA,.slice pB sh.length kB] 87):=by rw [hW1];exact zaq _ (zah _ _ rfl)
 have v4:W1.heap[W.heap.size+1]?=some (.cells #[.slice none 0 0,.slice none 0 0,.slice none 0 0,.map none,.slice none 0 0] 90):=by rw [hW1];exact zah _ _ (by simp)
 obtain ⟨n,hln⟩:∃ n,n=rows.length:=⟨_,rfl⟩
 have HW:=Lib.hid hW1
 have HL:=Lib.hid hln
 have HS:=Lib.hid hs
 have HR:=Lib.hid hr
 have HI:=Lib.hid hin
 have HM:=Lib.hid hmay
 have HT:=Lib.hid hwt
 have HG:=Lib.hid hG
 have HV2:=Lib.hid v2
 have HV4:=Lib.hid v4
 rw [← hln] at hn ⊢
 clear hW1 hln hs hr hin hmay hwt hG v4
 have hmm:=@run_makeMap Tryz.prog
 go_enter Tryz.func75,Tryz.ntmps75
 go_upto_region 1 with fail
 rw [← HW.out]
 go_upto_region 2 with (first
  |((with_reducible refine zag (.tmp 2) W.heap.size 87 87 [.slice pA sh.length kA,.slice pB sh.length kB] 2 _ v2 rfl Tryz.underlying87 rfl zh3 ?_ ?_ ?_ ?_);rfl;rfl;rfl))
 obtain ⟨wX,hwX⟩:∃ wX,wX=(W1.alloc (.map #[] 0)).alloc (.cells #[.slice pA sh.length kA,.slice pB sh.length kB,.slice pR n kR,.map (some (W.heap.size+2)),.slice none 0 0] 90):=⟨_,rfl⟩
 rw [← hwX]
 have bX:Below W1.heap.size W1 wX:=by rw [hwX];exact zc6 _ _ _
 have sX:W1.heap.size+2≤wX.heap.size:=by rw [hwX];simp
 have hmX:wX.heap[W.heap.size+2]?=some (.map #[] 0):=by rw [hwX];exact zaq _ (zah _ _ s1)
 have uX:wX.heap[W.heap.size+2+1]?=some (.cells #[.slice pA sh.length kA,.slice pB sh.length kB,.slice pR n kR,.map (some (W.heap.size+2)),.slice none 0 0] 90):=by rw [hwX];exact zah _ _ (by simp [s1])
 have st:Hid (IxS wX (W.heap.size+2+1) (W.heap.size+2) (.slice pA sh.length kA) (.slice pB sh.length kB) (.slice pR n kR) [] (.slice none 0 0) [] wX):=Lib.hid ⟨uX,zdu.start hmX,World.ownsRow_nil _ _ _ _,Kept.refl _ _⟩
 clear hwX
 have HB1:=Lib.hid (zab b1 bX b1.size)
 have HBX:=Lib.hid bX
 clear uX bX hmX v2 b1 hmm
 go_wp2_with fail
 go_loopg [16] n (fun gg s16 wr=>∃ (j:Nat) (L:Value),j+gg=n∧s16=.int .i64 j∧Hid (IxS wX (W.heap.size+2+1) (W.heap.size+2) (.slice pA sh.length kA) (.slice pB sh.length kB) (.slice pR n kR) (evI sh (rows.take j)) L (zbi sh (rows.take j)) wr))
 case atStart=>exact ⟨0,_,by omega,rfl,by simpa [evI,zbi] using st⟩
 case round=>
  clear st
  obtain ⟨j,L,hjg,rfl,HX⟩:=hrel
  have hbel:Below W.heap.size W wr:=HB1.out.trans (HX.out.kept.low (B:=W.heap.size) (by omega) (fun i h=>by omega))
  have hblk:∀ i,i < W1.heap.size→wr.heap[i]?=W1.heap[i]?:=fun i h=>(HX.out.kept.block i (by omega) (by omega)).trans (HBX.out.block i h)
  by_cases hj:(j:Int) < n
  ·have hj1:j < rows.length:=by have:=HL.out;omega
   obtain ⟨gR,oR,kR',cR,eR,_,hrl,hra⟩:=(HR.out.stays (zad hbel)).at_ j hj1
   injection eR with eR1 eR2 eR3
   subst eR1
   obtain ⟨u,rfl⟩:∃ u,cR=[u]:=by obtain ⟨v,rfl,_⟩:=id hrl;exact ⟨v,rfl⟩
   have c0:wr.cell? ⟨gR,oR+j,none⟩=some u:=by
    have:=hra 0 _ rfl
    simpa [rowE] using this
   obtain ⟨v,ev,hrs,_,hrn⟩:=hrl
   cases ev
   have hrm:=List.getElem_mem hj1
   obtain ⟨r,hrj⟩:∃ r,r=rows[j]:=⟨_,rfl⟩
   rw [← hrj] at hrs hrm hrn
   obtain ⟨pu,ku,rfl⟩:=hrs.slice
   have d2:=zac ((hblk _ (by omega)).trans HV2.out) 1 rfl
   have hsb:zaf intE wr (Old wr) (.slice pB sh.length kB) ((sh.map (·.2)).map fun i:Nat=>(i:Int)):=by
    have:=(HS.out.stays (zad hbel)).b
    rwa [List.map_map]
   have HC:=Lib.hid (zqq r (sh.map (·.2)) (.slice pu r.length ku) (.slice pB sh.length kB) wr hrs hsb (fun i hi=>by
    obtain ⟨p,hp,rfl⟩:=List.mem_map.1 hi
    exact HI.out r hrm p hp) (by simpa using hsn))
   have hgw:=HG.out.below hbel
   have HGW:=Lib.hid hgw
   have HRJ:=Lib.hid (And.intro hrj hrm)
   clear hra eR2 eR3 hrs hsb hrj hrm hrn hgw
   go_upto_region 6 with (first
    |(go_at_call 125;(with_reducible refine HC.out.mono ?_);rintro e w3 ⟨V,xs,rfl,hown,hrow,hb3⟩))
   have hown2:=hown
   rw [List.length_map,List.length_map] at hown2
   obtain ⟨pV,kV,rfl⟩:=zar hown2
   have hsl:zaf valE w3 (Old w3) (.slice pV sh.length kV) (zbh sh r):=zb6 hown hrow (fun g hg=>Nat.lt_of_lt_of_le hg hb3.size) (fun g e=>(hown.lt g e).2)
   have hcl:(zbh sh r).length=sh.length:=by simp [zbh]
   have HE:=Lib.hid (zk5 isB (zbh sh r) _ w3 hsl (by rw [hcl];exact hsn) (fun x _ W' c _ hr=>(zdr x W' c (Old W') hr).mono (by rintro e w' ⟨rfl,h⟩;exact ⟨rfl,h.is⟩)))
   obtain ⟨q,hq⟩:∃ q,q=(zbh sh r).all isB:=⟨_,rfl⟩
   rw [← hq] at HE
   have HSL:=Lib.hid hsl
   have HQ:=Lib.hid hq
   clear hown hown2 hrow hsl hq c0 d2
   cases q with
   | false=>
     have hev:=evI_no (sh:=sh) hj1 (by rw [← HRJ.out.1,← HQ.out])
     have HEV:=Lib.hid hev
     go_upto_region 7 with (first
      |(go_at_call 55;(with_reducible refine HE.out.mono ?_);rintro e w4 ⟨rfl,hb4⟩))
     have b4:=zab hb3 hb4 hb3.size
     obtain ⟨u5,hgrp,hlo,hk⟩:=HX.out
     obtain ⟨pL,kL,rfl⟩:=zar hlo
     have hlon:=(zlf sh (rows.take j)).2
     rw [List.length_take] at hlon
     have u54:=(b4.block _ (zaa u5)).trans u5
     have d3:=zac u54 3 rfl
     have d4:=zac u54 4 rfl
     have ho4:=za6 hlo b4
     have k4:=hk.below b4
     have g4:zdu w4 wX.heap.size (W.heap.size+2) (evI sh (rows.take j)) (fun g=>(Value.slice pL (zbi sh (rows.take j)).length kL).ownBlock=some g):=hgrp.keep (fun i _ h=>b4.block i h) (fun i _ h=>h)
     have hLlt:=ho4.lt
     have G4:=Lib.hid g4
     have K4:=Lib.hid k4
     have hsz4:=k4.size
     clear hgrp hlo hk u5 hb3 hb4 b4 g4 k4 hev
     generalize evI sh (rows.take j)=E at*
     generalize zbi sh (rows.take j)=lo at*
     go_wp2_with (first
      |(at_builtin;refine wpList_append_own_at _ rfl _ _ 26 rfl wX.heap.size 3 i0 (.int .i64 0) 1 8 Tryz.underlying26 hi hz0 hz1 hz2 rfl (by decide) _ _ _ rfl (ho4.alloc _) ⟨w4.heap.size,0,none⟩ 1 1 [.int .i64 (j:Int)] rfl rfl (zb8 _ _ _) (by simp [Value.oneCell']) (by unfold maxLen;omega) (by omega) (by simp;omega) ?_
        intro v' w5 ho5 hg5 _ hl5
        obtain ⟨p5,k5,rfl⟩:=zar ho5
        have blk5:∀ i,i < w4.heap.size→(Value.slice pL lo.length kL).ownBlock≠some i→w5.heap[i]?=w4.heap[i]?:=fun i h1 h2=>(hg5.block i (by simp;omega) (fun e=>h2 e.symm)).trans (Below.heap_alloc _ _ _ h1)
        have u55:=(blk5 _ (zaa u54) (fun e=>by have:=(hLlt _ e).1;omega)).trans u54
        have e4:=zac u55 4 rfl
        have f4:=zdy u55 4))
     have HN:Hid (IxS wX (W.heap.size+2+1) (W.heap.size+2) (.slice pA sh.length kA) (.slice pB sh.length kB) (.slice (some ⟨gR,oR,none⟩) n kR) (evI sh (rows.take (j+1))) (.slice p5 (lo.length+1) k5) (zbi sh (rows.take (j+1))) (w5.setCell ⟨W.heap.size+2+1,4,none⟩ (.slice p5 (lo.length+1) k5))):=Lib.hid (by
      rw [HEV.out.1,HEV.out.2]
      have hset:∀ i,i≠W.heap.size+2+1→(w5.setCell ⟨W.heap.size+2+1,4,none⟩ (.slice p5 (lo.length+1) k5)).heap[i]?=w5.heap[i]?:=fun i h=>Below.heap_setCell _ _ _ _ h
      refine ⟨zcd u55 4 _,?_,?_,?_⟩
      ·refine G4.out.keep (fun i h hlt=>(hset i (by omega)).trans (blk5 i hlt ?_)) (fun i hlt h e=>?_)
       ·rcases h with rfl | h
        ·intro e
         have:=(hLlt _ e).1
         omega
        ·exact h.2
       ·rcases hl5 with q | q
        ·exact h (q.symm.trans e)
        ·have h2:(Value.slice p5 (lo.length+1) k5).ownBlock=some i:=e
         rw [q] at h2
         have h3:=Option.some.inj h2
         simp at h3
         omega
      ·have:=zbw ho5 (w':=w5.setCell ⟨W.heap.size+2+1,4,none⟩ (.slice p5 (lo.length+1) k5)) (fun b e=>hset b (by have:=(ho5.lt b e).1;omega))
       simpa using this
      ·exact ((K4.out.alloc _).grown hg5 (fun i e h=>absurd (hLlt i e).1 (by omega))).set (p:=⟨W.heap.size+2+1,4,none⟩) (.inl rfl) _)
     generalize w5.setCell ⟨W.heap.size+2+1,4,none⟩ (.slice p5 (lo.length+1) k5)=w6 at*
     clear u55 e4 f4 blk5 ho5 hg5 hl5 ho4 u54 d3 d4 G4 K4
     go_roundg (gk - 1)
     case measure=>omega
     case rel=>exact ⟨j+1,_,by omega,by go_num,HN⟩
   | true=>
     have hev:=evI_yes (sh:=sh) hj1 (by rw [← HRJ.out.1,← HQ.out])
     rw [← HRJ.out.1] at hev
     have HEV:=Lib.hid hev
     clear hev
     obtain ⟨ek,hek⟩:∃ ek,ek=zao (zbh sh r):=⟨_,rfl⟩
     have hwr:=HT.out r HRJ.out.2
     have HKL:Hid (ek.length≤900000000):=Lib.hid (by
      rw [hek]
      have:=zdm (zbh sh r)
      omega)
     have HEN:Hid (∀ w',Below w3.heap.size w3 w'→Calls Tryz.prog 69 #[.slice pV sh.length kV] w' fun e w2=>e=.returned (.string (bsB ek))∧Below w'.heap.size w' w2):=Lib.hid fun w' h=>by
      rw [hek]
      exact zhl (zbh sh r) _ w' (HGW.out.below (zab hb3 h hb3.size)) (HSL.out.stays (zad h)) (fun v hv=>HM.out r HRJ.out.2 v (zhn (HI.out r HRJ.out.2) hv)) hwr (by rw [hcl];exact hsn)
     rw [← hek] at HEV
     clear hek hwr
     go_upto_region 9 with (first
      |(go_at_call 55;(with_reducible refine HE.out.mono ?_);rintro e w4 ⟨rfl,hb4⟩)
      |(go_at_call 69;(with_reducible refine (HEN.out _ hb4).mono ?_);rintro e w5 ⟨rfl,hb5⟩))
     have b4:=zab (zab hb3 hb4 hb3.size) hb5 (zab hb3 hb4 hb3.size).size
     obtain ⟨u5,hgrp,hlo,hk⟩:=HX.out
     obtain ⟨pL,kL,rfl⟩:=zar hlo
     have hen:=(zlf sh (rows.take j)).1
     rw [List.length_take] at hen
     replace u5:=(b4.block _ (zaa u5)).trans u5
     replace hlo:=za6 hlo b4
     replace hk:=hk.below b4
     replace hgrp:zdu w5 wX.heap.size (W.heap.size+2) (evI sh (rows.take j)) (fun g=>(Value.slice pL (zbi sh (rows.take j)).length kL).ownBlock=some g):=hgrp.keep (fun i _ h=>b4.block i h) (fun i _ h=>h)
     generalize hE0:evI sh (rows.take j)=E at*
     generalize hlo0:zbi sh (rows.take j)=lo at*
     obtain ⟨n',f,h1,hm,h3,h4,h5⟩:=hgrp
     have hrow:=zml h3 ek
     have hgl:=zvx E ek
     have hkey:=keyB HKL.out
     have hLlt:=hlo.lt
     have H3:=Lib.hid h3
     have H4:=Lib.hid h4
     have H5:=Lib.hid h5
     have hAvR:∀ g,((f (.string ek)).getD (.slice none 0 0)).ownBlock=some g→(Value.slice pL lo.length kL).ownBlock≠some g:=fun g e=>by
      cases q:f (.string ek) with
      | none=>rw [q] at e;cases e
      | some v=>rw [q] at e;exact h5 ek v g q e
     have hRlt:=hrow.lt
     clear hb3 hb4 hb5 b4 HE HEN HX h3 h4 h5 hE0 hlo0
     refine zfu (S:=fun W'=>W'.heap[W.heap.size+2+1]?=some (.cells #[.slice pA sh.length kA,.slice pB sh.length kB,.slice (some ⟨gR,oR,none⟩) n kR,.map (some (W.heap.size+2)),.slice pL lo.length kL] 90)∧HMap W' Tryz.prog 9 (W.heap.size+2) n' f) (fun i=>i == 10) (by kernel_rfl) ⟨u5,hm.keep rfl⟩ (fun hh=>?_)
     clear hh
     replace u5:w5.drew.heap[W.heap.size+2+1]?=some (.cells #[.slice pA sh.length kA,.slice pB sh.length kB,.slice (some ⟨gR,oR,none⟩) n kR,.map (some (W.heap.size+2)),.slice pL lo.length kL] 90):=u5
     replace hm:HMap w5.drew Tryz.prog 9 (W.heap.size+2) n' f:=hm.keep rfl
     replace hk:=hk.drew
     replace hlo:=hlo.drew
     replace hrow:=hrow.drew
     have H3D:Hid (∀ x,(f (.string x)=none∧grp E x=[])∨∃ v,f (.string x)=some v∧w5.drew.ownsRow wX.heap.size 3 1 v (grp E x).length ((grp E x).map (Value.int .i64))):=Lib.hid fun x=>(H3.out x).imp id fun ⟨v,e,ho⟩=>⟨v,e,ho.drew⟩
     replace hLlt:∀ j_1,(Value.slice pL lo.length kL).ownBlock=some j_1→wX.heap.size≤j_1∧j_1 < w5.drew.heap.size:=hLlt
     replace hRlt:∀ j_1,((f (.string ek)).getD (.slice none 0 0)).ownBlock=some j_1→wX.heap.size≤j_1∧j_1 < w5.drew.heap.size:=hRlt
     clear H3
     generalize w5.drew=wD at*
     refine zbk (i:=0) (v:=.pointer (some ⟨W.heap.size+2+1,3,none⟩)) rfl (by kernel_rfl) (by kernel_rfl) (by kernel_rfl) rfl (by kernel_rfl) (by kernel_rfl) (fun _ _ _ h=>h) (Or.inl ⟨by rfl,fun W _=>by go_simp⟩) (⟨u5,hm⟩) ?_
     try simp only [putS]
     refine zbk (i:=2) (v:=.string (bsB ek)) rfl (by kernel_rfl) (by kernel_rfl) (by kernel_rfl) rfl (by kernel_rfl) (by kernel_rfl) (fun _ _ _ h=>h) (Or.inl ⟨by rfl,fun W _=>by go_simp⟩) (⟨u5,hm⟩) ?_
     try simp only [putS]
     refine zbk (i:=3) (v:=.pointer (some ⟨W.heap.size+2+1,3,none⟩)) rfl (by kernel_rfl) (by kernel_rfl) (by kernel_rfl) rfl (by kernel_rfl) (by kernel_rfl) (fun _ _ _ h=>h) (Or.inl ⟨by rfl,fun W _=>by go_simp⟩) (⟨u5,hm⟩) ?_
     try simp only [putS]
     refine zbk (i:=5) (v:=.string (bsB ek)) rfl (by kernel_rfl) (by kernel_rfl) (by kernel_rfl) rfl (by kernel_rfl) (by kernel_rfl) (fun _ _ _ h=>h) (Or.inl ⟨by rfl,fun W _=>by go_simp⟩) (⟨u5,hm⟩) ?_
     try simp only [putS]
     refine zbk (i:=7) (v:=.int .i64 (j:Int)) rfl (by kernel_rfl) (by kernel_rfl) (by kernel_rfl) rfl (by kernel_rfl) (by kernel_rfl) (fun _ _ _ h=>h) (Or.inl ⟨by rfl,fun W _=>by go_simp⟩) (⟨u5,hm⟩) ?_
     try simp only [putS]
     refine zbk (i:=1) (v:=.map (some (W.heap.size+2))) rfl (by kernel_rfl) (by kernel_rfl) (by kernel_rfl) rfl (by kernel_rfl) (by kernel_rfl) (fun _ _ _ h=>h) (Or.inl ⟨by rfl,fun W' h=>by have c0:=zac h.1 3 rfl;go_simp⟩) (⟨u5,hm⟩) ?_
     try simp only [putS]
     refine zbk (i:=4) (v:=.map (some (W.heap.size+2))) rfl (by kernel_rfl) (by kernel_rfl) (by kernel_rfl) rfl (by kernel_rfl) (by kernel_rfl) (fun _ _ _ h=>h) (Or.inl ⟨by rfl,fun W' h=>by have c0:=zac h.1 3 rfl;go_simp⟩) (⟨u5,hm⟩) ?_
     try simp only [putS]
     refine zbk (i:=6) (v:=(f (.string ek)).getD (.slice none 0 0)) rfl (by kernel_rfl) (by kernel_rfl) (by kernel_rfl) rfl (by kernel_rfl) (by kernel_rfl) (fun _ _ _ h=>h) (znc (by rfl) (.tmp 40) (.tmp 41) 88 rfl 9 26 (Go.Maps.string_keyed Tryz.underlying9) Tryz.underlying88 Tryz.zeroValue26 (W.heap.size+2) n' rfl (fun W h=>h.2) (.string (bsB ek)) (.string ek) rfl hkey trivial) (⟨u5,hm⟩) ?_
     try simp only [putS]
     refine zay (rs:=[8]) (by kernel_rfl) (by simp) ?_
     refine zan.cons rfl (fun K hK=>?_) zan.nil
     try rw [if_pos (by rfl)]
     go_simp
     replace u5:=zaq (.cells #[.int .i64 (j:Int)] 3) u5
     replace hm:HMap (wD.alloc (.cells #[.int .i64 (j:Int)] 3)) Tryz.prog 9 (W.heap.size+2) n' f:=hm.keep (Below.heap_alloc _ _ _ hm.lt)
     refine hK.out _ _ (⟨u5,hm⟩) (fun _=>?_)
     clear hK K
     try simp only [putS]
     refine zay (rs:=[9]) (by kernel_rfl) (by simp) ?_
     refine zan.cons rfl (fun K hK=>?_) zan.nil
     try rw [if_pos (by rfl)]
     refine zbu (P:=Tryz.prog) (w:=wD.alloc (.cells #[.int .i64 (j:Int)] 3)) (.tmp 42) (.tmp 44) 26 rfl wX.heap.size 3 i0 (.int .i64 0) 1 8 Tryz.underlying26 hi hz0 hz1 hz2 rfl (by decide) _ _ _ rfl (hrow.alloc (.cells #[.int .i64 (j:Int)] 3)) ⟨wD.heap.size,0,none⟩ 1 1 [.int .i64 (j:Int)] rfl rfl (zb8 _ _ _) (by simp [Value.oneCell']) (by unfold maxLen;omega) (by omega) (by have:=hk.size;simp;omega) ?_
     intro v9 w9 ho9 hg9 _ hl9
     replace u5:=(hg9.block _ (zaa u5) (fun e=>by have:=(hRlt _ e.symm).1;omega)).trans u5
     replace hm:=hm.keep (hg9.block _ hm.lt (fun e=>by have:=(hRlt _ e.symm).1;omega))
     refine hK.out _ _ (⟨u5,hm⟩) (fun _=>?_)
     clear hK K
     try simp only [putS]
     refine zay (rs:=[10]) (by kernel_rfl) (by simp) ?_
     refine zan.late rfl (by kernel_rfl) (fun K hK=>?_) zan.nil
     try rw [if_pos (by rfl)]
     refine zly (.tmp 37) (.tmp 38) (.tmp 45) 88 rfl 9 26 (Go.Maps.string_keyed Tryz.underlying9) Tryz.underlying88 (W.heap.size+2) n' rfl hm (by unfold maxLen;omega) (.string (bsB ek)) v9 (.string ek) rfl rfl hkey trivial ?_
     intro w10 hm10 hg10
     refine hK.out _ _ ?_
     clear hK K
     try simp only [putS]
     refine zd5 (by kernel_rfl) ?_ _
     have HN:Hid (IxS wX (W.heap.size+2+1) (W.heap.size+2) (.slice pA sh.length kA) (.slice pB sh.length kB) (.slice (some ⟨gR,oR,none⟩) n kR) (evI sh (rows.take (j+1))) (.slice pL lo.length kL) (zbi sh (rows.take (j+1))) w10):=Lib.hid (by
      rw [HEV.out.1,HEV.out.2]
      have hza:=ztb (K:=Lit.string) (w:=wD) (base:=wX.heap.size) (b:=W.heap.size+2) (E:=E) (x:=ek) (i:=(j:Int)) zhm (by omega) H3D.out H4.out (zaz wD (.cells #[.int .i64 (j:Int)] 3)) ho9 hg9 hl9 hg10
      refine ⟨(hg10.block _ (zaa u5) (fun e=>by have:=Option.some.inj e;omega)).trans u5,⟨n'+1,_,by simp;omega,hm10,hza.1,hza.2,fun x v g ex eg eL=>?_⟩,?_,?_⟩
      ·by_cases q:x=ek
       ·subst q
        rw [zel] at ex
        cases ex
        rcases hl9 with r | r
        ·exact hAvR g (r.symm.trans eg) eL
        ·rw [r] at eg
         have h1:=Option.some.inj eg
         have h2:=(hLlt g eL).2
         simp at h1
         omega
       ·rw [zdo (fun e=>q (zhm _ _ e))] at ex
        exact H5.out x v g ex eg eL
      ·exact zct (zct (hlo.alloc (.cells #[.int .i64 (j:Int)] 3)) hg9 (fun b e q=>hAvR b q e)) hg10 (fun b e q=>by have:=(hLlt b e).1;have:=Option.some.inj q;omega)
      ·exact ((hk.alloc (.cells #[.int .i64 (j:Int)] 3)).grown hg9 (fun i e h=>absurd (hRlt i e).1 (by omega))).grown hg10 (fun i e _=>.inr (Option.some.inj e).symm))
     clear u5 hm hm10 hg10 ho9 hg9 hl9 hk hlo hrow hAvR hLlt hRlt
     go_wp2_with fail
     go_roundg (gk - 1)
     case measure=>omega
     case rel=>exact ⟨j+1,_,by omega,by go_num,HN⟩
  ·have e:rows.take j=rows:=by rw [List.take_of_length_le];have:=HL.out;omega
   obtain ⟨u5,hgrp,hlo,hk⟩:=HX.out
   rw [e] at hgrp hlo
   obtain ⟨pL,kL,rfl⟩:=zar hlo
   have v5:wr.heap[W.heap.size+1]?=some (.cells #[.slice none 0 0,.slice none 0 0,.slice none 0 0,.map none,.slice none 0 0] 90):=(hblk _ (by omega)).trans HV4.out
   have hzk:=hk.size
   have HGR:=Lib.hid hgrp
   have HLO:=Lib.hid hlo
   have HBL:=Lib.hid hbel
   clear hgrp hlo hk hbel e HX
   go_wp2_with (first
    |((with_reducible refine zag (.tmp 5) (W.heap.size+2+1) 90 90 [.slice pA sh.length kA,.slice pB sh.length kB,.slice pR n kR,.map (some (W.heap.size+2)),.slice pL (zbi sh rows).length kL] 5 _ u5 rfl Tryz.underlying90 rfl zfg ?_ ?_ ?_ ?_);rfl;rfl;rfl)
    |((with_reducible refine zas (.tmp 4) (.tmp 47) (W.heap.size+1) 90 90 _ [.slice pA sh.length kA,.slice pB sh.length kB,.slice pR n kR,.map (some (W.heap.size+2)),.slice pL (zbi sh rows).length kL] 5 v5 rfl ?_ ?_ ?_ ?_ zfg rfl (zg3 rfl rfl rfl rfl rfl) ?_);rfl;rfl;rfl;rfl;intro wY oY uY))
   have bY:=zam HBL.out oY (Nat.le_succ _) HBL.out.size
   have hnr:rows.length≤2097152:=by have:=HL.out;omega
   obtain ⟨n',f,g1,g2,g3⟩:=zdu.sliceAt (HGR.out.keep (w':=wY) (Av':=fun g=>(Value.slice pL (zbi sh rows).length kL).ownBlock=some g) (fun i h hlt=>oY.block i hlt (by rcases h with rfl | h <;> omega)) (fun i _ h=>h)) hnr
   have hlo2:=zbw HLO.out (w':=wY) (fun g e=>oY.block g (HLO.out.lt g e).2 (by have:=(HLO.out.lt g e).1;omega))
   refine bodyPost_ret (results_cell_row (p:=4) (ty:=90) Tryz.results75 _ _ (W.heap.size+1) 90 _ (0,0) _ rfl uY Tryz.underlying90 rfl zfg) rfl
    ⟨W.heap.size+2,_,rfl,⟨HS.out.stays (zad bY),by rw [HL.out];exact HR.out.stays (zad bY),⟨g2.lt,n',f,g1,g2,g3⟩,zcw (Old wY) hlo2 (fun z hz=>by obtain ⟨i,rfl,hi⟩:=(zqx sh rows).2 z hz;exact zrx hi hnr) (fun g e=>(hlo2.lt g e).2),zcp hlo2⟩,rfl,bY⟩
end Go.Proofs.YteclpnfckjfibaaGreatDoor

/- NT -/
namespace Go.Proofs.YteclpnfckjfibaaGreatDoor
open Go.RowKit
theorem ztc (v:Value) (zs:List Int) (base:Nat) (w:World) (h:w.ownsRow base 3 1 v zs.length (zs.map (Value.int .i64))) (hn:zs.length≤4194304):
 Calls Tryz.prog 178 #[v] w fun e w'=>e=.returned (.tuple #[])∧w'.ownsRow base 3 1 v zs.length ((zs.mergeSort leI).map (Value.int .i64))∧w.grownBy w' v.ownBlock:=by
 rcases h.2 with ⟨rfl,h0⟩ | ⟨g,cap,cur,rfl,hb,hg,h1,h2,h3,h4⟩
 ·obtain rfl:=List.length_eq_zero_iff.1 h0
  refine (AnyM.slices_Sort_int_none Tryz.sortI none 0 w).mono ?_
  rintro e w' ⟨rfl,rfl⟩
  exact ⟨rfl,by simpa using h,zmc _ _⟩
 ·by_cases h0:zs=[]
  ·subst h0
   refine (AnyM.slices_Sort_int_none Tryz.sortI (some ⟨g,0,none⟩) cap w).mono ?_
   rintro e w' ⟨rfl,rfl⟩
   exact ⟨rfl,by simpa using h,zmc _ _⟩
  ·have hH:Go.Sort.Holds encZ w g 0 zs.toArray:=holds_of_block_i hg (by simpa using h4)
   refine (AnyM.slices_Sort_int Tryz.sortI g 0 cap zs w hH (zaa hg) (by omega)).mono ?_
   rintro e w' ⟨rfl,n,os,rfl⟩
   refine ⟨rfl,?_,grownBy_sorted_i _⟩
   exact ownsRow_sorted_i (ss:=zs) (by simp) hb hg h1 h2 h3
theorem leI_tr:∀ a b c:Int,leI a b=true→leI b c=true→leI a c=true:=fun a b c h1 h2=>by simp only [leI,decide_eq_true_eq] at *;omega
theorem leI_to:∀ a b:Int,(leI a b || leI b a)=true:=fun a b=>by simp only [leI,Bool.or_eq_true,decide_eq_true_eq];omega
theorem leI_an:∀ a b:Int,leI a b=true→leI b a=true→a=b:=fun a b h1 h2=>by simp only [leI,decide_eq_true_eq] at *;omega
theorem zb5 {w:World} {g:Nat} {c:Array Value} {t:TypeId} (h:w.heap[g]?=some (.cells c t)) (o:Nat) (xs:List Value) (hx:∀ j u,xs[j]?=some u→c[o+j]?=some u):w.rangeAt g o xs:=fun j u hu=>zac h (o+j) (hx j u hu)
theorem zaf.rowAt {w:World} {P:Nat→Prop} {p:Option Addr} {n cap:Nat} {rows:List (List Val)} (h:zaf rowE w P (.slice p n cap) rows) (i:Nat) (hi:i < rows.length):∃ g off u,p=some ⟨g,off,none⟩∧n=rows.length∧w.cell? ⟨g,off+i,none⟩=some u∧zaf valE w P u rows[i]∧capK u∧rows[i].length≤2097152:=by
 obtain ⟨g,off,cap',c,e,_,hr,ha⟩:=h.at_ i hi
 injection e with e1 e2 e3
 obtain ⟨v,rfl,hs,hc,hl⟩:=hr
 refine ⟨g,off,v,e1,e2,?_,hs,hc,hl⟩
 have:=ha 0 _ rfl
 simpa [rowE] using this
structure NumS (gi gr:Nat) (A B R M L u:Value) (gR oR i:Nat) (v:Value) (W:World):Prop where
 ix:W.heap[gi]?=some (.cells #[A,B,R,M,L] 90)
 row:W.cell? ⟨gr,0,none⟩=some u
 at_:W.cell? ⟨gR,oR+i,none⟩=some v
set_option maxHeartbeats 3200000 in
set_option maxRecDepth 20000 in
theorem zv0 (sh:List (Nat × Nat)) (rows:List (List Val)) (A B R M L u:Value) (r:List Val) (gi gr i:Nat) (W:World) (hgi:W.heap[gi]?=some (.cells #[A,B,R,M,L] 90)) (hgr:W.heap[gr]?=some (.cells #[u] 43)) (hs:ShIn W (Old W) sh A B) (hR:zaf rowE W (Old W) R rows) (hu:zaf valE W (Old W) u r)
 (hi:i < rows.length) (hin:∀ p∈sh,p.1 < r.length∧p.2 < rows[i].length) (hsn:sh.length≤2097152) (hrn:r.length≤2097152):
 Calls Tryz.prog 176 #[.int .i64 (i:Nat),.pointer (some ⟨gi,0,none⟩),.pointer (some ⟨gr,0,none⟩)] W fun e w'=>e=.returned (.bool (fitB sh r rows[i]))∧Below W.heap.size W w':=by
 obtain ⟨pA,kA,pB,kB,rfl,rfl⟩:=hs.slice
 obtain ⟨pR,kR,rfl⟩:=hR.slice
 obtain ⟨pu,ku,rfl⟩:=hu.slice
 obtain ⟨gR,oR,v,rfl,_,ci,hv,_,hvn⟩:=hR.rowAt i hi
 obtain ⟨pv,kv,rfl⟩:=hv.slice
 have hlt:(i:Int) < rows.length:=by omega
 have HF:Hid (∀ w',Below W.heap.size W w'→Calls Tryz.prog 86 #[.agg #[.slice pA sh.length kA,.slice pB sh.length kB],.slice pu r.length ku,.slice pv rows[i].length kv] w' fun e w2=>e=.returned (.bool (fitB sh r rows[i]))∧Below w'.heap.size w' w2):=Lib.hid fun w' h=>
  fitAt sh _ _ _ _ r rows[i] w' (hs.stays (zad h)) (hu.stays (zad h)) (hv.stays (zad h)) hin hsn hrn hvn
 obtain ⟨q,hq⟩:∃ q,q=fitB sh r rows[i]:=⟨_,rfl⟩
 rw [← hq] at HF ⊢
 have hst:NumS gi gr (.slice pA sh.length kA) (.slice pB sh.length kB) (.slice (some ⟨gR,oR,none⟩) rows.length kR) M L (.slice pu r.length ku) gR oR i (.slice pv rows[i].length kv) W:=⟨hgi,zac hgr 0 rfl,ci⟩
 clear hq hs hR hu hv hgi hgr ci hin
 generalize rows[i].length=rl at*
 go_enter Tryz.func176,Tryz.ntmps176
 go_upto_region 1 with fail
 refine wp_region_held_drew (S:=NumS gi gr (.slice pA sh.length kA) (.slice pB sh.length kB) (.slice (some ⟨gR,oR,none⟩) rows.length kR) M L (.slice pu r.length ku) gR oR i (.slice pv rl kv)) (by kernel_rfl) ⟨hst.ix,hst.row,hst.at_⟩ (fun hh=>?_)
 have bq:Below W.heap.size W W.drew:=(Below.refl _ _).drew
 clear hst
 generalize W.drew=wD at*
 refine tg (i:=0) (.pointer (some ⟨gi,0,none⟩)) rfl (hh) ?_
 refine tk (i:=2) (v:=.slice pu r.length ku) rfl (Or.inl ⟨by rfl,fun W' h=>by have c0:=h.row;go_simp⟩) (hh) ?_
 refine tg (i:=3) (.pointer (some ⟨gi,2,none⟩)) rfl (hh) ?_
 refine tg (i:=5) (.int .i64 (i:Int)) rfl (hh) ?_
 refine tk (i:=1) (v:=.agg #[.slice pA sh.length kA,.slice pB sh.length kB]) rfl (yieldsIf_load_mid (by rfl) 87 (.tmp 5) rfl gi 0 rfl [.slice pA sh.length kA,.slice pB sh.length kB] _ (fun W h=>zb5 h.ix 0 _ (fun j u hu=>by match j,hu with | 0,e=>exact e | 1,e=>exact e | j+2,e=>simp at e)) Tryz.underlying87 rfl zh3) (hh) ?_
 refine tk (i:=4) (v:=.slice (some ⟨gR,oR,none⟩) rows.length kR) rfl (Or.inl ⟨by rfl,fun W' h=>by have c0:=zac h.ix 2 rfl;go_simp⟩) (hh) ?_
 refine tg (i:=6) (.pointer (some ⟨gR,oR+i,none⟩)) rfl (hh) ?_
 refine tk (i:=7) (v:=.slice pv rl kv) rfl (Or.inl ⟨by rfl,fun W' h=>by have c0:=h.at_;go_simp⟩) (hh) ?_
 refine tr 8 rfl (fun K hK=>?_)
 rw [if_pos (by rfl)]
 go_simp
 refine (HF.out _ bq).mono ?_
 rintro e0 w3 ⟨rfl,hb3⟩
 have hh3:NumS gi gr (.slice pA sh.length kA) (.slice pB sh.length kB) (.slice (some ⟨gR,oR,none⟩) rows.length kR) M L (.slice pu r.length ku) gR oR i (.slice pv rl kv) w3:=⟨(hb3.block _ (zaa hh.ix)).trans hh.ix,zaw hh.row hb3,zaw hh.at_ hb3⟩
 replace bq:=zab bq hb3 bq.size
 refine hK.out _ _ (hh3) (fun _=>?_)
 clear hK K
 try simp only [putS]
 refine tg (i:=9) (.bool q) rfl (hh3) ?_
 refine wpAnyH_done (by kernel_rfl) ?_ _
 go_wp2_with fail
 go_ret
 exact ⟨rfl,bq⟩
def zfv (rows:List (List Val)) (z:Int):List Val:=rows.getD z.toNat []
def zv1 (sh:List (Nat × Nat)) (rows:List (List Val)) (r:List Val) (ek:List UInt8):List Int:=
 if (zbi sh rows).filter (fun z=>fitB sh r (zfv rows z))=[] then grp (evI sh rows) ek else (grp (evI sh rows) ek++(zbi sh rows).filter (fun z=>fitB sh r (zfv rows z))).mergeSort leI
theorem zh5 {w:World} {P:Nat→Prop} {base:Nat} {V:Value} {zs:List Int} {xs:List Value} (h:w.ownsRow base 3 1 V zs.length xs) (hr:RowE intE w P xs zs):w.ownsRow base 3 1 V zs.length (zs.map (Value.int .i64)):=by
 rw [ints_cells zs xs hr] at h
 exact h
where ints_cells:(zs:List Int)→(xs:List Value)→RowE intE w P xs zs→xs=zs.map (Value.int .i64)
 | [],xs,h=>by unfold RowE at h;exact h
 | z::l,xs,h=>by
   unfold RowE at h
   obtain ⟨c,ys,rfl,⟨rfl,_⟩,hr⟩:=h
   rw [ints_cells l ys hr]
   rfl
theorem znd {w:World} {P:Nat→Prop}:(zs:List Int)→(xs:List Value)→RowE intE w P xs zs→∀ z∈zs,(Lit.int .i64 z).wf=true
 | [],_,_,z,h=>by cases h
 | y::l,xs,h,z,hz=>by
   unfold RowE at h
   obtain ⟨c,ys,rfl,⟨rfl,hw⟩,hr⟩:=h
   rcases List.mem_cons.1 hz with rfl | hz
   ·exact hw
   ·exact znd l ys hr z hz
set_option maxHeartbeats 6400000 in
set_option maxRecDepth 20000 in
theorem zv2 (sh:List (Nat × Nat)) (rows:List (List Val)) (A B R L u:Value) (mb:Nat) (r:List Val) (ek:List UInt8) (W:World) (P:Nat→Prop) (hPo:∀ k,P k→k < W.heap.size) (hx0:IxIn sh rows A B R mb L P W) (hu:zaf valE W (Old W) u r) (hek:ek.length≤900000000) (hin:∀ x∈rows,∀ p∈sh,p.1 < r.length∧p.2 < x.length) (hsn:sh.length≤2097152) (hrn:r.length≤2097152) (hn:rows.length≤2097152):
 Calls Tryz.prog 129 #[.agg #[A,B,R,.map (some mb),L],u,.string (bsB ek)] W fun e w'=>∃ V,e=.returned V∧zaf intE w' (fun k=>P k∨W.heap.size≤k) V (zv1 sh rows r ek)∧Below W.heap.size W w':=by
 have hx:IxIn sh rows A B R mb L (Old W) W:=hx0.stays fun k hk=>⟨hPo k hk,rfl⟩
 obtain ⟨hs,hR,_,hL,hLc⟩:=hx
 obtain ⟨hmb,n',f,h1,hm,h2P⟩:=hx0.map
 have h2:∀ x,zaf intE W (Old W) ((f (.string x)).getD (.slice none 0 0)) (grp (evI sh rows) x)∧capK ((f (.string x)).getD (.slice none 0 0)):=fun x=>⟨(h2P x).1.stays fun k hk=>⟨hPo k hk,rfl⟩,(h2P x).2⟩
 have hfP:=(h2P ek).1
 obtain ⟨pA,kA,pB,kB,rfl,rfl⟩:=hs.slice
 obtain ⟨pR,kR,rfl⟩:=hR.slice
 obtain ⟨pL,kL,rfl⟩:=hL.slice
 obtain ⟨pu,ku,rfl⟩:=hu.slice
 obtain ⟨W1,hW1⟩:∃ W1,W1=(W.alloc (.cells #[.slice pA sh.length kA,.slice pB sh.length kB,.slice pR rows.length kR,.map (some mb),.slice pL (zbi sh rows).length kL] 90)).alloc (.cells #[.slice pu r.length ku] 43):=⟨_,rfl⟩
 have b1:Below W.heap.size W W1:=by rw [hW1];exact zc6 _ _ _
 have s1:W1.heap.size=W.heap.size+2:=by rw [hW1];simp
 have u3:W1.heap[W.heap.size]?=some (.cells #[.slice pA sh.length kA,.slice pB sh.length kB,.slice pR rows.length kR,.map (some mb),.slice pL (zbi sh rows).length kL] 90):=by rw [hW1];exact zaq _ (zah _ _ rfl)
 have u4:W1.heap[W.heap.size+1]?=some (.cells #[.slice pu r.length ku] 43):=by rw [hW1];exact zah _ _ (by simp)
 have hm1:HMap W1 Tryz.prog 9 mb n' f:=hm.keep (b1.block _ hm.lt)
 have hkey:=keyB hek
 have hkl:WideAt.IsKeyLit (.string ek):=trivial
 obtain ⟨hf1,hf2⟩:=h2 ek
 obtain ⟨v0,hv0⟩:∃ v,v=(f (.string ek)).getD (.slice none 0 0):=⟨_,rfl⟩
 rw [← hv0] at hf1 hf2 hfP
 have HFP:=Lib.hid (And.intro hPo hfP)
 clear hPo hfP h2P hx0
 obtain ⟨pF,kF,rfl⟩:=hf1.slice
 have hgn:(grp (evI sh rows) ek).length≤2097152:=Nat.le_trans (zvx _ _) (Nat.le_trans (zlf sh rows).1 hn)
 have hln:=Nat.le_trans (zlf sh rows).2 hn
 have HWH:=Lib.hid (zxx (.pointer (some ⟨W.heap.size,0,none⟩)) (.pointer (some ⟨W.heap.size+1,0,none⟩)) (fun z=>fitB sh r (zfv rows z)) (zbi sh rows) (.slice pL (zbi sh rows).length kL) W1 (hL.stays (zad b1)) hln (fun z hz W' c hb hr=>by
  obtain ⟨i,rfl,hi⟩:=(zqx sh rows).2 z hz
  have hb2:=zab b1 hb b1.size
  have e:zfv rows (i:Int)=rows[i]:=by unfold zfv;simp [hi]
  rw [e]
  exact zv0 sh rows _ _ _ _ _ _ r W.heap.size (W.heap.size+1) i W' ((hb.block _ (zaa u3)).trans u3) ((hb.block _ (zaa u4)).trans u4) (hs.stays (zad hb2)) (hR.stays (zad hb2)) (hu.stays (zad hb2)) hi (fun p hp=>hin _ (List.getElem_mem hi) p hp) hsn hrn))
 have c3:=zac u3 3 rfl
 have c4:=zac u3 4 rfl
 have HW:=Lib.hid hW1
 have HF1:=Lib.hid (hf1.stays (zad b1))
 have HB1:=Lib.hid b1
 have HV0:=Lib.hid hv0
 clear hW1 hs hR hL hLc hu h2 hm hf1 hv0 b1 u3 u4 hin
 unfold zv1
 generalize hlo':(zbi sh rows).filter (fun z=>fitB sh r (zfv rows z))=lo' at*
 have hlo2:lo'.length≤2097152:=by
  rw [← hlo']
  exact Nat.le_trans (List.length_filter_le _ _) hln
 clear hlo'
 generalize grp (evI sh rows) ek=gs at*
 obtain ⟨zs,hzs⟩:∃ zs,zs=if lo'=[] then gs else (gs++lo').mergeSort leI:=⟨_,rfl⟩
 rw [← hzs]
 have HZ0:Hid (lo'=[]→zs=gs):=Lib.hid fun h=>by rw [hzs,if_pos h]
 have HZ1:Hid (¬ lo'=[]→zs=(gs++lo').mergeSort leI):=Lib.hid fun h=>by rw [hzs,if_neg h]
 clear hzs
 go_enter Tryz.func129,Tryz.ntmps129
 go_upto_region 1 with fail
 rw [← HW.out]
 go_upto_region 3 with (first
  |((with_reducible refine zck ?_ (.tmp 10) (.tmp 11) 88 ?_ 9 26 (Go.Maps.string_keyed Tryz.underlying9) Tryz.underlying88 (Tryz.zeroValue26 _) mb n' ?_ hm1 (.string (bsB ek)) (.string ek) ?_ hkey hkl ?_);rfl;rfl;rfl;rfl;rw [← HV0.out])
  |(go_at_call 175;(with_reducible refine HWH.out.mono ?_);rintro e w2 ⟨V2,xs,rfl,hown,hrow,hb2⟩;obtain ⟨p2,k2,rfl⟩:=zar hown))
 have hown3:=zh5 hown hrow
 have hwf:=znd _ _ hrow
 have hsz2:=hb2.size
 by_cases h0:lo'=[]
 ·subst h0
  have HZ2:=Lib.hid (HZ0.out rfl)
  clear HZ0 HZ1
  have hb:=zab HB1.out hb2 HB1.out.size
  have hres:zaf intE w2 (fun k=>P k∨W.heap.size≤k) _ _:=HFP.out.2.stays fun k hk=>⟨.inl hk,hb.block k (HFP.out.1 k hk)⟩
  have HRS:=Lib.hid hres
  clear hown hrow hown3 hwf hres
  go_wp2_with fail
  go_ret
  exact ⟨_,rfl,by rw [HZ2.out];exact HRS.out,hb⟩
 ·have HZ2:=Lib.hid (HZ1.out h0)
  have hz:((lo'.length:Int) == 0)=false:=by
   rw [beq_eq_false_iff_ne]
   intro e
   exact h0 (List.length_eq_zero_iff.1 (by omega))
  have hbz:Below w2.heap.size w2 (w2.alloc (.cells #[.slice pF gs.length kF,.slice p2 lo'.length k2] 188)):=zaz _ _
  have hfz:=(HF1.out.stays (zad hb2)).stays (zad hbz)
  have hlz:zaf intE (w2.alloc (.cells #[.slice pF gs.length kF,.slice p2 lo'.length k2] 188)) (Old (w2.alloc (.cells #[.slice pF gs.length kF,.slice p2 lo'.length k2] 188))) (.slice p2 lo'.length k2) lo':=(zcw (Old w2) hown3 hwf (fun g e=>(hown3.lt g e).2)).stays (zad hbz)
  have HC:=Lib.hid (zve gs lo' _ _ w2.heap.size _ (zah _ _ rfl) hfz hlz hf2 (zcp hown) hgn hlo2)
  have HB2:=Lib.hid (zab HB1.out hb2 HB1.out.size)
  clear hown hrow hown3 hwf hfz hlz hbz h0 HF1 hb2 HWH
  go_upto_region 6 with (first
   |(go_at_call 177;(with_reducible refine HC.out.mono ?_);rintro e w3 ⟨V3,ys,rfl,hown,hrow,hb3⟩))
  have ho3:=zh5 hown hrow
  have hw3:=znd _ _ hrow
  have hlen3:(gs++lo').length≤4194304:=by rw [List.length_append];omega
  have HST:=Lib.hid (ztc V3 (gs++lo') _ w3 ho3 hlen3)
  have HB3:=Lib.hid (zab HB2.out ((zaz w2 _).trans (hb3.mono (by simp))) HB2.out.size)
  have HO3:=Lib.hid ho3
  have hbase3:W.heap.size≤(w2.alloc (.cells #[.slice pF gs.length kF,.slice p2 lo'.length k2] 188)).heap.size:=by have:=HB2.out.size;simp;omega
  have HBS:=Lib.hid hbase3
  have HW3:=Lib.hid hw3
  have ho3':=ho3
  rw [List.length_append] at ho3'
  obtain ⟨p3,k3,rfl⟩:=zar ho3'
  clear ho3' hown hrow hb3 ho3 hw3 HC hbase3
  go_wp2_with (first
   |(go_at_call 178;(with_reducible refine HST.out.mono ?_);rintro e w4 ⟨rfl,ho4,hg4⟩))
  have hb4:Below W.heap.size W w4:=HB3.out.grown hg4 HB3.out.size (fun g e=>by have:=(HO3.out.lt g e).1;have:=HBS.out;omega)
  have hwf4:∀ z∈(gs++lo').mergeSort leI,(Lit.int .i64 z).wf=true:=fun z hz=>HW3.out z (List.mem_mergeSort.1 hz)
  have hl4:((gs++lo').mergeSort leI).length=(gs++lo').length:=List.length_mergeSort _
  have ho5:=ho4
  rw [← hl4] at ho5
  have hres:=zcw (fun k=>P k∨W.heap.size≤k) ho5 hwf4 (fun g e=>.inr (Nat.le_trans HBS.out (ho4.lt g e).1))
  have HRS:=Lib.hid hres
  clear ho4 ho5 hres hg4 HST HO3
  go_ret
  exact ⟨_,rfl,by rw [HZ2.out];exact HRS.out,hb4⟩
end Go.Proofs.YteclpnfckjfibaaGreatDoor

/- YA -/
namespace Go.Proofs.YteclpnfckjfibaaGreatDoor
def numW:List UInt8→Nat:=fun l=>l.foldl (fun n c=>n*256+c.toNat) 0
theorem zv3 (l:List UInt8) (m:Nat):l.foldl (fun n c=>n*256+c.toNat) m=m*256 ^ l.length+numW l:=by
 induction l generalizing m with
 | nil=>simp [numW]
 | cons c r ih=>
   rw [List.foldl_cons,ih]
   show _=_+List.foldl (fun n c=>n*256+c.toNat) (0*256+c.toNat) r
   rw [ih,List.length_cons,Nat.pow_succ]
   rw [Nat.add_mul,Nat.zero_mul,Nat.zero_add,Nat.mul_assoc,Nat.mul_comm 256]
   omega
theorem zv4 (c:UInt8) (r:List UInt8):numW (c::r)=c.toNat*256 ^ r.length+numW r:=by
 show List.foldl (fun n c=>n*256+c.toNat) (0*256+c.toNat) r=_
 rw [zv3,Nat.zero_mul,Nat.zero_add]
theorem zv5 (a p:Int) (hp:0 < p):a % (p*256)=a % p+p*(a / p % 256):=by
 have e1:p*(a / p)+a % p=a:=Int.mul_ediv_add_emod a p
 have e2:256*(a / p / 256)+a / p % 256=a / p:=Int.mul_ediv_add_emod (a / p) 256
 have h1:0≤a % p:=Int.emod_nonneg _ (by omega)
 have h2:a % p < p:=Int.emod_lt_of_pos _ hp
 have h3:0≤a / p % 256:=Int.emod_nonneg _ (by decide)
 have h4:a / p % 256 < 256:=Int.emod_lt_of_pos _ (by decide)
 generalize a / p % 256=s at e2 h3 h4 ⊢
 generalize a / p / 256=q at e2
 have e3:a=a % p+p*s+p*256*q:=by
  have:p*(256*q+s)+a % p=a:=by rw [e2];exact e1
  rw [Int.mul_add,← Int.mul_assoc] at this
  omega
 have h5:0≤p*s:=Int.mul_nonneg (by omega) h3
 have h6:p*s+p≤p*256:=by
  have:p*(s+1)≤p*256:=Int.mul_le_mul_of_nonneg_left (by omega) (by omega)
  rwa [Int.mul_add,Int.mul_one] at this
 generalize a % p=m at e3 h1 h2 ⊢
 rw [e3,Int.add_mul_emod_self_left]
 exact Int.emod_eq_of_lt (by omega) (by omega)
theorem zne (n:Int):(k:Nat)→(numW (beB n k):Int)=n % (256:Int) ^ k
 | 0=>by simp [beB,numW,Int.emod_one]
 | i+1=>by
   show (numW (zb4 n i::beB n i):Int)=_
   rw [zv4,Int.natCast_add,Int.natCast_mul,zfm,zne n i,zbd]
   have e:(2:Int) ^ (8*i)=256 ^ i:=by rw [Int.pow_mul];rfl
   rw [e,Int.natCast_pow]
   have h0:(0:Int) < 256 ^ i:=Int.pow_pos (by decide)
   rw [show (256:Int) ^ (i+1)=256 ^ i*256 from Int.pow_succ _ _,zv5 n _ h0,Int.add_comm,Int.mul_comm]
   rfl
def ztd (n:Nat):Int:=if n < 9223372036854775808 then n else (n:Int) - 18446744073709551616
def E0:ByteArray:=⟨#[]⟩
def rdT (l:List UInt8):Option (ByteArray × List UInt8):=
 if 4≤l.length∧numW (l.take 4)≤1048576∧numW (l.take 4)≤(l.drop 4).length then some (⟨((l.drop 4).take (numW (l.take 4))).toArray⟩,(l.drop 4).drop (numW (l.take 4))) else none
def rdL (g:List UInt8→Option (Val × List UInt8)):Nat→List UInt8→Option (List Val × List UInt8)
 | 0,l=>some ([],l)
 | n+1,l=>match g l with
   | none=>none
   | some (v,l')=>match rdL g n l' with
     | none=>none
     | some (q,l'')=>some (v::q,l'')
def rdK (g:Option (List UInt8→Option (Val × List UInt8))) (k:Nat) (r:List UInt8):Option (Val × List UInt8):=
 if k=1 then (match r with
  | []=>none
  | b::r'=>if b.toNat≤1 then some (.mk 1 (b.toNat == 1) 0 E0 E0 [],r') else none)
 else if k=2∨k=6∨k=7 then (if 8≤r.length then some (.mk k false (ztd (numW (r.take 8))) E0 E0 [],r.drop 8) else none)
 else if k=3∨k=4∨k=8∨k=9 then (match rdT r with
  | none=>none
  | some (t,r')=>some (.mk k false 0 t E0 [],r'))
 else if k=10 then (match rdT r with
  | none=>none
  | some (t,r')=>match rdT r' with
    | none=>none
    | some (x,r'')=>some (.mk k false 0 t x [],r''))
 else if k=5 then (match g with
  | none=>none
  | some g=>if 4≤r.length∧numW (r.take 4)≤4096 then (match rdL g (numW (r.take 4)) (r.drop 4) with
    | none=>none
    | some (q,r')=>some (.mk 5 false 0 E0 E0 q,r')) else none)
 else some (.mk k false 0 E0 E0 [],r)
def rdV:Nat→List UInt8→Option (Val × List UInt8)
 | _,[]=>none
 | 0,c::r=>rdK none c.toNat r
 | f+1,c::r=>rdK (some (rdV f)) c.toNat r
end Go.Proofs.YteclpnfckjfibaaGreatDoor

/- PV -/
namespace Go.Proofs.YteclpnfckjfibaaGreatDoor
mutual
theorem zcx:(v:Val)→zc1 v v=true
 | .mk k b n t x l=>by
   unfold zc1
   rw [zg4 l]
   simp
theorem zg4:(l:List Val)→zbz l l=true
 | []=>by unfold zbz;rfl
 | v::r=>by
   unfold zbz
   rw [zcx v,zg4 r]
   rfl
end
end Go.Proofs.YteclpnfckjfibaaGreatDoor

/- PW -/
namespace Go.Proofs.YteclpnfckjfibaaGreatDoor
end Go.Proofs.YteclpnfckjfibaaGreatDoor

/- ZA -/
namespace Go.Proofs.YteclpnfckjfibaaGreatDoor
end Go.Proofs.YteclpnfckjfibaaGreatDoor

/- ZB -/
namespace Go.Proofs.YteclpnfckjfibaaGreatDoor
end Go.Proofs.YteclpnfckjfibaaGreatDoor

/- ZC -/
namespace Go.Proofs.YteclpnfckjfibaaGreatDoor
theorem zv6 (t:ByteArray):(n i:Nat)→(r:List UInt8)→n=t.size - i→ByteArray.toList.loop t i r=r.reverse++t.data.toList.drop i
 | 0,i,r,h=>by
   unfold ByteArray.toList.loop
   rw [if_neg (by omega)]
   have:t.data.toList.length≤i:=by rw [Array.length_toList];show t.size≤i;omega
   rw [List.drop_eq_nil_of_le this,List.append_nil]
 | n+1,i,r,h=>by
   have hi:i < t.size:=by omega
   unfold ByteArray.toList.loop
   rw [if_pos hi,zv6 t n (i+1) _ (by omega)]
   have hl:i < t.data.toList.length:=by rw [Array.length_toList];exact hi
   rw [List.drop_eq_getElem_cons hl,List.reverse_cons,List.append_assoc]
   have e:t.get! i=t.data.toList[i]:=by
    obtain ⟨d⟩:=t
    have h2:i < d.size:=hi
    show d[i]! =d.toList[i]
    rw [getElem!_pos d i h2]
    simp
   rw [e]
   rfl
theorem zpi (t:ByteArray):t.toList=t.data.toList:=by
 unfold ByteArray.toList
 rw [zv6 t _ 0 [] rfl]
 simp
end Go.Proofs.YteclpnfckjfibaaGreatDoor
