/- Texts of one kind, one behind the other: each says ahead of itself what it shows. -/
import Derived.Carry
import Derived.Test.YteclpnfckjfibaaGreatDoorCak
import Derived.Lib.SlKeysI
import Derived.Test.YteclpnfckjfibaaGreatDoorCad
import Derived.Test.YteclpnfckjfibaaGreatDoorCah
import Derived.Test.YteclpnfckjfibaaGreatDoorCai
namespace Go.Proofs.YteclpnfckjfibaaGreatDoor
open Go.RowKit
set_option maxHeartbeats 12800000
set_option maxRecDepth 20000
structure IxS (W2:World) (b5 mb:Nat) (A B R:Value) (E:List (List UInt8 × Int)) (L:Value) (lo:List Int) (wr:World):Prop where
 cell:wr.heap[b5]?=some (.cells #[A,B,R,.map (some mb),L] 90)
 grp:zd6 wr W2.heap.size mb E (fun g=>L.ownBlock=some g)
 loose:wr.ownsRow W2.heap.size 3 1 L lo.length (lo.map (Value.int .i64))
 kept:Kept (fun i=>i=b5∨i=mb) W2 wr
def zy4 (W:World) (sh:List (Nat × Nat)) (rows:List (List Val)) (A B R:Value) (e:Ending) (w':World):Prop:=
 ∃ mb L,e=.returned (.agg #[A,B,R,.map (some mb),L])∧IxIn sh rows A B R mb L (Old w') w'∧L.oneCell'=true∧Below W.heap.size W w'
theorem zc1 {w:World} {base:Nat} {V:Value} {zs:List Int} (P:Nat→Prop) (h:w.ownsRow base 3 1 V zs.length (zs.map (Value.int .i64))) (hz:∀ z∈zs,(Lit.int .i64 z).wf=true) (hP:∀ g,V.ownBlock=some g→P g):zag intE w P V zs:=
 zbz (E:=intE) (P:=fun _=>False) h (rowI zs hz) (fun g h=>h.elim) hP
where rowI:(zs:List Int)→(∀ z∈zs,(Lit.int .i64 z).wf=true)→RowE intE w (fun _=>False) (zs.map (Value.int .i64)) zs
 | [],_=>RowE.nil
 | z::l,h=>by
   show RowE intE w _ (Value.int .i64 z::l.map _) (z::l)
   unfold RowE
   exact ⟨[.int .i64 z],_,rfl,⟨rfl,h z (by simp)⟩,rowI l fun y hy=>h y (by simp [hy])⟩
theorem zte (sh:List (Nat × Nat)) (rows:List (List Val)):(∀ e∈evI sh rows,∃ i:Nat,e.2=i∧i < rows.length)∧∀ z∈zbj sh rows,∃ i:Nat,z=i∧i < rows.length:=by
 constructor
 ·intro e he
  obtain ⟨p,hp,h⟩:=List.mem_filterMap.1 he
  have hi:=(List.mem_zipIdx' hp).1
  split at h
  ·cases h;exact ⟨p.2,rfl,hi⟩
  ·cases h
 ·intro z hz
  obtain ⟨p,hp,h⟩:=List.mem_filterMap.1 hz
  have hi:=(List.mem_zipIdx' hp).1
  split at h
  ·cases h
  ·cases h;exact ⟨p.2,rfl,hi⟩
theorem grp_nat (sh:List (Nat × Nat)) (rows:List (List Val)) (x:List UInt8):∀ z∈grp (evI sh rows) x,∃ i:Nat,z=i∧i < rows.length:=by
 intro z hz
 obtain ⟨e,he,rfl⟩:=List.mem_map.1 hz
 exact (zte sh rows).1 e (List.mem_filter.1 he).1
theorem zur {i n:Nat} (h:i < n) (hn:n≤2097152):(Lit.int .i64 (i:Int)).wf=true:=zx9 (by omega) (by omega)
theorem zd6.sliceAt {w:World} {base mb:Nat} {sh:List (Nat × Nat)} {rows:List (List Val)} {Av:Nat→Prop} (h:zd6 w base mb (evI sh rows) Av) (hn:rows.length≤2097152):∃ n f,n≤rows.length∧HMap w Tryz.prog 9 mb n f∧∀ x,zag intE w (Old w) ((f (.string x)).getD (.slice none 0 0)) (grp (evI sh rows) x)∧capK ((f (.string x)).getD (.slice none 0 0)):=by
 obtain ⟨n,f,h1,h2,h3,h4,h5⟩:=h
 refine ⟨n,f,Nat.le_trans h1 (zn0 sh rows).1,h2,fun x=>?_⟩
 have hr:=zpi h3 x
 exact ⟨zc1 _ hr (fun z hz=>by obtain ⟨i,rfl,hi⟩:=grp_nat sh rows x z hz;exact zur hi hn) (fun g e=>(hr.lt g e).2),zda hr⟩
theorem zlu {sh:List (Nat × Nat)} {r:List Val} {v:Val} (hin:∀ p∈sh,p.2 < r.length) (h:v∈zbi sh r):v∈r:=by
 unfold zbi at h
 rw [List.map_map] at h
 obtain ⟨p,hp,rfl⟩:=List.mem_map.1 h
 show atV r p.2∈r
 rw [zhz (hin p hp)]
 exact List.getElem_mem _
theorem zih (sh:List (Nat × Nat)) (rows:List (List Val)) (A B R:Value) (W:World) (hG:Gd W) (hs:ShIn W (Old W) sh A B) (hr:zag rowE W (Old W) R rows) (hin:∀ r∈rows,∀ p∈sh,p.2 < r.length) (hmay:∀ r∈rows,∀ v∈r,mayP v 0=true) (hwt:∀ r∈rows,13*wAll (zbi sh r)≤700000000) (hsn:sh.length≤2097152) (hn:rows.length≤2097152):
 Calls Tryz.prog 75 #[.agg #[A,B],R] W (zy4 W sh rows A B R):=by
 obtain ⟨i0,hi,hz0,hz1,hz2⟩:=info_parts zee
 obtain ⟨pA,kA,pB,kB,rfl,rfl⟩:=hs.slice
 obtain ⟨pR,kR,rfl⟩:=hr.slice
 obtain ⟨W1,hW1⟩:∃ W1,W1=(W.alloc (.cells #[.slice pA sh.length kA,.slice pB sh.length kB] 87)).alloc (.cells #[.slice none 0 0,.slice none 0 0,.slice none 0 0,.map none,.slice none 0 0] 90):=⟨_,rfl⟩
 have b1:Below W.heap.size W W1:=by rw [hW1];exact zdb _ _ _
 have s1:W1.heap.size=W.heap.size+2:=by rw [hW1];simp
 have v2:W1.heap[W.heap.size]?=some (.cells #[.slice pA sh.length kA,.slice pB sh.length kB] 87):=by rw [hW1];exact zap _ (zaf _ _ rfl)
 have v4:W1.heap[W.heap.size+1]?=some (.cells #[.slice none 0 0,.slice none 0 0,.slice none 0 0,.map none,.slice none 0 0] 90):=by rw [hW1];exact zaf _ _ (by simp)
 obtain ⟨n,hln⟩:∃ n,n=rows.length:=⟨_,rfl⟩
 have HW:=Lib.hid hW1
 have HL:=Lib.hid hln
 have HS:=Lib.hid hs
 have HR:=Lib.hid hr
 have HI:=Lib.hid hin
 have HM:=Lib.hid hmay
 have HT:=Lib.hid hwt
 have HG:=Lib.hid hG
 have HV2:=Lib.hid v2
 have HV4:=Lib.hid v4
 rw [← hln] at hn ⊢
 clear hW1 hln hs hr hin hmay hwt hG v4
 have hmm:=@run_makeMap Tryz.prog
 go_enter Tryz.func75,Tryz.ntmps75
 go_upto_region 1 with fail
 rw [← HW.out]
 go_upto_region 2 with (first
  |((with_reducible refine zai (.tmp 2) W.heap.size 87 87 [.slice pA sh.length kA,.slice pB sh.length kB] 2 _ v2 rfl Tryz.underlying87 rfl zme ?_ ?_ ?_ ?_);rfl;rfl;rfl))
 obtain ⟨wX,hwX⟩:∃ wX,wX=(W1.alloc (.map #[] 0)).alloc (.cells #[.slice pA sh.length kA,.slice pB sh.length kB,.slice pR n kR,.map (some (W.heap.size+2)),.slice none 0 0] 90):=⟨_,rfl⟩
 rw [← hwX]
 have bX:Below W1.heap.size W1 wX:=by rw [hwX];exact zdb _ _ _
 have sX:W1.heap.size+2≤wX.heap.size:=by rw [hwX];simp
 have hmX:wX.heap[W.heap.size+2]?=some (.map #[] 0):=by rw [hwX];exact zap _ (zaf _ _ s1)
 have uX:wX.heap[W.heap.size+2+1]?=some (.cells #[.slice pA sh.length kA,.slice pB sh.length kB,.slice pR n kR,.map (some (W.heap.size+2)),.slice none 0 0] 90):=by rw [hwX];exact zaf _ _ (by simp [s1])
 have st:Hid (IxS wX (W.heap.size+2+1) (W.heap.size+2) (.slice pA sh.length kA) (.slice pB sh.length kB) (.slice pR n kR) [] (.slice none 0 0) [] wX):=Lib.hid ⟨uX,zd6.start hmX,World.ownsRow_nil _ _ _ _,Kept.refl _ _⟩
 clear hwX
 have HB1:=Lib.hid (zab b1 bX b1.size)
 have HBX:=Lib.hid bX
 clear uX bX hmX v2 b1 hmm
 go_wp2_with fail
 go_loopg [16] n (fun gg s16 wr=>∃ (j:Nat) (L:Value),j+gg=n∧s16=.int .i64 j∧Hid (IxS wX (W.heap.size+2+1) (W.heap.size+2) (.slice pA sh.length kA) (.slice pB sh.length kB) (.slice pR n kR) (evI sh (rows.take j)) L (zbj sh (rows.take j)) wr))
 case atStart=>exact ⟨0,_,by omega,rfl,by simpa [evI,zbj] using st⟩
 case round=>
  clear st
  obtain ⟨j,L,hjg,rfl,HX⟩:=hrel
  have hbel:Below W.heap.size W wr:=HB1.out.trans (HX.out.kept.low (B:=W.heap.size) (by omega) (fun i h=>by omega))
  have hblk:∀ i,i < W1.heap.size→wr.heap[i]?=W1.heap[i]?:=fun i h=>(HX.out.kept.block i (by omega) (by omega)).trans (HBX.out.block i h)
  by_cases hj:(j:Int) < n
  ·have hj1:j < rows.length:=by have:=HL.out;omega
   obtain ⟨gR,oR,kR',cR,eR,_,hrl,hra⟩:=(HR.out.stays (zae hbel)).at_ j hj1
   injection eR with eR1 eR2 eR3
   subst eR1
   obtain ⟨u,rfl⟩:∃ u,cR=[u]:=by obtain ⟨v,rfl,_⟩:=id hrl;exact ⟨v,rfl⟩
   have c0:wr.cell? ⟨gR,oR+j,none⟩=some u:=by
    have:=hra 0 _ rfl
    simpa [rowE] using this
   obtain ⟨v,ev,hrs,_,hrn⟩:=hrl
   cases ev
   have hrm:=List.getElem_mem hj1
   obtain ⟨r,hrj⟩:∃ r,r=rows[j]:=⟨_,rfl⟩
   rw [← hrj] at hrs hrm hrn
   obtain ⟨pu,ku,rfl⟩:=hrs.slice
   have d2:=zad ((hblk _ (by omega)).trans HV2.out) 1 rfl
   have hsb:zag intE wr (Old wr) (.slice pB sh.length kB) ((sh.map (·.2)).map fun i:Nat=>(i:Int)):=by
    have:=(HS.out.stays (zae hbel)).b
    rwa [List.map_map]
   have HC:=Lib.hid (zs5 r (sh.map (·.2)) (.slice pu r.length ku) (.slice pB sh.length kB) wr hrs hsb (fun i hi=>by
    obtain ⟨p,hp,rfl⟩:=List.mem_map.1 hi
    exact HI.out r hrm p hp) (by simpa using hsn))
   have hgw:=HG.out.below hbel
   have HGW:=Lib.hid hgw
   have HRJ:=Lib.hid (And.intro hrj hrm)
   clear hra eR2 eR3 hrs hsb hrj hrm hrn hgw
   go_upto_region 6 with (first
    |(go_at_call 125;(with_reducible refine HC.out.mono ?_);rintro e w3 ⟨V,xs,rfl,hown,hrow,hb3⟩))
   have hown2:=hown
   rw [List.length_map,List.length_map] at hown2
   obtain ⟨pV,kV,rfl⟩:=zau hown2
   have hsl:zag valE w3 (Old w3) (.slice pV sh.length kV) (zbi sh r):=zbz hown hrow (fun g hg=>Nat.lt_of_lt_of_le hg hb3.size) (fun g e=>(hown.lt g e).2)
   have hcl:(zbi sh r).length=sh.length:=by simp [zbi]
   have HE:=Lib.hid (znp isB (zbi sh r) _ w3 hsl (by rw [hcl];exact hsn) (fun x _ W' c _ hr=>(zd0 x W' c (Old W') hr).mono (by rintro e w' ⟨rfl,h⟩;exact ⟨rfl,h.is⟩)))
   obtain ⟨q,hq⟩:∃ q,q=(zbi sh r).all isB:=⟨_,rfl⟩
   rw [← hq] at HE
   have HSL:=Lib.hid hsl
   have HQ:=Lib.hid hq
   clear hown hown2 hrow hsl hq c0 d2
   cases q with
   | false=>
     have hev:=evI_no (sh:=sh) hj1 (by rw [← HRJ.out.1,← HQ.out])
     have HEV:=Lib.hid hev
     go_upto_region 7 with (first
      |(go_at_call 55;(with_reducible refine HE.out.mono ?_);rintro e w4 ⟨rfl,hb4⟩))
     have b4:=zab hb3 hb4 hb3.size
     obtain ⟨u5,hgrp,hlo,hk⟩:=HX.out
     obtain ⟨pL,kL,rfl⟩:=zau hlo
     have hlon:=(zn0 sh (rows.take j)).2
     rw [List.length_take] at hlon
     have u54:=(b4.block _ (zaa u5)).trans u5
     have d3:=zad u54 3 rfl
     have d4:=zad u54 4 rfl
     have ho4:=zbh hlo b4
     have k4:=hk.below b4
     have g4:zd6 w4 wX.heap.size (W.heap.size+2) (evI sh (rows.take j)) (fun g=>(Value.slice pL (zbj sh (rows.take j)).length kL).ownBlock=some g):=hgrp.keep (fun i _ h=>b4.block i h) (fun i _ h=>h)
     have hLlt:=ho4.lt
     have G4:=Lib.hid g4
     have K4:=Lib.hid k4
     have hsz4:=k4.size
     clear hgrp hlo hk u5 hb3 hb4 b4 g4 k4 hev
     generalize evI sh (rows.take j)=E at*
     generalize zbj sh (rows.take j)=lo at*
     go_wp2_with (first
      |(at_builtin;refine wpList_append_own_at _ rfl _ _ 26 rfl wX.heap.size 3 i0 (.int .i64 0) 1 8 Tryz.underlying26 hi hz0 hz1 hz2 rfl (by decide) _ _ _ rfl (ho4.alloc _) ⟨w4.heap.size,0,none⟩ 1 1 [.int .i64 (j:Int)] rfl rfl (zb1 _ _ _) (by simp [Value.oneCell']) (by unfold maxLen;omega) (by omega) (by simp;omega) ?_
        intro v' w5 ho5 hg5 _ hl5
        obtain ⟨p5,k5,rfl⟩:=zau ho5
        have blk5:∀ i,i < w4.heap.size→(Value.slice pL lo.length kL).ownBlock≠some i→w5.heap[i]?=w4.heap[i]?:=fun i h1 h2=>(hg5.block i (by simp;omega) (fun e=>h2 e.symm)).trans (Below.heap_alloc _ _ _ h1)
        have u55:=(blk5 _ (zaa u54) (fun e=>by have:=(hLlt _ e).1;omega)).trans u54
        have e4:=zad u55 4 rfl
        have f4:=zdt u55 4))
     have HN:Hid (IxS wX (W.heap.size+2+1) (W.heap.size+2) (.slice pA sh.length kA) (.slice pB sh.length kB) (.slice (some ⟨gR,oR,none⟩) n kR) (evI sh (rows.take (j+1))) (.slice p5 (lo.length+1) k5) (zbj sh (rows.take (j+1))) (w5.setCell ⟨W.heap.size+2+1,4,none⟩ (.slice p5 (lo.length+1) k5))):=Lib.hid (by
      rw [HEV.out.1,HEV.out.2]
      have hset:∀ i,i≠W.heap.size+2+1→(w5.setCell ⟨W.heap.size+2+1,4,none⟩ (.slice p5 (lo.length+1) k5)).heap[i]?=w5.heap[i]?:=fun i h=>Below.heap_setCell _ _ _ _ h
      refine ⟨zb8 u55 4 _,?_,?_,?_⟩
      ·refine G4.out.keep (fun i h hlt=>(hset i (by omega)).trans (blk5 i hlt ?_)) (fun i hlt h e=>?_)
       ·rcases h with rfl | h
        ·intro e
         have:=(hLlt _ e).1
         omega
        ·exact h.2
       ·rcases hl5 with q | q
        ·exact h (q.symm.trans e)
        ·have h2:(Value.slice p5 (lo.length+1) k5).ownBlock=some i:=e
         rw [q] at h2
         have h3:=Option.some.inj h2
         simp at h3
         omega
      ·have:=zbx ho5 (w':=w5.setCell ⟨W.heap.size+2+1,4,none⟩ (.slice p5 (lo.length+1) k5)) (fun b e=>hset b (by have:=(ho5.lt b e).1;omega))
       simpa using this
      ·exact ((K4.out.alloc _).grown hg5 (fun i e h=>absurd (hLlt i e).1 (by omega))).set (p:=⟨W.heap.size+2+1,4,none⟩) (.inl rfl) _)
     generalize w5.setCell ⟨W.heap.size+2+1,4,none⟩ (.slice p5 (lo.length+1) k5)=w6 at*
     clear u55 e4 f4 blk5 ho5 hg5 hl5 ho4 u54 d3 d4 G4 K4
     go_roundg (gk - 1)
     case measure=>omega
     case rel=>exact ⟨j+1,_,by omega,by go_num,HN⟩
   | true=>
     have hev:=evI_yes (sh:=sh) hj1 (by rw [← HRJ.out.1,← HQ.out])
     rw [← HRJ.out.1] at hev
     have HEV:=Lib.hid hev
     clear hev
     obtain ⟨ek,hek⟩:∃ ek,ek=zar (zbi sh r):=⟨_,rfl⟩
     have hwr:=HT.out r HRJ.out.2
     have HKL:Hid (ek.length≤900000000):=Lib.hid (by
      rw [hek]
      have:=zdu (zbi sh r)
      omega)
     have HEN:Hid (∀ w',Below w3.heap.size w3 w'→Calls Tryz.prog 69 #[.slice pV sh.length kV] w' fun e w2=>e=.returned (.string (bsB ek))∧Below w'.heap.size w' w2):=Lib.hid fun w' h=>by
      rw [hek]
      exact zls (zbi sh r) _ w' (HGW.out.below (zab hb3 h hb3.size)) (HSL.out.stays (zae h)) (fun v hv=>HM.out r HRJ.out.2 v (zlu (HI.out r HRJ.out.2) hv)) hwr (by rw [hcl];exact hsn)
     rw [← hek] at HEV
     clear hek hwr
     go_upto_region 9 with (first
      |(go_at_call 55;(with_reducible refine HE.out.mono ?_);rintro e w4 ⟨rfl,hb4⟩)
      |(go_at_call 69;(with_reducible refine (HEN.out _ hb4).mono ?_);rintro e w5 ⟨rfl,hb5⟩))
     have b4:=zab (zab hb3 hb4 hb3.size) hb5 (zab hb3 hb4 hb3.size).size
     obtain ⟨u5,hgrp,hlo,hk⟩:=HX.out
     obtain ⟨pL,kL,rfl⟩:=zau hlo
     have hen:=(zn0 sh (rows.take j)).1
     rw [List.length_take] at hen
     replace u5:=(b4.block _ (zaa u5)).trans u5
     replace hlo:=zbh hlo b4
     replace hk:=hk.below b4
     replace hgrp:zd6 w5 wX.heap.size (W.heap.size+2) (evI sh (rows.take j)) (fun g=>(Value.slice pL (zbj sh (rows.take j)).length kL).ownBlock=some g):=hgrp.keep (fun i _ h=>b4.block i h) (fun i _ h=>h)
     generalize hE0:evI sh (rows.take j)=E at*
     generalize hlo0:zbj sh (rows.take j)=lo at*
     obtain ⟨n',f,h1,hm,h3,h4,h5⟩:=hgrp
     have hrow:=zpi h3 ek
     have hgl:=zy2 E ek
     have hkey:=keyB HKL.out
     have hLlt:=hlo.lt
     have H3:=Lib.hid h3
     have H4:=Lib.hid h4
     have H5:=Lib.hid h5
     have hAvR:∀ g,((f (.string ek)).getD (.slice none 0 0)).ownBlock=some g→(Value.slice pL lo.length kL).ownBlock≠some g:=fun g e=>by
      cases q:f (.string ek) with
      | none=>rw [q] at e;cases e
      | some v=>rw [q] at e;exact h5 ek v g q e
     have hRlt:=hrow.lt
     clear hb3 hb4 hb5 b4 HE HEN HX h3 h4 h5 hE0 hlo0
     refine ziw (S:=fun W'=>W'.heap[W.heap.size+2+1]?=some (.cells #[.slice pA sh.length kA,.slice pB sh.length kB,.slice (some ⟨gR,oR,none⟩) n kR,.map (some (W.heap.size+2)),.slice pL lo.length kL] 90)∧HMap W' Tryz.prog 9 (W.heap.size+2) n' f) (fun i=>i == 10) (by kernel_rfl) ⟨u5,hm.keep rfl⟩ (fun hh=>?_)
     clear hh
     replace u5:w5.drew.heap[W.heap.size+2+1]?=some (.cells #[.slice pA sh.length kA,.slice pB sh.length kB,.slice (some ⟨gR,oR,none⟩) n kR,.map (some (W.heap.size+2)),.slice pL lo.length kL] 90):=u5
     replace hm:HMap w5.drew Tryz.prog 9 (W.heap.size+2) n' f:=hm.keep rfl
     replace hk:=hk.drew
     replace hlo:=hlo.drew
     replace hrow:=hrow.drew
     have H3D:Hid (∀ x,(f (.string x)=none∧grp E x=[])∨∃ v,f (.string x)=some v∧w5.drew.ownsRow wX.heap.size 3 1 v (grp E x).length ((grp E x).map (Value.int .i64))):=Lib.hid fun x=>(H3.out x).imp id fun ⟨v,e,ho⟩=>⟨v,e,ho.drew⟩
     replace hLlt:∀ j_1,(Value.slice pL lo.length kL).ownBlock=some j_1→wX.heap.size≤j_1∧j_1 < w5.drew.heap.size:=hLlt
     replace hRlt:∀ j_1,((f (.string ek)).getD (.slice none 0 0)).ownBlock=some j_1→wX.heap.size≤j_1∧j_1 < w5.drew.heap.size:=hRlt
     clear H3
     generalize w5.drew=wD at*
     refine zbp (i:=0) (v:=.pointer (some ⟨W.heap.size+2+1,3,none⟩)) rfl (by kernel_rfl) (by kernel_rfl) (by kernel_rfl) rfl (by kernel_rfl) (by kernel_rfl) (fun _ _ _ h=>h) (Or.inl ⟨by rfl,fun W _=>by go_simp⟩) (⟨u5,hm⟩) ?_
     try simp only [putS]
     refine zbp (i:=2) (v:=.string (bsB ek)) rfl (by kernel_rfl) (by kernel_rfl) (by kernel_rfl) rfl (by kernel_rfl) (by kernel_rfl) (fun _ _ _ h=>h) (Or.inl ⟨by rfl,fun W _=>by go_simp⟩) (⟨u5,hm⟩) ?_
     try simp only [putS]
     refine zbp (i:=3) (v:=.pointer (some ⟨W.heap.size+2+1,3,none⟩)) rfl (by kernel_rfl) (by kernel_rfl) (by kernel_rfl) rfl (by kernel_rfl) (by kernel_rfl) (fun _ _ _ h=>h) (Or.inl ⟨by rfl,fun W _=>by go_simp⟩) (⟨u5,hm⟩) ?_
     try simp only [putS]
     refine zbp (i:=5) (v:=.string (bsB ek)) rfl (by kernel_rfl) (by kernel_rfl) (by kernel_rfl) rfl (by kernel_rfl) (by kernel_rfl) (fun _ _ _ h=>h) (Or.inl ⟨by rfl,fun W _=>by go_simp⟩) (⟨u5,hm⟩) ?_
     try simp only [putS]
     refine zbp (i:=7) (v:=.int .i64 (j:Int)) rfl (by kernel_rfl) (by kernel_rfl) (by kernel_rfl) rfl (by kernel_rfl) (by kernel_rfl) (fun _ _ _ h=>h) (Or.inl ⟨by rfl,fun W _=>by go_simp⟩) (⟨u5,hm⟩) ?_
     try simp only [putS]
     refine zbp (i:=1) (v:=.map (some (W.heap.size+2))) rfl (by kernel_rfl) (by kernel_rfl) (by kernel_rfl) rfl (by kernel_rfl) (by kernel_rfl) (fun _ _ _ h=>h) (Or.inl ⟨by rfl,fun W' h=>by have c0:=zad h.1 3 rfl;go_simp⟩) (⟨u5,hm⟩) ?_
     try simp only [putS]
     refine zbp (i:=4) (v:=.map (some (W.heap.size+2))) rfl (by kernel_rfl) (by kernel_rfl) (by kernel_rfl) rfl (by kernel_rfl) (by kernel_rfl) (fun _ _ _ h=>h) (Or.inl ⟨by rfl,fun W' h=>by have c0:=zad h.1 3 rfl;go_simp⟩) (⟨u5,hm⟩) ?_
     try simp only [putS]
     refine zbp (i:=6) (v:=(f (.string ek)).getD (.slice none 0 0)) rfl (by kernel_rfl) (by kernel_rfl) (by kernel_rfl) rfl (by kernel_rfl) (by kernel_rfl) (fun _ _ _ h=>h) (zqk (by rfl) (.tmp 40) (.tmp 41) 88 rfl 9 26 (Go.Maps.string_keyed Tryz.underlying9) Tryz.underlying88 Tryz.zeroValue26 (W.heap.size+2) n' rfl (fun W h=>h.2) (.string (bsB ek)) (.string ek) rfl hkey trivial) (⟨u5,hm⟩) ?_
     try simp only [putS]
     refine za3 (rs:=[8]) (by kernel_rfl) (by simp) ?_
     refine zas.cons rfl (fun K hK=>?_) zas.nil
     try rw [if_pos (by rfl)]
     go_simp
     replace u5:=zap (.cells #[.int .i64 (j:Int)] 3) u5
     replace hm:HMap (wD.alloc (.cells #[.int .i64 (j:Int)] 3)) Tryz.prog 9 (W.heap.size+2) n' f:=hm.keep (Below.heap_alloc _ _ _ hm.lt)
     refine hK.out _ _ (⟨u5,hm⟩) (fun _=>?_)
     clear hK K
     try simp only [putS]
     refine za3 (rs:=[9]) (by kernel_rfl) (by simp) ?_
     refine zas.cons rfl (fun K hK=>?_) zas.nil
     try rw [if_pos (by rfl)]
     refine zbv (P:=Tryz.prog) (w:=wD.alloc (.cells #[.int .i64 (j:Int)] 3)) (.tmp 42) (.tmp 44) 26 rfl wX.heap.size 3 i0 (.int .i64 0) 1 8 Tryz.underlying26 hi hz0 hz1 hz2 rfl (by decide) _ _ _ rfl (hrow.alloc (.cells #[.int .i64 (j:Int)] 3)) ⟨wD.heap.size,0,none⟩ 1 1 [.int .i64 (j:Int)] rfl rfl (zb1 _ _ _) (by simp [Value.oneCell']) (by unfold maxLen;omega) (by omega) (by have:=hk.size;simp;omega) ?_
     intro v9 w9 ho9 hg9 _ hl9
     replace u5:=(hg9.block _ (zaa u5) (fun e=>by have:=(hRlt _ e.symm).1;omega)).trans u5
     replace hm:=hm.keep (hg9.block _ hm.lt (fun e=>by have:=(hRlt _ e.symm).1;omega))
     refine hK.out _ _ (⟨u5,hm⟩) (fun _=>?_)
     clear hK K
     try simp only [putS]
     refine za3 (rs:=[10]) (by kernel_rfl) (by simp) ?_
     refine zas.late rfl (by kernel_rfl) (fun K hK=>?_) zas.nil
     try rw [if_pos (by rfl)]
     refine zoo (.tmp 37) (.tmp 38) (.tmp 45) 88 rfl 9 26 (Go.Maps.string_keyed Tryz.underlying9) Tryz.underlying88 (W.heap.size+2) n' rfl hm (by unfold maxLen;omega) (.string (bsB ek)) v9 (.string ek) rfl rfl hkey trivial ?_
     intro w10 hm10 hg10
     refine hK.out _ _ ?_
     clear hK K
     try simp only [putS]
     refine zeg (by kernel_rfl) ?_ _
     have HN:Hid (IxS wX (W.heap.size+2+1) (W.heap.size+2) (.slice pA sh.length kA) (.slice pB sh.length kB) (.slice (some ⟨gR,oR,none⟩) n kR) (evI sh (rows.take (j+1))) (.slice pL lo.length kL) (zbj sh (rows.take (j+1))) w10):=Lib.hid (by
      rw [HEV.out.1,HEV.out.2]
      have hza:=zwe (K:=Lit.string) (w:=wD) (base:=wX.heap.size) (b:=W.heap.size+2) (E:=E) (x:=ek) (i:=(j:Int)) zlt (by omega) H3D.out H4.out (za5 wD (.cells #[.int .i64 (j:Int)] 3)) ho9 hg9 hl9 hg10
      refine ⟨(hg10.block _ (zaa u5) (fun e=>by have:=Option.some.inj e;omega)).trans u5,⟨n'+1,_,by simp;omega,hm10,hza.1,hza.2,fun x v g ex eg eL=>?_⟩,?_,?_⟩
      ·by_cases q:x=ek
       ·subst q
        rw [ze9] at ex
        cases ex
        rcases hl9 with r | r
        ·exact hAvR g (r.symm.trans eg) eL
        ·rw [r] at eg
         have h1:=Option.some.inj eg
         have h2:=(hLlt g eL).2
         simp at h1
         omega
       ·rw [zdw (fun e=>q (zlt _ _ e))] at ex
        exact H5.out x v g ex eg eL
      ·exact zcz (zcz (hlo.alloc (.cells #[.int .i64 (j:Int)] 3)) hg9 (fun b e q=>hAvR b q e)) hg10 (fun b e q=>by have:=(hLlt b e).1;have:=Option.some.inj q;omega)
      ·exact ((hk.alloc (.cells #[.int .i64 (j:Int)] 3)).grown hg9 (fun i e h=>absurd (hRlt i e).1 (by omega))).grown hg10 (fun i e _=>.inr (Option.some.inj e).symm))
     clear u5 hm hm10 hg10 ho9 hg9 hl9 hk hlo hrow hAvR hLlt hRlt
     go_wp2_with fail
     go_roundg (gk - 1)
     case measure=>omega
     case rel=>exact ⟨j+1,_,by omega,by go_num,HN⟩
  ·have e:rows.take j=rows:=by rw [List.take_of_length_le];have:=HL.out;omega
   obtain ⟨u5,hgrp,hlo,hk⟩:=HX.out
   rw [e] at hgrp hlo
   obtain ⟨pL,kL,rfl⟩:=zau hlo
   have v5:wr.heap[W.heap.size+1]?=some (.cells #[.slice none 0 0,.slice none 0 0,.slice none 0 0,.map none,.slice none 0 0] 90):=(hblk _ (by omega)).trans HV4.out
   have hzk:=hk.size
   have HGR:=Lib.hid hgrp
   have HLO:=Lib.hid hlo
   have HBL:=Lib.hid hbel
   clear hgrp hlo hk hbel e HX
   go_wp2_with (first
    |((with_reducible refine zai (.tmp 5) (W.heap.size+2+1) 90 90 [.slice pA sh.length kA,.slice pB sh.length kB,.slice pR n kR,.map (some (W.heap.size+2)),.slice pL (zbj sh rows).length kL] 5 _ u5 rfl Tryz.underlying90 rfl zh2 ?_ ?_ ?_ ?_);rfl;rfl;rfl)
    |((with_reducible refine za0 (.tmp 4) (.tmp 47) (W.heap.size+1) 90 90 _ [.slice pA sh.length kA,.slice pB sh.length kB,.slice pR n kR,.map (some (W.heap.size+2)),.slice pL (zbj sh rows).length kL] 5 v5 rfl ?_ ?_ ?_ ?_ zh2 rfl (zky rfl rfl rfl rfl rfl) ?_);rfl;rfl;rfl;rfl;intro wY oY uY))
   have bY:=zam HBL.out oY (Nat.le_succ _) HBL.out.size
   have hnr:rows.length≤2097152:=by have:=HL.out;omega
   obtain ⟨n',f,g1,g2,g3⟩:=zd6.sliceAt (HGR.out.keep (w':=wY) (Av':=fun g=>(Value.slice pL (zbj sh rows).length kL).ownBlock=some g) (fun i h hlt=>oY.block i hlt (by rcases h with rfl | h <;> omega)) (fun i _ h=>h)) hnr
   have hlo2:=zbx HLO.out (w':=wY) (fun g e=>oY.block g (HLO.out.lt g e).2 (by have:=(HLO.out.lt g e).1;omega))
   refine bodyPost_ret (results_cell_row (p:=4) (ty:=90) Tryz.results75 _ _ (W.heap.size+1) 90 _ (0,0) _ rfl uY Tryz.underlying90 rfl zh2) rfl
    ⟨W.heap.size+2,_,rfl,⟨HS.out.stays (zae bY),by rw [HL.out];exact HR.out.stays (zae bY),⟨g2.lt,n',f,g1,g2,g3⟩,zc1 (Old wY) hlo2 (fun z hz=>by obtain ⟨i,rfl,hi⟩:=(zte sh rows).2 z hz;exact zur hi hnr) (fun g e=>(hlo2.lt g e).2),zda hlo2⟩,rfl,bY⟩
theorem zwf (v:Value) (zs:List Int) (base:Nat) (w:World) (h:w.ownsRow base 3 1 v zs.length (zs.map (Value.int .i64))) (hn:zs.length≤4194304):
 Calls Tryz.prog 178 #[v] w fun e w'=>e=.returned (.tuple #[])∧w'.ownsRow base 3 1 v zs.length ((zs.mergeSort leI).map (Value.int .i64))∧w.grownBy w' v.ownBlock:=by
 rcases h.2 with ⟨rfl,h0⟩ | ⟨g,cap,cur,rfl,hb,hg,h1,h2,h3,h4⟩
 ·obtain rfl:=List.length_eq_zero_iff.1 h0
  refine (AnyM.slices_Sort_int_none Tryz.sortI none 0 w).mono ?_
  rintro e w' ⟨rfl,rfl⟩
  exact ⟨rfl,by simpa using h,zo8 _ _⟩
 ·by_cases h0:zs=[]
  ·subst h0
   refine (AnyM.slices_Sort_int_none Tryz.sortI (some ⟨g,0,none⟩) cap w).mono ?_
   rintro e w' ⟨rfl,rfl⟩
   exact ⟨rfl,by simpa using h,zo8 _ _⟩
  ·have hH:Go.Sort.Holds encZ w g 0 zs.toArray:=holds_of_block_i hg (by simpa using h4)
   refine (AnyM.slices_Sort_int Tryz.sortI g 0 cap zs w hH (zaa hg) (by omega)).mono ?_
   rintro e w' ⟨rfl,n,os,rfl⟩
   refine ⟨rfl,?_,grownBy_sorted_i _⟩
   exact ownsRow_sorted_i (ss:=zs) (by simp) hb hg h1 h2 h3
theorem leI_tr:∀ a b c:Int,leI a b=true→leI b c=true→leI a c=true:=fun a b c h1 h2=>by simp only [leI,decide_eq_true_eq] at *;omega
theorem leI_to:∀ a b:Int,(leI a b || leI b a)=true:=fun a b=>by simp only [leI,Bool.or_eq_true,decide_eq_true_eq];omega
theorem leI_an:∀ a b:Int,leI a b=true→leI b a=true→a=b:=fun a b h1 h2=>by simp only [leI,decide_eq_true_eq] at *;omega
theorem zeb {w:World} {g:Nat} {c:Array Value} {t:TypeId} (h:w.heap[g]?=some (.cells c t)) (o:Nat) (xs:List Value) (hx:∀ j u,xs[j]?=some u→c[o+j]?=some u):w.rangeAt g o xs:=fun j u hu=>zad h (o+j) (hx j u hu)
theorem zag.rowAt {w:World} {P:Nat→Prop} {p:Option Addr} {n cap:Nat} {rows:List (List Val)} (h:zag rowE w P (.slice p n cap) rows) (i:Nat) (hi:i < rows.length):∃ g off u,p=some ⟨g,off,none⟩∧n=rows.length∧w.cell? ⟨g,off+i,none⟩=some u∧zag valE w P u rows[i]∧capK u∧rows[i].length≤2097152:=by
 obtain ⟨g,off,cap',c,e,_,hr,ha⟩:=h.at_ i hi
 injection e with e1 e2 e3
 obtain ⟨v,rfl,hs,hc,hl⟩:=hr
 refine ⟨g,off,v,e1,e2,?_,hs,hc,hl⟩
 have:=ha 0 _ rfl
 simpa [rowE] using this
structure NumS (gi gr:Nat) (A B R M L u:Value) (gR oR i:Nat) (v:Value) (W:World):Prop where
 ix:W.heap[gi]?=some (.cells #[A,B,R,M,L] 90)
 row:W.cell? ⟨gr,0,none⟩=some u
 at_:W.cell? ⟨gR,oR+i,none⟩=some v
theorem zy5 (sh:List (Nat × Nat)) (rows:List (List Val)) (A B R M L u:Value) (r:List Val) (gi gr i:Nat) (W:World) (hgi:W.heap[gi]?=some (.cells #[A,B,R,M,L] 90)) (hgr:W.heap[gr]?=some (.cells #[u] 43)) (hs:ShIn W (Old W) sh A B) (hR:zag rowE W (Old W) R rows) (hu:zag valE W (Old W) u r)
 (hi:i < rows.length) (hin:∀ p∈sh,p.1 < r.length∧p.2 < rows[i].length) (hsn:sh.length≤2097152) (hrn:r.length≤2097152):
 Calls Tryz.prog 176 #[.int .i64 (i:Nat),.pointer (some ⟨gi,0,none⟩),.pointer (some ⟨gr,0,none⟩)] W fun e w'=>e=.returned (.bool (fitB sh r rows[i]))∧Below W.heap.size W w':=by
 obtain ⟨pA,kA,pB,kB,rfl,rfl⟩:=hs.slice
 obtain ⟨pR,kR,rfl⟩:=hR.slice
 obtain ⟨pu,ku,rfl⟩:=hu.slice
 obtain ⟨gR,oR,v,rfl,_,ci,hv,_,hvn⟩:=hR.rowAt i hi
 obtain ⟨pv,kv,rfl⟩:=hv.slice
 have hlt:(i:Int) < rows.length:=by omega
 have HF:Hid (∀ w',Below W.heap.size W w'→Calls Tryz.prog 86 #[.agg #[.slice pA sh.length kA,.slice pB sh.length kB],.slice pu r.length ku,.slice pv rows[i].length kv] w' fun e w2=>e=.returned (.bool (fitB sh r rows[i]))∧Below w'.heap.size w' w2):=Lib.hid fun w' h=>
  fitAt sh _ _ _ _ r rows[i] w' (hs.stays (zae h)) (hu.stays (zae h)) (hv.stays (zae h)) hin hsn hrn hvn
 obtain ⟨q,hq⟩:∃ q,q=fitB sh r rows[i]:=⟨_,rfl⟩
 rw [← hq] at HF ⊢
 have hst:NumS gi gr (.slice pA sh.length kA) (.slice pB sh.length kB) (.slice (some ⟨gR,oR,none⟩) rows.length kR) M L (.slice pu r.length ku) gR oR i (.slice pv rows[i].length kv) W:=⟨hgi,zad hgr 0 rfl,ci⟩
 clear hq hs hR hu hv hgi hgr ci hin
 generalize rows[i].length=rl at*
 go_enter Tryz.func176,Tryz.ntmps176
 go_upto_region 1 with fail
 refine wp_region_held_drew (S:=NumS gi gr (.slice pA sh.length kA) (.slice pB sh.length kB) (.slice (some ⟨gR,oR,none⟩) rows.length kR) M L (.slice pu r.length ku) gR oR i (.slice pv rl kv)) (by kernel_rfl) ⟨hst.ix,hst.row,hst.at_⟩ (fun hh=>?_)
 have bq:Below W.heap.size W W.drew:=(Below.refl _ _).drew
 clear hst
 generalize W.drew=wD at*
 refine tg (i:=0) (.pointer (some ⟨gi,0,none⟩)) rfl (hh) ?_
 refine tk (i:=2) (v:=.slice pu r.length ku) rfl (Or.inl ⟨by rfl,fun W' h=>by have c0:=h.row;go_simp⟩) (hh) ?_
 refine tg (i:=3) (.pointer (some ⟨gi,2,none⟩)) rfl (hh) ?_
 refine tg (i:=5) (.int .i64 (i:Int)) rfl (hh) ?_
 refine tk (i:=1) (v:=.agg #[.slice pA sh.length kA,.slice pB sh.length kB]) rfl (yieldsIf_load_mid (by rfl) 87 (.tmp 5) rfl gi 0 rfl [.slice pA sh.length kA,.slice pB sh.length kB] _ (fun W h=>zeb h.ix 0 _ (fun j u hu=>by match j,hu with | 0,e=>exact e | 1,e=>exact e | j+2,e=>simp at e)) Tryz.underlying87 rfl zme) (hh) ?_
 refine tk (i:=4) (v:=.slice (some ⟨gR,oR,none⟩) rows.length kR) rfl (Or.inl ⟨by rfl,fun W' h=>by have c0:=zad h.ix 2 rfl;go_simp⟩) (hh) ?_
 refine tg (i:=6) (.pointer (some ⟨gR,oR+i,none⟩)) rfl (hh) ?_
 refine tk (i:=7) (v:=.slice pv rl kv) rfl (Or.inl ⟨by rfl,fun W' h=>by have c0:=h.at_;go_simp⟩) (hh) ?_
 refine tr 8 rfl (fun K hK=>?_)
 rw [if_pos (by rfl)]
 go_simp
 refine (HF.out _ bq).mono ?_
 rintro e0 w3 ⟨rfl,hb3⟩
 have hh3:NumS gi gr (.slice pA sh.length kA) (.slice pB sh.length kB) (.slice (some ⟨gR,oR,none⟩) rows.length kR) M L (.slice pu r.length ku) gR oR i (.slice pv rl kv) w3:=⟨(hb3.block _ (zaa hh.ix)).trans hh.ix,zav hh.row hb3,zav hh.at_ hb3⟩
 replace bq:=zab bq hb3 bq.size
 refine hK.out _ _ (hh3) (fun _=>?_)
 clear hK K
 try simp only [putS]
 refine tg (i:=9) (.bool q) rfl (hh3) ?_
 refine wpAnyH_done (by kernel_rfl) ?_ _
 go_wp2_with fail
 go_ret
 exact ⟨rfl,bq⟩
def zix (rows:List (List Val)) (z:Int):List Val:=rows.getD z.toNat []
def zy6 (sh:List (Nat × Nat)) (rows:List (List Val)) (r:List Val) (ek:List UInt8):List Int:=
 if (zbj sh rows).filter (fun z=>fitB sh r (zix rows z))=[] then grp (evI sh rows) ek else (grp (evI sh rows) ek++(zbj sh rows).filter (fun z=>fitB sh r (zix rows z))).mergeSort leI
theorem zmh {w:World} {P:Nat→Prop} {base:Nat} {V:Value} {zs:List Int} {xs:List Value} (h:w.ownsRow base 3 1 V zs.length xs) (hr:RowE intE w P xs zs):w.ownsRow base 3 1 V zs.length (zs.map (Value.int .i64)):=by
 rw [ints_cells zs xs hr] at h
 exact h
where ints_cells:(zs:List Int)→(xs:List Value)→RowE intE w P xs zs→xs=zs.map (Value.int .i64)
 | [],xs,h=>by unfold RowE at h;exact h
 | z::l,xs,h=>by
   unfold RowE at h
   obtain ⟨c,ys,rfl,⟨rfl,_⟩,hr⟩:=h
   rw [ints_cells l ys hr]
   rfl
theorem zql {w:World} {P:Nat→Prop}:(zs:List Int)→(xs:List Value)→RowE intE w P xs zs→∀ z∈zs,(Lit.int .i64 z).wf=true
 | [],_,_,z,h=>by cases h
 | y::l,xs,h,z,hz=>by
   unfold RowE at h
   obtain ⟨c,ys,rfl,⟨rfl,hw⟩,hr⟩:=h
   rcases List.mem_cons.1 hz with rfl | hz
   ·exact hw
   ·exact zql l ys hr z hz
theorem zy7 (sh:List (Nat × Nat)) (rows:List (List Val)) (A B R L u:Value) (mb:Nat) (r:List Val) (ek:List UInt8) (W:World) (P:Nat→Prop) (hPo:∀ k,P k→k < W.heap.size) (hx0:IxIn sh rows A B R mb L P W) (hu:zag valE W (Old W) u r) (hek:ek.length≤900000000) (hin:∀ x∈rows,∀ p∈sh,p.1 < r.length∧p.2 < x.length) (hsn:sh.length≤2097152) (hrn:r.length≤2097152) (hn:rows.length≤2097152):
 Calls Tryz.prog 129 #[.agg #[A,B,R,.map (some mb),L],u,.string (bsB ek)] W fun e w'=>∃ V,e=.returned V∧zag intE w' (fun k=>P k∨W.heap.size≤k) V (zy6 sh rows r ek)∧Below W.heap.size W w':=by
 have hx:IxIn sh rows A B R mb L (Old W) W:=hx0.stays fun k hk=>⟨hPo k hk,rfl⟩
 obtain ⟨hs,hR,_,hL,hLc⟩:=hx
 obtain ⟨hmb,n',f,h1,hm,h2P⟩:=hx0.map
 have h2:∀ x,zag intE W (Old W) ((f (.string x)).getD (.slice none 0 0)) (grp (evI sh rows) x)∧capK ((f (.string x)).getD (.slice none 0 0)):=fun x=>⟨(h2P x).1.stays fun k hk=>⟨hPo k hk,rfl⟩,(h2P x).2⟩
 have hfP:=(h2P ek).1
 obtain ⟨pA,kA,pB,kB,rfl,rfl⟩:=hs.slice
 obtain ⟨pR,kR,rfl⟩:=hR.slice
 obtain ⟨pL,kL,rfl⟩:=hL.slice
 obtain ⟨pu,ku,rfl⟩:=hu.slice
 obtain ⟨W1,hW1⟩:∃ W1,W1=(W.alloc (.cells #[.slice pA sh.length kA,.slice pB sh.length kB,.slice pR rows.length kR,.map (some mb),.slice pL (zbj sh rows).length kL] 90)).alloc (.cells #[.slice pu r.length ku] 43):=⟨_,rfl⟩
 have b1:Below W.heap.size W W1:=by rw [hW1];exact zdb _ _ _
 have s1:W1.heap.size=W.heap.size+2:=by rw [hW1];simp
 have u3:W1.heap[W.heap.size]?=some (.cells #[.slice pA sh.length kA,.slice pB sh.length kB,.slice pR rows.length kR,.map (some mb),.slice pL (zbj sh rows).length kL] 90):=by rw [hW1];exact zap _ (zaf _ _ rfl)
 have u4:W1.heap[W.heap.size+1]?=some (.cells #[.slice pu r.length ku] 43):=by rw [hW1];exact zaf _ _ (by simp)
 have hm1:HMap W1 Tryz.prog 9 mb n' f:=hm.keep (b1.block _ hm.lt)
 have hkey:=keyB hek
 have hkl:WideAt.IsKeyLit (.string ek):=trivial
 obtain ⟨hf1,hf2⟩:=h2 ek
 obtain ⟨v0,hv0⟩:∃ v,v=(f (.string ek)).getD (.slice none 0 0):=⟨_,rfl⟩
 rw [← hv0] at hf1 hf2 hfP
 have HFP:=Lib.hid (And.intro hPo hfP)
 clear hPo hfP h2P hx0
 obtain ⟨pF,kF,rfl⟩:=hf1.slice
 have hgn:(grp (evI sh rows) ek).length≤2097152:=Nat.le_trans (zy2 _ _) (Nat.le_trans (zn0 sh rows).1 hn)
 have hln:=Nat.le_trans (zn0 sh rows).2 hn
 have HWH:=Lib.hid (z1n (.pointer (some ⟨W.heap.size,0,none⟩)) (.pointer (some ⟨W.heap.size+1,0,none⟩)) (fun z=>fitB sh r (zix rows z)) (zbj sh rows) (.slice pL (zbj sh rows).length kL) W1 (hL.stays (zae b1)) hln (fun z hz W' c hb hr=>by
  obtain ⟨i,rfl,hi⟩:=(zte sh rows).2 z hz
  have hb2:=zab b1 hb b1.size
  have e:zix rows (i:Int)=rows[i]:=by unfold zix;simp [hi]
  rw [e]
  exact zy5 sh rows _ _ _ _ _ _ r W.heap.size (W.heap.size+1) i W' ((hb.block _ (zaa u3)).trans u3) ((hb.block _ (zaa u4)).trans u4) (hs.stays (zae hb2)) (hR.stays (zae hb2)) (hu.stays (zae hb2)) hi (fun p hp=>hin _ (List.getElem_mem hi) p hp) hsn hrn))
 have c3:=zad u3 3 rfl
 have c4:=zad u3 4 rfl
 have HW:=Lib.hid hW1
 have HF1:=Lib.hid (hf1.stays (zae b1))
 have HB1:=Lib.hid b1
 have HV0:=Lib.hid hv0
 clear hW1 hs hR hL hLc hu h2 hm hf1 hv0 b1 u3 u4 hin
 unfold zy6
 generalize hlo':(zbj sh rows).filter (fun z=>fitB sh r (zix rows z))=lo' at*
 have hlo2:lo'.length≤2097152:=by
  rw [← hlo']
  exact Nat.le_trans (List.length_filter_le _ _) hln
 clear hlo'
 generalize grp (evI sh rows) ek=gs at*
 obtain ⟨zs,hzs⟩:∃ zs,zs=if lo'=[] then gs else (gs++lo').mergeSort leI:=⟨_,rfl⟩
 rw [← hzs]
 have HZ0:Hid (lo'=[]→zs=gs):=Lib.hid fun h=>by rw [hzs,if_pos h]
 have HZ1:Hid (¬ lo'=[]→zs=(gs++lo').mergeSort leI):=Lib.hid fun h=>by rw [hzs,if_neg h]
 clear hzs
 go_enter Tryz.func129,Tryz.ntmps129
 go_upto_region 1 with fail
 rw [← HW.out]
 go_upto_region 3 with (first
  |((with_reducible refine zcn ?_ (.tmp 10) (.tmp 11) 88 ?_ 9 26 (Go.Maps.string_keyed Tryz.underlying9) Tryz.underlying88 (Tryz.zeroValue26 _) mb n' ?_ hm1 (.string (bsB ek)) (.string ek) ?_ hkey hkl ?_);rfl;rfl;rfl;rfl;rw [← HV0.out])
  |(go_at_call 175;(with_reducible refine HWH.out.mono ?_);rintro e w2 ⟨V2,xs,rfl,hown,hrow,hb2⟩;obtain ⟨p2,k2,rfl⟩:=zau hown))
 have hown3:=zmh hown hrow
 have hwf:=zql _ _ hrow
 have hsz2:=hb2.size
 by_cases h0:lo'=[]
 ·subst h0
  have HZ2:=Lib.hid (HZ0.out rfl)
  clear HZ0 HZ1
  have hb:=zab HB1.out hb2 HB1.out.size
  have hres:zag intE w2 (fun k=>P k∨W.heap.size≤k) _ _:=HFP.out.2.stays fun k hk=>⟨.inl hk,hb.block k (HFP.out.1 k hk)⟩
  have HRS:=Lib.hid hres
  clear hown hrow hown3 hwf hres
  go_wp2_with fail
  go_ret
  exact ⟨_,rfl,by rw [HZ2.out];exact HRS.out,hb⟩
 ·have HZ2:=Lib.hid (HZ1.out h0)
  have hz:((lo'.length:Int) == 0)=false:=by
   rw [beq_eq_false_iff_ne]
   intro e
   exact h0 (List.length_eq_zero_iff.1 (by omega))
  have hbz:Below w2.heap.size w2 (w2.alloc (.cells #[.slice pF gs.length kF,.slice p2 lo'.length k2] 188)):=za5 _ _
  have hfz:=(HF1.out.stays (zae hb2)).stays (zae hbz)
  have hlz:zag intE (w2.alloc (.cells #[.slice pF gs.length kF,.slice p2 lo'.length k2] 188)) (Old (w2.alloc (.cells #[.slice pF gs.length kF,.slice p2 lo'.length k2] 188))) (.slice p2 lo'.length k2) lo':=(zc1 (Old w2) hown3 hwf (fun g e=>(hown3.lt g e).2)).stays (zae hbz)
  have HC:=Lib.hid (zyj gs lo' _ _ w2.heap.size _ (zaf _ _ rfl) hfz hlz hf2 (zda hown) hgn hlo2)
  have HB2:=Lib.hid (zab HB1.out hb2 HB1.out.size)
  clear hown hrow hown3 hwf hfz hlz hbz h0 HF1 hb2 HWH
  go_upto_region 6 with (first
   |(go_at_call 177;(with_reducible refine HC.out.mono ?_);rintro e w3 ⟨V3,ys,rfl,hown,hrow,hb3⟩))
  have ho3:=zmh hown hrow
  have hw3:=zql _ _ hrow
  have hlen3:(gs++lo').length≤4194304:=by rw [List.length_append];omega
  have HST:=Lib.hid (zwf V3 (gs++lo') _ w3 ho3 hlen3)
  have HB3:=Lib.hid (zab HB2.out ((za5 w2 _).trans (hb3.mono (by simp))) HB2.out.size)
  have HO3:=Lib.hid ho3
  have hbase3:W.heap.size≤(w2.alloc (.cells #[.slice pF gs.length kF,.slice p2 lo'.length k2] 188)).heap.size:=by have:=HB2.out.size;simp;omega
  have HBS:=Lib.hid hbase3
  have HW3:=Lib.hid hw3
  have ho3':=ho3
  rw [List.length_append] at ho3'
  obtain ⟨p3,k3,rfl⟩:=zau ho3'
  clear ho3' hown hrow hb3 ho3 hw3 HC hbase3
  go_wp2_with (first
   |(go_at_call 178;(with_reducible refine HST.out.mono ?_);rintro e w4 ⟨rfl,ho4,hg4⟩))
  have hb4:Below W.heap.size W w4:=HB3.out.grown hg4 HB3.out.size (fun g e=>by have:=(HO3.out.lt g e).1;have:=HBS.out;omega)
  have hwf4:∀ z∈(gs++lo').mergeSort leI,(Lit.int .i64 z).wf=true:=fun z hz=>HW3.out z (List.mem_mergeSort.1 hz)
  have hl4:((gs++lo').mergeSort leI).length=(gs++lo').length:=List.length_mergeSort _
  have ho5:=ho4
  rw [← hl4] at ho5
  have hres:=zc1 (fun k=>P k∨W.heap.size≤k) ho5 hwf4 (fun g e=>.inr (Nat.le_trans HBS.out (ho4.lt g e).1))
  have HRS:=Lib.hid hres
  clear ho4 ho5 hres hg4 HST HO3
  go_ret
  exact ⟨_,rfl,by rw [HZ2.out];exact HRS.out,hb4⟩
def numW:List UInt8→Nat:=fun l=>l.foldl (fun n c=>n*256+c.toNat) 0
theorem zy8 (l:List UInt8) (m:Nat):l.foldl (fun n c=>n*256+c.toNat) m=m*256 ^ l.length+numW l:=by
 induction l generalizing m with
 | nil=>simp [numW]
 | cons c r ih=>
   rw [List.foldl_cons,ih]
   show _=_+List.foldl (fun n c=>n*256+c.toNat) (0*256+c.toNat) r
   rw [ih,List.length_cons,Nat.pow_succ]
   rw [Nat.add_mul,Nat.zero_mul,Nat.zero_add,Nat.mul_assoc,Nat.mul_comm 256]
   omega
theorem zy9 (c:UInt8) (r:List UInt8):numW (c::r)=c.toNat*256 ^ r.length+numW r:=by
 show List.foldl (fun n c=>n*256+c.toNat) (0*256+c.toNat) r=_
 rw [zy8,Nat.zero_mul,Nat.zero_add]
theorem zza (a p:Int) (hp:0 < p):a % (p*256)=a % p+p*(a / p % 256):=by
 have e1:p*(a / p)+a % p=a:=Int.mul_ediv_add_emod a p
 have e2:256*(a / p / 256)+a / p % 256=a / p:=Int.mul_ediv_add_emod (a / p) 256
 have h1:0≤a % p:=Int.emod_nonneg _ (by omega)
 have h2:a % p < p:=Int.emod_lt_of_pos _ hp
 have h3:0≤a / p % 256:=Int.emod_nonneg _ (by decide)
 have h4:a / p % 256 < 256:=Int.emod_lt_of_pos _ (by decide)
 generalize a / p % 256=s at e2 h3 h4 ⊢
 generalize a / p / 256=q at e2
 have e3:a=a % p+p*s+p*256*q:=by
  have:p*(256*q+s)+a % p=a:=by rw [e2];exact e1
  rw [Int.mul_add,← Int.mul_assoc] at this
  omega
 have h5:0≤p*s:=Int.mul_nonneg (by omega) h3
 have h6:p*s+p≤p*256:=by
  have:p*(s+1)≤p*256:=Int.mul_le_mul_of_nonneg_left (by omega) (by omega)
  rwa [Int.mul_add,Int.mul_one] at this
 generalize a % p=m at e3 h1 h2 ⊢
 rw [e3,Int.add_mul_emod_self_left]
 exact Int.emod_eq_of_lt (by omega) (by omega)
theorem zqm (n:Int):(k:Nat)→(numW (beB n k):Int)=n % (256:Int) ^ k
 | 0=>by simp [beB,numW,Int.emod_one]
 | i+1=>by
   show (numW (zb3 n i::beB n i):Int)=_
   rw [zy9,Int.natCast_add,Int.natCast_mul,zif,zqm n i,zbf]
   have e:(2:Int) ^ (8*i)=256 ^ i:=by rw [Int.pow_mul];rfl
   rw [e,Int.natCast_pow]
   have h0:(0:Int) < 256 ^ i:=Int.pow_pos (by decide)
   rw [show (256:Int) ^ (i+1)=256 ^ i*256 from Int.pow_succ _ _,zza n _ h0,Int.add_comm,Int.mul_comm]
   rfl
def zwg (n:Nat):Int:=if n < 9223372036854775808 then n else (n:Int) - 18446744073709551616
def E0:ByteArray:=⟨#[]⟩
def rdT (l:List UInt8):Option (ByteArray × List UInt8):=
 if 4≤l.length∧numW (l.take 4)≤1048576∧numW (l.take 4)≤(l.drop 4).length then some (⟨((l.drop 4).take (numW (l.take 4))).toArray⟩,(l.drop 4).drop (numW (l.take 4))) else none
def rdL (g:List UInt8→Option (Val × List UInt8)):Nat→List UInt8→Option (List Val × List UInt8)
 | 0,l=>some ([],l)
 | n+1,l=>match g l with
   | none=>none
   | some (v,l')=>match rdL g n l' with
     | none=>none
     | some (q,l'')=>some (v::q,l'')
def rdK (g:Option (List UInt8→Option (Val × List UInt8))) (k:Nat) (r:List UInt8):Option (Val × List UInt8):=
 if k=1 then (match r with
  | []=>none
  | b::r'=>if b.toNat≤1 then some (.mk 1 (b.toNat == 1) 0 E0 E0 [],r') else none)
 else if k=2∨k=6∨k=7 then (if 8≤r.length then some (.mk k false (zwg (numW (r.take 8))) E0 E0 [],r.drop 8) else none)
 else if k=3∨k=4∨k=8∨k=9 then (match rdT r with
  | none=>none
  | some (t,r')=>some (.mk k false 0 t E0 [],r'))
 else if k=10 then (match rdT r with
  | none=>none
  | some (t,r')=>match rdT r' with
    | none=>none
    | some (x,r'')=>some (.mk k false 0 t x [],r''))
 else if k=5 then (match g with
  | none=>none
  | some g=>if 4≤r.length∧numW (r.take 4)≤4096 then (match rdL g (numW (r.take 4)) (r.drop 4) with
    | none=>none
    | some (q,r')=>some (.mk 5 false 0 E0 E0 q,r')) else none)
 else some (.mk k false 0 E0 E0 [],r)
def rdV:Nat→List UInt8→Option (Val × List UInt8)
 | _,[]=>none
 | 0,c::r=>rdK none c.toNat r
 | f+1,c::r=>rdK (some (rdV f)) c.toNat r
mutual
theorem zii:(v:Val)→zcy v v=true
 | .mk k b n t x l=>by
   unfold zcy
   rw [zfj l]
   simp
theorem zfj:(l:List Val)→zbm l l=true
 | []=>by unfold zbm;rfl
 | v::r=>by
   unfold zbm
   rw [zii v,zfj r]
   rfl
end
theorem zi7:(l:List UInt8)→Op.bytesLess l l=false
 | []=>rfl
 | a::x=>by
   unfold Op.bytesLess
   rw [zi7 x,Bool.and_false,Bool.or_false]
   simp
theorem zpj:(l m:List UInt8)→Op.bytesLess l m=true→Op.bytesLess m l=false
 | [],[],h=>by cases h
 | [],_::_,_=>rfl
 | _::_,[],h=>by cases h
 | a::x,b::y,h=>by
   unfold Op.bytesLess at h ⊢
   rw [Bool.or_eq_true,Bool.and_eq_true,decide_eq_true_eq,beq_iff_eq] at h
   rw [Bool.or_eq_false_iff,decide_eq_false_iff_not,Bool.and_eq_false_iff,beq_eq_false_iff_ne]
   rcases h with h | ⟨rfl,h⟩
   ·exact ⟨fun g=>absurd (UInt8.lt_iff_toNat_lt.1 g) (by have:=UInt8.lt_iff_toNat_lt.1 h;omega),.inl (fun e=>by rw [e] at h;exact absurd (UInt8.lt_iff_toNat_lt.1 h) (by omega))⟩
   ·exact ⟨fun g=>absurd (UInt8.lt_iff_toNat_lt.1 g) (by omega),.inr (zpj x y h)⟩
def lexI (c d:Int):Int:=if c=0 then d else c
def zak (l m:List UInt8):Int:=if Op.bytesLess l m then -1 else if Op.bytesLess m l then 1 else 0
def zop (a b:Bool):Int:=if a=b then 0 else if b then -1 else 1
def za2 (lang k:Int):Int:=
 if k=0 then (if lang=1 then 0 else 10) else if k=5 then 1 else if k=6 then 2 else if k=7 then 3 else if k=9 then 4 else if k=8 then 5 else
 if k=10 then 6 else if k=4 then 7 else if k=1 then 8 else if k=2 then 9 else if k=3 then 9 else 11
mutual
def zdo (lang:Int):Val→Val→Int
 | .mk k b n t x l,.mk k2 b2 n2 t2 x2 l2=>
   lexI (cmpZ (za2 lang k) (za2 lang k2))
    (if k=5 then za9 lang l l2
     else if k=6∨k=7 then cmpZ n n2
     else if k=1 then zop b b2
     else if k=2∨k=3 then lexI (cmpZ (numV k n t) (numV k2 n2 t2)) (lexI (cmpZ k k2) (if k=3 then zak t.toList t2.toList else 0))
     else lexI (zak t.toList t2.toList) (zak x.toList x2.toList))
def za9 (lang:Int):List Val→List Val→Int
 | [],[]=>0
 | [],_::_=>-1
 | _::_,[]=>1
 | u::r,v::s=>lexI (zdo lang u v) (za9 lang r s)
end
structure Tri (x y z:Int):Prop where
 le:x≤0→y≤0→z≤0
 lt:x < 0→y≤0→z < 0
 tl:x≤0→y < 0→z < 0
 eq:x=0→y=0→z=0
theorem Tri.lex {x y z x2 y2 z2:Int} (h:Tri x y z) (h2:Tri x2 y2 z2):Tri (lexI x x2) (lexI y y2) (lexI z z2):=by
 obtain ⟨a,b,c,d⟩:=h
 obtain ⟨a2,b2,c2,d2⟩:=h2
 constructor <;> unfold lexI <;> intro p q <;> (repeat' split at p) <;> (repeat' split at q) <;> (repeat' split) <;> omega
theorem zfk {x y:Int}:lexI (-x) (-y)=-lexI x y:=by
 unfold lexI
 split <;> split <;> omega
theorem zmw (a b c:Int):Tri (cmpZ a b) (cmpZ b c) (cmpZ a c):=by
 constructor <;> unfold cmpZ <;> (repeat' split) <;> omega
theorem zzb (a b:Bool):zop b a=-zop a b:=by cases a <;> cases b <;> rfl
theorem z13 (a b c:Bool):Tri (zop a b) (zop b c) (zop a c):=by
 cases a <;> cases b <;> cases c <;> constructor <;> decide
theorem zlv (l m:List UInt8):zak m l=-zak l m:=by
 unfold zak
 cases h:Op.bytesLess l m
 ·cases h2:Op.bytesLess m l <;> simp
 ·rw [zpj _ _ h];simp
theorem zfa:(l m:List UInt8)→Op.bytesLess l m=false→Op.bytesLess m l=false→l=m
 | [],[],_,_=>rfl
 | [],_::_,h,_=>by cases h
 | _::_,[],_,h=>by cases h
 | a::x,b::y,h,g=>by
   unfold Op.bytesLess at h g
   rw [Bool.or_eq_false_iff,decide_eq_false_iff_not,Bool.and_eq_false_iff,beq_eq_false_iff_ne] at h g
   have e:a=b:=by
    have h1:=h.1
    have g1:=g.1
    rw [UInt8.lt_iff_toNat_lt] at h1 g1
    exact UInt8.toNat_inj.1 (by omega)
   subst e
   rcases h.2 with h2 | h2
   ·exact absurd rfl h2
   ·rcases g.2 with g2 | g2
    ·exact absurd rfl g2
    ·rw [zfa x y h2 g2]
theorem zpk:(l m n:List UInt8)→Op.bytesLess l m=true→Op.bytesLess m n=true→Op.bytesLess l n=true
 | [],_,[],_,g=>by
   rename_i m h
   cases m
   ·cases h
   ·cases g
 | [],_,_::_,_,_=>rfl
 | _::_,[],_,h,_=>by cases h
 | _::_,_::_,[],_,g=>by cases g
 | a::x,b::y,c::z,h,g=>by
   unfold Op.bytesLess at h g ⊢
   rw [Bool.or_eq_true,Bool.and_eq_true,decide_eq_true_eq,beq_iff_eq] at h g ⊢
   rw [UInt8.lt_iff_toNat_lt] at h g ⊢
   rcases h with h | ⟨rfl,h⟩
   ·rcases g with g | ⟨rfl,g⟩
    ·exact .inl (by omega)
    ·exact .inl h
   ·rcases g with g | ⟨rfl,g⟩
    ·exact .inl g
    ·exact .inr ⟨rfl,zpk x y z h g⟩
theorem zn1 (a b c:List UInt8):Tri (zak a b) (zak b c) (zak a c):=by
 rcases h1:Op.bytesLess a b with _ | _
 ·rcases h2:Op.bytesLess b a with _ | _
  ·obtain rfl:=zfa a b h1 h2
   have e:zak a a=0:=by unfold zak;rw [zi7];simp
   rw [e]
   constructor <;> intros <;> omega
  ·have e:zak a b=1:=by unfold zak;rw [h1,h2];simp
   rw [e]
   constructor <;> intros <;> omega
 ·have e:zak a b=-1:=by unfold zak;rw [h1];simp
  rw [e]
  rcases h3:Op.bytesLess b c with _ | _
  ·rcases h4:Op.bytesLess c b with _ | _
   ·obtain rfl:=zfa b c h3 h4
    rw [e]
    constructor <;> intros <;> omega
   ·have e2:zak b c=1:=by unfold zak;rw [h3,h4];simp
    rw [e2]
    constructor <;> intros <;> omega
  ·have e3:zak a c=-1:=by unfold zak;rw [zpk a b c h1 h3];simp
   rw [e3]
   constructor <;> intros <;> omega
theorem Tri.lexIf {x y z x2 y2 z2:Int} (h:Tri x y z) (h2:x=0→y=0→Tri x2 y2 z2):Tri (lexI x x2) (lexI y y2) (lexI z z2):=by
 by_cases e:x=0∧y=0
 ·exact h.lex (h2 e.1 e.2)
 ·obtain ⟨a,b,c,d⟩:=h
  constructor <;> unfold lexI <;> intro p q <;> (repeat' split at p) <;> (repeat' split at q) <;> (repeat' split) <;> omega
theorem zc8 {a b:Int} (h:cmpZ a b=0):a=b:=by
 unfold cmpZ at h
 (repeat' split at h) <;> omega
theorem zh3 (a:Int):cmpZ a a=0:=by unfold cmpZ;(repeat' split) <;> omega
theorem zco (d:Int):lexI 0 d=d:=rfl
theorem zkz {c:Int} (h:c≠0) (d e:Int):lexI c d=lexI c e:=by unfold lexI;rw [if_neg h,if_neg h]
theorem rank5 (lang k:Int):za2 lang k=1↔k=5:=by unfold za2;(repeat' split) <;> omega
theorem zus (lang k:Int):(za2 lang k=2∨za2 lang k=3)↔(k=6∨k=7):=by unfold za2;(repeat' split) <;> omega
theorem zzc (lang k:Int):za2 lang k=8↔k=1:=by unfold za2;(repeat' split) <;> omega
theorem zut (lang k:Int):za2 lang k=9↔(k=2∨k=3):=by unfold za2;(repeat' split) <;> omega
theorem zfl {lang k k2:Int} (h:za2 lang k=za2 lang k2):(k=5↔k2=5)∧((k=6∨k=7)↔(k2=6∨k2=7))∧(k=1↔k2=1)∧((k=2∨k=3)↔(k2=2∨k2=3)):=by
 rw [← rank5 lang k,← rank5 lang k2,← zus lang k,← zus lang k2,← zzc lang k,← zzc lang k2,← zut lang k,← zut lang k2,h]
 exact ⟨.rfl,.rfl,.rfl,.rfl⟩
def zcp (k n:Int) (b:Bool) (t x:ByteArray) (k2 n2:Int) (b2:Bool) (t2 x2:ByteArray):Int:=
 if k=6∨k=7 then cmpZ n n2
 else if k=1 then zop b b2
 else if k=2∨k=3 then lexI (cmpZ (numV k n t) (numV k2 n2 t2)) (lexI (cmpZ k k2) (if k=3 then zak t.toList t2.toList else 0))
 else lexI (zak t.toList t2.toList) (zak x.toList x2.toList)
theorem zd2 (lang:Int) (k:Int) (b:Bool) (n:Int) (t x:ByteArray) (l:List Val) (k2:Int) (b2:Bool) (n2:Int) (t2 x2:ByteArray) (l2:List Val):zdo lang (.mk k b n t x l) (.mk k2 b2 n2 t2 x2 l2)=
 lexI (cmpZ (za2 lang k) (za2 lang k2)) (if k=5 then za9 lang l l2 else zcp k n b t x k2 n2 b2 t2 x2):=by
 unfold zdo zcp
 rfl
theorem zzd {lang k k2:Int} (h:za2 lang k=za2 lang k2) (n:Int) (b:Bool) (t x:ByteArray) (n2:Int) (b2:Bool) (t2 x2:ByteArray):zcp k2 n2 b2 t2 x2 k n b t x=-zcp k n b t x k2 n2 b2 t2 x2:=by
 obtain ⟨_,c2,c3,c4⟩:=zfl h
 unfold zcp
 by_cases h2:k=6∨k=7
 ·rw [if_pos h2,if_pos (c2.1 h2),zec]
 ·rw [if_neg h2,if_neg (fun e=>h2 (c2.2 e))]
  by_cases h3:k=1
  ·rw [if_pos h3,if_pos (c3.1 h3),zzb]
  ·rw [if_neg h3,if_neg (fun e=>h3 (c3.2 e))]
   by_cases h4:k=2∨k=3
   ·rw [if_pos h4,if_pos (c4.1 h4)]
    by_cases e:k=k2
    ·subst e
     by_cases h5:k=3
     ·rw [if_pos h5,if_pos h5,zh3,zco,zco,← zfk,← zec,← zlv]
     ·rw [if_neg h5,if_neg h5,zh3,zco,← zfk,← zec,Int.neg_zero]
    ·have d:cmpZ k k2≠0:=fun z=>e (zc8 z)
     have d2:cmpZ k2 k≠0:=fun z=>e (zc8 z).symm
     rw [zkz d _ (-0),zkz d2 _ (- -0),zec (numV k n t),zec k k2,zfk,zfk]
   ·rw [if_neg h4,if_neg (fun e=>h4 (c4.2 e)),zlv t.toList,zlv x.toList,zfk]
theorem zze {lang k k2 k3:Int} (h:za2 lang k=za2 lang k2) (n:Int) (b:Bool) (t x:ByteArray) (n2:Int) (b2:Bool) (t2 x2:ByteArray) (n3:Int) (b3:Bool) (t3 x3:ByteArray):
 Tri (zcp k n b t x k2 n2 b2 t2 x2) (zcp k2 n2 b2 t2 x2 k3 n3 b3 t3 x3) (zcp k n b t x k3 n3 b3 t3 x3):=by
 obtain ⟨_,c2,c3,c4⟩:=zfl h
 unfold zcp
 by_cases h2:k=6∨k=7
 ·rw [if_pos h2,if_pos (c2.1 h2),if_pos h2]
  exact zmw _ _ _
 ·rw [if_neg h2,if_neg (fun e=>h2 (c2.2 e)),if_neg h2]
  by_cases h3:k=1
  ·rw [if_pos h3,if_pos (c3.1 h3),if_pos h3]
   exact z13 _ _ _
  ·rw [if_neg h3,if_neg (fun e=>h3 (c3.2 e)),if_neg h3]
   by_cases h4:k=2∨k=3
   ·rw [if_pos h4,if_pos (c4.1 h4),if_pos h4]
    refine (zmw _ _ _).lex ((zmw k k2 k3).lexIf fun e e'=>?_)
    obtain rfl:=zc8 e
    by_cases h5:k=3
    ·rw [if_pos h5,if_pos h5,if_pos h5]
     exact zn1 _ _ _
    ·rw [if_neg h5,if_neg h5,if_neg h5]
     constructor <;> intros <;> omega
   ·rw [if_neg h4,if_neg (fun e=>h4 (c4.2 e)),if_neg h4]
    exact (zn1 _ _ _).lex (zn1 _ _ _)
mutual
theorem zwh (lang:Int):(v v2:Val)→zdo lang v2 v=-zdo lang v v2
 | .mk k b n t x l,.mk k2 b2 n2 t2 x2 l2=>by
   rw [zd2,zd2]
   by_cases h:za2 lang k=za2 lang k2
   ·rw [h,zh3,zco,zco]
    have c:=(zfl h).1
    by_cases h5:k=5
    ·rw [if_pos h5,if_pos (c.1 h5)]
     exact zk0 lang l l2
    ·rw [if_neg h5,if_neg (fun e=>h5 (c.2 e))]
     exact zzd h _ _ _ _ _ _ _ _
   ·have d:cmpZ (za2 lang k) (za2 lang k2)≠0:=fun z=>h (zc8 z)
    have d2:cmpZ (za2 lang k2) (za2 lang k)≠0:=fun z=>h (zc8 z).symm
    rw [zkz d _ (-0),zkz d2 _ (- -0),zec (za2 lang k),zfk]
theorem zk0 (lang:Int):(l m:List Val)→za9 lang m l=-za9 lang l m
 | [],[]=>by unfold za9;rfl
 | [],_::_=>by unfold za9;rfl
 | _::_,[]=>by unfold za9;rfl
 | u::r,v::s=>by
   unfold za9
   rw [zwh lang u v,zk0 lang r s,zfk]
end
mutual
theorem zwi (lang:Int):(v v2 v3:Val)→Tri (zdo lang v v2) (zdo lang v2 v3) (zdo lang v v3)
 | .mk k b n t x l,.mk k2 b2 n2 t2 x2 l2,.mk k3 b3 n3 t3 x3 l3=>by
   rw [zd2,zd2,zd2]
   refine (zmw _ _ _).lexIf fun e e'=>?_
   have h:=zc8 e
   have c:=(zfl h).1
   by_cases h5:k=5
   ·rw [if_pos h5,if_pos (c.1 h5),if_pos h5]
    exact zn2 lang l l2 l3
   ·rw [if_neg h5,if_neg (fun e=>h5 (c.2 e)),if_neg h5]
    exact zze h _ _ _ _ _ _ _ _ _ _ _ _
theorem zn2 (lang:Int):(l l2 l3:List Val)→Tri (za9 lang l l2) (za9 lang l2 l3) (za9 lang l l3)
 | [],[],[]=>by unfold za9;constructor <;> intros <;> omega
 | [],[],_::_=>by unfold za9;constructor <;> intros <;> omega
 | [],_::_,[]=>by unfold za9;constructor <;> intros <;> omega
 | [],_::_,_::_=>by
   unfold za9
   constructor <;> intros <;> omega
 | _::_,[],[]=>by unfold za9;constructor <;> intros <;> omega
 | _::_,[],_::_=>by unfold za9;constructor <;> intros <;> omega
 | _::_,_::_,[]=>by
   unfold za9
   constructor <;> intros <;> omega
 | u::r,v::s,z::q=>by
   unfold za9
   exact (zwi lang u v z).lex (zn2 lang r s q)
end
theorem zh4 {c d:Int} (h:lexI c d=0):c=0∧d=0:=by
 unfold lexI at h
 split at h
 ·exact ⟨‹_›,h⟩
 ·exact absurd h ‹_›
theorem zfm {l m:List UInt8} (h:zak l m=0):l=m:=by
 unfold zak at h
 cases h1:Op.bytesLess l m
 ·cases h2:Op.bytesLess m l
  ·exact zfa l m h1 h2
  ·rw [h1,h2] at h;simp at h
 ·rw [h1] at h;simp at h
theorem zmi {t:ByteArray} (h:t.size=0):t=⟨#[]⟩:=by
 obtain ⟨⟨l⟩⟩:=t
 cases l with
 | nil=>rfl
 | cons a r=>exact absurd h (by simp [ByteArray.size])
theorem zcf {b:Bool} {n:Int} {t x:ByteArray} {len:Nat} (h:zb6 b n t x len=true):b=false∧n=0∧t=⟨#[]⟩∧x=⟨#[]⟩∧len=0:=by
 unfold zb6 at h
 simp only [Bool.and_eq_true,Bool.not_eq_true',decide_eq_true_eq] at h
 exact ⟨h.1.1.1.1,h.1.1.1.2,zmi h.1.1.2,zmi h.1.2,h.2⟩
theorem zpl (n:Int) (t:ByteArray):numV 2 n t=n*10 ^ 54:=by unfold numV;rw [if_pos rfl]
theorem rank0 (lang k:Int):(za2 lang k=0∨za2 lang k=10)↔k=0:=by unfold za2;(repeat' split) <;> omega
theorem rank4 (lang k:Int):za2 lang k=7↔k=4:=by unfold za2;(repeat' split) <;> omega
theorem rank6 (lang k:Int):za2 lang k=2↔k=6:=by unfold za2;(repeat' split) <;> omega
theorem rank7 (lang k:Int):za2 lang k=3↔k=7:=by unfold za2;(repeat' split) <;> omega
theorem rank8 (lang k:Int):za2 lang k=5↔k=8:=by unfold za2;(repeat' split) <;> omega
theorem rank9 (lang k:Int):za2 lang k=4↔k=9:=by unfold za2;(repeat' split) <;> omega
theorem z31 (lang k:Int):za2 lang k=6↔k=10:=by unfold za2;(repeat' split) <;> omega
theorem zwj (lang:Int) (k:Int) (b:Bool) (n:Int) (t x:ByteArray) (len:Nat) (r:Bool) (k2:Int) (b2:Bool) (n2:Int) (t2 x2:ByteArray) (len2:Nat) (r2:Bool) (er:za2 lang k=za2 lang k2) (h5:¬ k=5)
 (m:zb0 k b n t x len r=true) (m2:zb0 k2 b2 n2 t2 x2 len2 r2=true) (hi:zcp k n b t x k2 n2 b2 t2 x2=0):k=k2∧b=b2∧n=n2∧t.toList=t2.toList∧x.toList=x2.toList∧len=0∧len2=0:=by
 by_cases h0:k=0
 ·have e:=(rank0 lang k2).1 (er ▸ (rank0 lang k).2 h0)
  subst h0 e
  unfold zb0 at m m2
  rw [if_pos rfl] at m m2
  obtain ⟨rfl,rfl,rfl,rfl,rfl⟩:=zcf m
  obtain ⟨rfl,rfl,rfl,rfl,rfl⟩:=zcf m2
  exact ⟨rfl,rfl,rfl,rfl,rfl,rfl,rfl⟩
 by_cases h1:k=1
 ·have e:=(zzc lang k2).1 (er ▸ (zzc lang k).2 h1)
  subst h1 e
  unfold zb0 at m m2
  rw [if_neg (by decide),if_pos rfl] at m m2
  obtain ⟨_,rfl,rfl,rfl,rfl⟩:=zcf m
  obtain ⟨_,rfl,rfl,rfl,rfl⟩:=zcf m2
  unfold zcp at hi
  rw [if_neg (by decide),if_pos rfl] at hi
  have eb:b=b2:=by cases b <;> cases b2 <;> first | rfl |(exact absurd hi (by decide))
  exact ⟨rfl,eb,rfl,rfl,rfl,rfl,rfl⟩
 by_cases h6:k=6∨k=7
 ·have e:k2=k:=by
   rcases h6 with h | h
   ·rw [h];exact (rank6 lang k2).1 (er ▸ (rank6 lang k).2 h)
   ·rw [h];exact (rank7 lang k2).1 (er ▸ (rank7 lang k).2 h)
  subst e
  unfold zcp at hi
  rw [if_pos h6] at hi
  obtain rfl:=zc8 hi
  unfold zb0 at m m2
  rw [if_neg h0,if_neg h1,if_neg (by omega),if_neg (by omega),if_neg (by omega),if_neg h5,if_pos h6,Bool.and_eq_true] at m m2
  obtain ⟨rfl,_,rfl,rfl,rfl⟩:=zcf m.2
  obtain ⟨rfl,_,rfl,rfl,rfl⟩:=zcf m2.2
  exact ⟨rfl,rfl,rfl,rfl,rfl,rfl,rfl⟩
 by_cases h2:k=2∨k=3
 ·unfold zcp at hi
  rw [if_neg h6,if_neg h1,if_pos h2] at hi
  obtain ⟨hn,hk⟩:=zh4 hi
  obtain ⟨hk,ht⟩:=zh4 hk
  have ek:=zc8 hk
  subst ek
  by_cases h3:k=3
  ·subst h3
   rw [if_pos rfl] at ht
   have et:=zfm ht
   unfold zb0 at m m2
   rw [if_neg h0,if_neg h1,if_neg (by decide),if_pos rfl,Bool.and_eq_true] at m m2
   obtain ⟨rfl,rfl,_,rfl,rfl⟩:=zcf m.2
   obtain ⟨rfl,rfl,_,rfl,rfl⟩:=zcf m2.2
   exact ⟨rfl,rfl,rfl,et,rfl,rfl,rfl⟩
  ·obtain rfl:k=2:=by omega
   rw [zpl,zpl,zo7] at hn
   obtain rfl:=zc8 hn
   unfold zb0 at m m2
   rw [if_neg h0,if_neg h1,if_pos rfl] at m m2
   obtain ⟨rfl,_,rfl,rfl,rfl⟩:=zcf m
   obtain ⟨rfl,_,rfl,rfl,rfl⟩:=zcf m2
   exact ⟨rfl,rfl,rfl,rfl,rfl,rfl,rfl⟩
 unfold zcp at hi
 rw [if_neg h6,if_neg h1,if_neg h2] at hi
 obtain ⟨ht,hx⟩:=zh4 hi
 have et:=zfm ht
 have ex:=zfm hx
 have n2:¬ k=2:=fun e=>h2 (.inl e)
 have n3:¬ k=3:=fun e=>h2 (.inr e)
 have e:k2=k:=by
  by_cases a4:k=4
  ·rw [a4];exact (rank4 lang k2).1 (er ▸ (rank4 lang k).2 a4)
  by_cases a8:k=8
  ·rw [a8];exact (rank8 lang k2).1 (er ▸ (rank8 lang k).2 a8)
  by_cases a9:k=9
  ·rw [a9];exact (rank9 lang k2).1 (er ▸ (rank9 lang k).2 a9)
  by_cases a10:k=10
  ·rw [a10];exact (z31 lang k2).1 (er ▸ (z31 lang k).2 a10)
  unfold zb0 at m
  rw [if_neg h0,if_neg h1,if_neg n2,if_neg n3,if_neg a4,if_neg h5,if_neg h6,if_neg a8,if_neg a9,if_neg a10] at m
  cases m
 subst e
 unfold zb0 at m m2
 rw [if_neg h0,if_neg h1,if_neg n2,if_neg n3] at m m2
 by_cases a4:k2=4
 ·rw [if_pos a4,Bool.and_eq_true] at m m2
  obtain ⟨rfl,rfl,_,rfl,rfl⟩:=zcf m.2
  obtain ⟨rfl,rfl,_,rfl,rfl⟩:=zcf m2.2
  exact ⟨rfl,rfl,rfl,et,rfl,rfl,rfl⟩
 rw [if_neg a4,if_neg h5,if_neg h6] at m m2
 by_cases a8:k2=8
 ·rw [if_pos a8,Bool.and_eq_true] at m m2
  obtain ⟨rfl,rfl,_,rfl,rfl⟩:=zcf m.2
  obtain ⟨rfl,rfl,_,rfl,rfl⟩:=zcf m2.2
  exact ⟨rfl,rfl,rfl,et,rfl,rfl,rfl⟩
 rw [if_neg a8] at m m2
 by_cases a9:k2=9
 ·rw [if_pos a9,Bool.and_eq_true] at m m2
  obtain ⟨rfl,rfl,_,rfl,rfl⟩:=zcf m.2
  obtain ⟨rfl,rfl,_,rfl,rfl⟩:=zcf m2.2
  exact ⟨rfl,rfl,rfl,et,rfl,rfl,rfl⟩
 rw [if_neg a9] at m m2
 by_cases a10:k2=10
 ·rw [if_pos a10,Bool.and_eq_true,Bool.and_eq_true] at m m2
  obtain ⟨rfl,rfl,_,_,rfl⟩:=zcf m.2.2
  obtain ⟨rfl,rfl,_,_,rfl⟩:=zcf m2.2.2
  exact ⟨rfl,rfl,rfl,et,ex,rfl,rfl⟩
 rw [if_neg a10] at m
 cases m
mutual
theorem zwk (lang:Int):(v v2:Val)→(d d2:Nat)→mayP v d=true→mayP v2 d2=true→zdo lang v v2=0→zcy v v2=true
 | .mk k b n t x l,.mk k2 b2 n2 t2 x2 l2,d,d2,m,m2,h=>by
   rw [zd2] at h
   obtain ⟨hr,hi⟩:=zh4 h
   have er:=zc8 hr
   unfold mayP at m m2
   unfold zcy
   by_cases h5:k=5
   ·have h52:=(zfl er).1.1 h5
    subst h5 h52
    rw [if_pos rfl] at hi
    unfold zb0 at m m2
    simp only [show ¬ (5:Int)=0 from by decide,show ¬ (5:Int)=1 from by decide,show ¬ (5:Int)=2 from by decide,show ¬ (5:Int)=3 from by decide,show ¬ (5:Int)=4 from by decide,if_true,if_false,Bool.and_eq_true] at m m2
    obtain ⟨⟨_,me⟩,mb⟩:=m
    obtain ⟨⟨_,me2⟩,mb2⟩:=m2
    obtain ⟨rfl,rfl,rfl,rfl,_⟩:=zcf mb
    obtain ⟨rfl,rfl,rfl,rfl,_⟩:=zcf mb2
    obtain ⟨e1,e2⟩:=zn3 lang l l2 _ _ me me2 hi
    simp [e1,e2]
   ·rw [if_neg h5] at hi
    obtain ⟨rfl,rfl,rfl,et,ex,l0,l20⟩:=zwj lang k b n t x l.length _ k2 b2 n2 t2 x2 l2.length _ er h5 m m2 hi
    obtain rfl:=List.length_eq_zero_iff.1 l0
    obtain rfl:=List.length_eq_zero_iff.1 l20
    simp [et,ex,zbm]
theorem zn3 (lang:Int):(l l2:List Val)→(d d2:Nat)→zdz l d=true→zdz l2 d2=true→za9 lang l l2=0→l.length=l2.length∧zbm l l2=true
 | [],[],_,_,_,_,_=>by unfold zbm;exact ⟨rfl,rfl⟩
 | [],_::_,_,_,_,_,h=>by unfold za9 at h;omega
 | _::_,[],_,_,_,_,h=>by unfold za9 at h;omega
 | u::r,v::s,d,d2,m,m2,h=>by
   unfold za9 at h
   unfold zdz at m m2
   rw [Bool.and_eq_true] at m m2
   obtain ⟨h1,h2⟩:=zh4 h
   have a:=zwk lang u v d d2 m.1 m2.1 h1
   obtain ⟨e1,e2⟩:=zn3 lang r s d d2 m.2 m2.2 h2
   unfold zbm
   rw [a,e2]
   exact ⟨by simp [e1],rfl⟩
end
theorem zzf (t:ByteArray):(n i:Nat)→(r:List UInt8)→n=t.size - i→ByteArray.toList.loop t i r=r.reverse++t.data.toList.drop i
 | 0,i,r,h=>by
   unfold ByteArray.toList.loop
   rw [if_neg (by omega)]
   have:t.data.toList.length≤i:=by rw [Array.length_toList];show t.size≤i;omega
   rw [List.drop_eq_nil_of_le this,List.append_nil]
 | n+1,i,r,h=>by
   have hi:i < t.size:=by omega
   unfold ByteArray.toList.loop
   rw [if_pos hi,zzf t n (i+1) _ (by omega)]
   have hl:i < t.data.toList.length:=by rw [Array.length_toList];exact hi
   rw [List.drop_eq_getElem_cons hl,List.reverse_cons,List.append_assoc]
   have e:t.get! i=t.data.toList[i]:=by
    obtain ⟨d⟩:=t
    have h2:i < d.size:=hi
    show d[i]! =d.toList[i]
    rw [getElem!_pos d i h2]
    simp
   rw [e]
   rfl
theorem zk1 (t:ByteArray):t.toList=t.data.toList:=by
 unfold ByteArray.toList
 rw [zzf t _ 0 [] rfl]
 simp
theorem ztf (l:List UInt8):zak l l=0:=by unfold zak;rw [zi7];rfl
mutual
def zn4:Val→Prop
 | .mk _ _ n t x l=>Fine n t x l.length∧zct l
def zct:List Val→Prop
 | []=>True
 | v::r=>zn4 v∧zct r
end
mutual
theorem za7.fine {w:World} {g off:Nat}:(v:Val)→za7 w g off v→zn4 v
 | .mk k b n t x l,h=>by
   unfold za7 at h
   obtain ⟨_,_,_,_,_,hf,L,_,hl⟩:=h
   unfold zn4
   exact ⟨hf,Held.fine l hl⟩
theorem Held.fine {w:World} {L:Value}:(l:List Val)→Held w L l→zct l
 | [],_=>by unfold zct;trivial
 | v::r,h=>by
   unfold Held at h
   obtain ⟨g,off,cap,e,hv,hr⟩:=h
   unfold zct
   exact ⟨za7.fine v hv,zbk.fine r hr⟩
theorem zbk.fine {w:World} {g off:Nat}:(l:List Val)→zbk w g off l→zct l
 | [],_=>by unfold zct;trivial
 | v::r,h=>by
   unfold zbk at h
   unfold zct
   exact ⟨za7.fine v h.1,zbk.fine r h.2⟩
end
theorem zqn (n:Int) (h1:-9223372036854775808≤n) (h2:n≤9223372036854775807):zwg (numW (beB n 8))=n:=by
 have h:=zqm n 8
 rw [show (256:Int) ^ 8=18446744073709551616 from rfl] at h
 generalize numW (beB n 8)=m at h ⊢
 unfold zwg
 split <;> omega
theorem zk2 {a b:List UInt8} {k:Nat} (h:a.length=k):(a++b).take k=a:=by subst h;exact List.take_left
theorem zk3 {a b:List UInt8} {k:Nat} (h:a.length=k):(a++b).drop k=b:=by subst h;exact List.drop_left
theorem zlw (t:ByteArray) (r:List UInt8) (ht:t.size≤1048576):rdT (lenB t++r)=some (t,r):=by
 unfold rdT lenB
 have e1:(beB t.size 4++txtB t++r).take 4=beB t.size 4:=by rw [List.append_assoc];exact zk2 (zbf _ _)
 have e2:(beB t.size 4++txtB t++r).drop 4=txtB t++r:=by rw [List.append_assoc];exact zk3 (zbf _ _)
 have e3:numW (beB t.size 4)=t.size:=by
  have h:=zqm t.size 4
  rw [show (256:Int) ^ 4=4294967296 from rfl] at h
  omega
 rw [e1,e2,e3,if_pos ⟨by rw [List.length_append,List.length_append,zbf];omega,ht,by rw [List.length_append,zeh];omega⟩,zk2 (zeh t),zk3 (zeh t)]
 rfl
theorem e0 {t:ByteArray} (h:t.size=0):t=E0:=by
 have:t.data=#[]:=Array.size_eq_zero_iff.1 h
 cases t
 simp only at this
 subst this
 rfl
theorem zcq {b:Bool} {n:Int} {t x:ByteArray} {len:Nat} (h:zb6 b n t x len=true):b=false∧n=0∧t.size=0∧x.size=0∧len=0:=by
 unfold zb6 at h
 simp only [Bool.and_eq_true,decide_eq_true_eq,Bool.not_eq_true'] at h
 obtain ⟨⟨⟨⟨h1,h2⟩,h3⟩,h4⟩,h5⟩:=h
 exact ⟨h1,h2,h3,h4,h5⟩
theorem zn5 (k:Int) (h0:0≤k) (h1:k≤10):(zb3 k 0).toNat=k.toNat:=by
 have h:=zif k 0
 rw [show (2:Int) ^ (8*0)=1 from rfl,Int.ediv_one] at h
 omega
theorem ziy {l:List Val} (h:l.length=0):l=[]:=List.length_eq_zero_iff.1 h
theorem z14 {t:ByteArray} (h:chk t.data.toList=true):t.size≤1048576:=by
 have:=chk_len h
 rw [Array.length_toList] at this
 have e:t.data.size=t.size:=rfl
 omega
theorem zrt {t:ByteArray} (h:zcs t=true):t.size≤1048576:=by
 unfold zcs at h
 exact (of_decide_eq_true h).2.1
theorem zzg {t:ByteArray} (h:zcc t=true):t.size≤1048576:=by
 unfold zcc at h
 have:=(of_decide_eq_true h).2.1
 omega
def zzh (v:Val):Prop:=∀ (d:Nat) (r:List UInt8),d≤60→zn4 v→mayP v d=true→rdV (60 - d) (encP v++r)=some (v,r)
theorem zij (d:Nat) (hd:d≤60):(q:List Val)→(∀ v∈q,zzh v)→zct q→zdz q d=true→∀ r,rdL (rdV (60 - d)) q.length (zar q++r)=some (q,r)
 | [],_,_,_,r=>by simp [rdL,zar]
 | v::q,hA,hf,hm,r=>by
   unfold zct at hf
   unfold zdz at hm
   rw [Bool.and_eq_true] at hm
   have h1:=hA v (by simp) d (zar q++r) hd hf.1 hm.1
   have h2:=zij d hd q (fun u hu=>hA u (List.mem_cons_of_mem _ hu)) hf.2 hm.2 r
   rw [List.length_cons]
   unfold rdL zar
   rw [List.append_assoc,h1]
   simp only
   rw [h2]
theorem z15 (f:Nat) (c:UInt8) (r:List UInt8):rdV f (c::r)=rdK (if f=0 then none else some (rdV (f - 1))) c.toNat r:=by
 cases f with
 | zero=>rfl
 | succ f=>rfl
theorem zzi (v:Val) (k:Int) (b:Bool) (n:Int) (t x:ByteArray) (q:List Val) (ev:v=.mk k b n t x q) (each:∀ u∈q,zzh u):zzh v:=by
 subst ev
 intro d r hd hf hm
 unfold zn4 at hf
 obtain ⟨hf,hfa⟩:=hf
 unfold mayP zb0 at hm
 unfold encP
 rw [List.cons_append,z15]
 split at hm
 ·rename_i hk
  subst hk
  obtain ⟨rfl,rfl,ht,hx,hq⟩:=zcq hm
  rw [e0 ht,e0 hx,ziy hq,zn5 0 (by decide) (by decide)]
  rfl
 split at hm
 ·rename_i _ hk
  subst hk
  obtain ⟨_,rfl,ht,hx,hq⟩:=zcq hm
  rw [e0 ht,e0 hx,ziy hq,zn5 1 (by decide) (by decide)]
  cases b <;> rfl
 split at hm
 ·rename_i _ _ hk
  subst hk
  obtain ⟨rfl,_,ht,hx,hq⟩:=zcq hm
  rw [e0 ht,e0 hx,ziy hq,zn5 2 (by decide) (by decide)]
  have h8:(beB n 8++r).take 8=beB n 8:=zk2 (zbf _ _)
  have h9:(beB n 8++r).drop 8=r:=zk3 (zbf _ _)
  show (if 8≤(beB n 8++r).length then some (Val.mk 2 false (zwg (numW ((beB n 8++r).take 8))) E0 E0 [],(beB n 8++r).drop 8) else none)=_
  rw [if_pos (by rw [List.length_append,zbf];omega),h8,h9,zqn n hf.lo hf.hi]
 split at hm
 ·rename_i _ _ _ hk
  subst hk
  rw [Bool.and_eq_true] at hm
  obtain ⟨hc,hm⟩:=hm
  obtain ⟨rfl,rfl,_,hx,hq⟩:=zcq hm
  rw [e0 hx,ziy hq,zn5 3 (by decide) (by decide)]
  show (match rdT (lenB t++r) with | none=>none | some (t,r')=>some (Val.mk 3 false 0 t E0 [],r'))=_
  rw [zlw t r (z14 hc)]
 split at hm
 ·rename_i _ _ _ _ hk
  subst hk
  rw [Bool.and_eq_true] at hm
  obtain ⟨hc,hm⟩:=hm
  obtain ⟨rfl,rfl,_,hx,hq⟩:=zcq hm
  rw [e0 hx,ziy hq,zn5 4 (by decide) (by decide)]
  show (match rdT (lenB t++r) with | none=>none | some (t,r')=>some (Val.mk 4 false 0 t E0 [],r'))=_
  rw [zlw t r (of_decide_eq_true hc)]
 split at hm
 ·rename_i _ _ _ _ _ hk
  subst hk
  rw [Bool.and_eq_true,Bool.and_eq_true,Bool.and_eq_true] at hm
  obtain ⟨⟨⟨hl,hdd⟩,he⟩,hm⟩:=hm
  obtain ⟨rfl,rfl,ht,hx,_⟩:=zcq hm
  have hl:=of_decide_eq_true hl
  have hdd:=of_decide_eq_true hdd
  rw [e0 ht,e0 hx,zn5 5 (by decide) (by decide),if_neg (show ¬60 - d=0 by omega)]
  have h4:(beB q.length 4++zar q++r).take 4=beB q.length 4:=by rw [List.append_assoc];exact zk2 (zbf _ _)
  have h5:(beB q.length 4++zar q++r).drop 4=zar q++r:=by rw [List.append_assoc];exact zk3 (zbf _ _)
  have h6:numW (beB q.length 4)=q.length:=by
   have h:=zqm q.length 4
   rw [show (256:Int) ^ 4=4294967296 from rfl] at h
   omega
  have h7:=zij (d+1) hdd q each hfa he r
  rw [show 60 - (d+1)=60 - d - 1 by omega] at h7
  show (if 4≤(beB q.length 4++zar q++r).length∧numW ((beB q.length 4++zar q++r).take 4)≤4096 then (match rdL (rdV (60 - d - 1)) (numW ((beB q.length 4++zar q++r).take 4)) ((beB q.length 4++zar q++r).drop 4) with | none=>none | some (q,r')=>some (Val.mk 5 false 0 E0 E0 q,r')) else none)=_
  rw [h4,h5,h6,if_pos ⟨by rw [List.length_append,List.length_append,zbf];omega,hl⟩,h7]
 split at hm
 ·rename_i _ _ _ _ _ _ hk
  rw [Bool.and_eq_true] at hm
  obtain ⟨_,hm⟩:=hm
  obtain ⟨rfl,_,ht,hx,hq⟩:=zcq hm
  have h8:(beB n 8++r).take 8=beB n 8:=zk2 (zbf _ _)
  have h9:(beB n 8++r).drop 8=r:=zk3 (zbf _ _)
  rcases hk with hk | hk
  ·subst hk
   rw [e0 ht,e0 hx,ziy hq,zn5 6 (by decide) (by decide)]
   show (if 8≤(beB n 8++r).length then some (Val.mk 6 false (zwg (numW ((beB n 8++r).take 8))) E0 E0 [],(beB n 8++r).drop 8) else none)=_
   rw [if_pos (by rw [List.length_append,zbf];omega),h8,h9,zqn n hf.lo hf.hi]
  ·subst hk
   rw [e0 ht,e0 hx,ziy hq,zn5 7 (by decide) (by decide)]
   show (if 8≤(beB n 8++r).length then some (Val.mk 7 false (zwg (numW ((beB n 8++r).take 8))) E0 E0 [],(beB n 8++r).drop 8) else none)=_
   rw [if_pos (by rw [List.length_append,zbf];omega),h8,h9,zqn n hf.lo hf.hi]
 split at hm
 ·rename_i _ _ _ _ _ _ _ hk
  subst hk
  rw [Bool.and_eq_true] at hm
  obtain ⟨hc,hm⟩:=hm
  obtain ⟨rfl,rfl,_,hx,hq⟩:=zcq hm
  rw [e0 hx,ziy hq,zn5 8 (by decide) (by decide)]
  show (match rdT (lenB t++r) with | none=>none | some (t,r')=>some (Val.mk 8 false 0 t E0 [],r'))=_
  rw [zlw t r (zrt hc)]
 split at hm
 ·rename_i _ _ _ _ _ _ _ _ hk
  subst hk
  rw [Bool.and_eq_true] at hm
  obtain ⟨hc,hm⟩:=hm
  obtain ⟨rfl,rfl,_,hx,hq⟩:=zcq hm
  rw [e0 hx,ziy hq,zn5 9 (by decide) (by decide)]
  show (match rdT (lenB t++r) with | none=>none | some (t,r')=>some (Val.mk 9 false 0 t E0 [],r'))=_
  rw [zlw t r (zzg hc)]
 split at hm
 ·rename_i _ _ _ _ _ _ _ _ _ hk
  subst hk
  rw [Bool.and_eq_true,Bool.and_eq_true] at hm
  obtain ⟨ht,hc,hm⟩:=hm
  obtain ⟨rfl,rfl,_,_,hq⟩:=zcq hm
  rw [ziy hq,zn5 10 (by decide) (by decide)]
  show (match rdT (lenB t++lenB x++r) with | none=>none | some (t,r')=>(match rdT r' with | none=>none | some (x,r'')=>some (Val.mk 10 false 0 t x [],r'')))=_
  rw [List.append_assoc,zlw t _ (of_decide_eq_true ht)]
  simp only
  rw [zlw x r (zrt hc)]
 ·cases hm
mutual
theorem z16:(v:Val)→zzh v
 | .mk k b n t x q=>zzi _ k b n t x q rfl (zk4 q)
theorem zk4:(q:List Val)→∀ u∈q,zzh u
 | [],_,h=>absurd h (by simp)
 | v::r,u,h=>by
   rcases List.mem_cons.1 h with h | h
   ·rw [h];exact z16 v
   ·exact zk4 r u h
end
mutual
theorem zzj:(v u:Val)→zcy v u=true→v=u
 | .mk k b n t x l,.mk k2 b2 n2 t2 x2 l2,h=>by
   unfold zcy at h
   simp only [Bool.and_eq_true,beq_iff_eq] at h
   obtain ⟨rfl,rfl,rfl,ht,hx,hl,he⟩:=h
   rw [zk1,zk1] at ht hx
   have e1:t=t2:=by cases t;cases t2;simp only at ht;rw [Array.toList_inj.1 ht]
   have e2:x=x2:=by cases x;cases x2;simp only at hx;rw [Array.toList_inj.1 hx]
   rw [e1,e2,zfn l l2 hl he]
theorem zfn:(l l2:List Val)→l.length=l2.length→zbm l l2=true→l=l2
 | [],[],_,_=>rfl
 | [],_::_,h,_=>absurd h (by simp)
 | _::_,[],h,_=>absurd h (by simp)
 | v::r,u::s,h,he=>by
   unfold zbm at he
   rw [Bool.and_eq_true] at he
   rw [zzj v u he.1,zfn r s (by simpa using h) he.2]
end
end Go.Proofs.YteclpnfckjfibaaGreatDoor
