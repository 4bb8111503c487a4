/- Texts of one kind, one behind the other: each says ahead of itself what it shows. -/
import Derived.Test.YteclpnfckjfibaaGreatDoorDas
import Derived.Test.YteclpnfckjfibaaGreatDoorDaq
import Derived.Test.YteclpnfckjfibaaGreatDoorDaf
import Derived.Test.YteclpnfckjfibaaGreatDoorDap
import Derived.Test.YteclpnfckjfibaaGreatDoorRows
import Derived.ProofKit
namespace Go.Proofs.YteclpnfckjfibaaGreatDoor
open Go.RowKit
set_option maxHeartbeats 12800000
set_option maxRecDepth 20000
def zqv (lang:Int) (V:Value) (rs:List (List Val)) (base:Nat) (P:Nat→Prop) (w w':World):Prop:=
 ∃ xs' rs',rs'.Perm rs∧rs'.Pairwise (fun a b=>za5 lang a b≤0)∧w'.ownsRow base 43 1 V rs.length xs'∧RowE rowE w' P xs' rs'∧w.grownBy w' V.ownBlock
theorem z2w (lang:Int) (V:Value) (rs:List (List Val)) (xs:List Value) (base:Nat) (P:Nat→Prop) (W0 w:World) (hG:Gd W0) (hT:Tab W0) (b0:Below W0.heap.size W0 w) (hbase:W0.heap.size≤base) (h:w.ownsRow base 43 1 V rs.length xs) (hr:RowE rowE w P xs rs)
 (hP:∀ g,P g→g < w.heap.size∧V.ownBlock≠some g) (hn:rs.length≤2097152):
 Calls Tryz.prog 66 #[V,.int .i64 lang,.func (.func 67) #[] #[]] w fun e w'=>e=.returned (.tuple #[])∧zqv lang V rs base P w w':=by
 obtain ⟨W1,hW1⟩:∃ W1,W1=(w.alloc (.cells #[.int .i64 lang] 72)).alloc (.cells #[.func (.func 67) #[] #[]] 73):=⟨_,rfl⟩
 have b1:Below w.heap.size w W1:=by rw [hW1];exact zcr _ _ _
 have hl:W1.heap[w.heap.size]?=some (.cells #[.int .i64 lang] 72):=by rw [hW1];exact zaq _ (zaf _ _ rfl)
 have hf:W1.heap[w.heap.size+1]?=some (.cells #[.func (.func 67) #[] #[]] 73):=by rw [hW1];exact zaf _ _ (by simp)
 have hv:∀ g,V.ownBlock=some g→g < w.heap.size:=fun g e=>(h.lt g e).2
 have hc:=zwy lang V rs xs base (w.heap.size+1) w.heap.size P W0 W1 hG hT (b0.trans (b1.mono b0.size)) hbase (zbf h fun g q=>b1.block g (hv g q)) (hr.stays (fun g hg=>⟨hg,b1.block g (hP g hg).1⟩) _)
  (fun g hg=>⟨Nat.lt_of_lt_of_le (hP g hg).1 b1.size,(hP g hg).2⟩) hf hl (fun e=>by have:=hv _ e;omega) (fun e=>by have:=hv _ e;omega) hn
 have HC:Hid (Calls Tryz.prog 105 #[V,.func (.func 106) #[] #[.pointer (some ⟨w.heap.size+1,0,none⟩),.pointer (some ⟨w.heap.size,0,none⟩)]] W1 fun e w'=>e=.returned (.tuple #[])∧zqv lang V rs base P w w'):=Lib.hid (hc.mono fun e w' q=>by
  obtain ⟨he,xs',rs',q1,q2,q3,q4,q5⟩:=q
  exact ⟨he,xs',rs',q1,q2,q3,q4,⟨q5.os.trans b1.os,q5.tape.trans b1.tape,q5.output.trans b1.output,Nat.le_trans b1.size q5.size,fun i hi hne=>(q5.block i (Nat.lt_of_lt_of_le hi b1.size) hne).trans (b1.block i hi)⟩⟩)
 obtain ⟨p,cap,rfl⟩:=zat h
 have HW:=Lib.hid hW1
 clear hW1 hc h hr hP hf hl hv b1 b0 hG hT
 generalize zqv lang _ rs base P w=Q at*
 go_enter Tryz.func66,Tryz.ntmps66
 go_upto_region 1 with fail
 rw [← HW.out]
 go_wp2_with (first
  |(go_at_call 105;(with_reducible refine HC.out.mono ?_);rintro e w2 ⟨rfl,hq⟩))
 go_end0
 exact ⟨rfl,hq⟩
theorem z0k (lang:Int) (t:TabL) (VA RA:Value) (W:World) (hG:Gd W) (hT:Tab W) (ht:tabE.rel W (Old W) [VA,RA] t):Calls Tryz.prog 22 #[.int .i64 lang,.agg #[VA,RA]] W (zbs tabE (za2 lang t) W):=by
 have ht0:=ht
 obtain ⟨V',R',e,hva,hra,hcva,hcra,hlva,hlra⟩:=ht
 cases e
 obtain ⟨pA,kA,rfl⟩:=hva.slice
 obtain ⟨qA,lA,rfl⟩:=hra.slice
 obtain ⟨W1,hW1⟩:∃ W1,W1=(W.alloc (.cells #[.slice pA t.vars.length kA,.slice qA t.rows.length lA] 25)).alloc (.cells #[.slice none 0 0,.slice none 0 0] 25):=⟨_,rfl⟩
 have b1:Below W.heap.size W W1:=by rw [hW1];exact zcr _ _ _
 have s1:W.heap.size+1 < W1.heap.size:=by rw [hW1];simp
 have u2:W1.heap[W.heap.size]?=some (.cells #[.slice pA t.vars.length kA,.slice qA t.rows.length lA] 25):=by rw [hW1];exact zaq _ (zaf _ _ rfl)
 have u4:W1.heap[W.heap.size+1]?=some (.cells #[.slice none 0 0,.slice none 0 0] 25):=by rw [hW1];exact zaf _ _ (by simp)
 have h1:=zct t _ _ W1 (hG.below b1) (tabE.stays (zae b1) ht0)
 have HOT:Hid (∀ w',Below W1.heap.size W1 w'→Calls Tryz.prog 65 #[.agg #[.slice pA t.vars.length kA,.slice qA t.rows.length lA]] w' (z4d t w')):=Lib.hid fun w' k=>zt0 t _ _ w' (tabE.stays (zae (zab b1 k b1.size)) ht0)
 have HTA:Hid (tabP t=true→∀ r∈t.rows,∀ v∈r,mayP v 0=true):=Lib.hid fun h=>(zbk h).2
 unfold za2
 generalize hpt:tabP t=pt at*
 have H1:=Lib.hid h1
 have HW:=Lib.hid hW1
 have HB1:=Lib.hid b1
 have HGT:=Lib.hid (And.intro hG hT)
 clear h1 ht0 hva hra hcva hcra hG hT hW1 b1 hpt
 cases pt with
 | false=>
   simp only [Bool.false_eq_true,if_false]
   go_enter Tryz.func22,Tryz.ntmps22
   go_upto_region 1 with fail
   rw [← HW.out]
   go_upto_region 2 with (first
    |((with_reducible refine zah (.tmp 3) W.heap.size 25 25 [.slice pA t.vars.length kA,.slice qA t.rows.length lA] 2 _ u2 rfl Tryz.underlying25 rfl zag ?_ ?_ ?_ ?_);rfl;rfl;rfl)
    |(go_at_call 14;(with_reducible refine H1.out.mono ?_);rintro e w2 ⟨rfl,hb2⟩))
   have u42:=(hb2.block _ (zaa u4)).trans u4
   have B2:=Lib.hid (HB1.out.trans (hb2.mono HB1.out.size))
   clear hb2 u2 u4
   go_wp2_with (first
    |((with_reducible refine zar (.tmp 4) (.tmp 9) (W.heap.size+1) 25 25 _ [.slice none 0 0,.slice none 0 0] 2 u42 rfl ?_ ?_ ?_ ?_ zag rfl (zbv rfl rfl) ?_);rfl;rfl;rfl;rfl;intro wX oX vX))
   exact bodyPost_ret (results_cell_row (p:=4) (ty:=25) Tryz.results22 _ _ (W.heap.size+1) 25 _ (0,0) _ rfl vX Tryz.underlying25 rfl zag) rfl ⟨_,[_,_],rfl,rfl,zex _ _,zam B2.out oX (by omega) B2.out.size⟩
 | true=>
   simp only [if_true]
   go_enter Tryz.func22,Tryz.ntmps22
   go_upto_region 1 with fail
   rw [← HW.out]
   go_upto_region 3 with (first
    |((with_reducible refine zah (.tmp 3) W.heap.size 25 25 [.slice pA t.vars.length kA,.slice qA t.rows.length lA] 2 _ u2 rfl Tryz.underlying25 rfl zag ?_ ?_ ?_ ?_);rfl;rfl;rfl)
    |(go_at_call 14;(with_reducible refine H1.out.mono ?_);rintro e w2 ⟨rfl,hb2⟩))
   have hs2:=hb2.size
   have u22:=(hb2.block _ (zaa u2)).trans u2
   have u42:=(hb2.block _ (zaa u4)).trans u4
   have B2:=Lib.hid (HB1.out.trans (hb2.mono HB1.out.size))
   have HO2:=Lib.hid (HOT.out w2 hb2)
   clear hb2 u2 u4 H1
   go_upto_region 4 with (first
    |((with_reducible refine zah (.tmp 3) W.heap.size 25 25 [.slice pA t.vars.length kA,.slice qA t.rows.length lA] 2 _ u22 rfl Tryz.underlying25 rfl zag ?_ ?_ ?_ ?_);rfl;rfl;rfl)
    |(go_at_call 65;(with_reducible refine HO2.out.mono ?_);rintro e w3 ⟨V1,R1,xs,B,rfl,hb3,hB,hv1,hcv1,ho1,hr1,hcr1⟩;go_loud (obtain ⟨p1,k1,rfl⟩:=hv1.slice;obtain ⟨q1,l1,rfl⟩:=zat ho1)))
   obtain ⟨w4,hw4⟩:∃ w4,w4=w3.alloc (.cells #[.slice p1 t.vars.length k1,.slice q1 t.rows.length l1] 25):=⟨_,rfl⟩
   rw [← hw4]
   have b34:Below w3.heap.size w3 w4:=by rw [hw4];exact zav _ _
   have v5:w4.heap[w3.heap.size]?=some (.cells #[.slice p1 t.vars.length k1,.slice q1 t.rows.length l1] 25):=by rw [hw4];exact zaf _ _ rfl
   have hs3:=hb3.size
   have hs4:=b34.size
   have hv5:=zaa v5
   have ho:∀ g,(Value.slice q1 t.rows.length l1).ownBlock=some g→B≤g∧g < w3.heap.size:=fun g e=>⟨z3p ho1 g e,(ho1.lt g e).2⟩
   have B4:Below W.heap.size W w4:=(B2.out.trans (hb3.mono B2.out.size)).trans (b34.mono (Nat.le_trans B2.out.size hs3))
   have hB2:=B2.out.size
   have HS:=Lib.hid (z2w lang _ t.rows xs B _ W w4 HGT.out.1 HGT.out.2 B4 (Nat.le_trans B2.out.size hB) (zbf ho1 fun g q=>b34.block g (ho g q).2) (hr1.stays (fun g hg=>⟨hg,b34.block g hg.2.1⟩) _) (fun g hg=>⟨by have:=hg.2.1;omega,hg.2.2⟩) hlra)
   have HV1:=Lib.hid (hv1.stays (P':=fun g=>w2.heap.size≤g∧g < B∧g < w3.heap.size) (w':=w4) fun g hg=>⟨hg,b34.block g hg.2.2⟩)
   have HX:=Lib.hid (And.intro hcv1 (And.intro hcr1 (And.intro ho B4)))
   replace u42:=(hb3.block _ (zaa u42)).trans u42
   replace u42:=(b34.block _ (zaa u42)).trans u42
   have c5:=zad v5 1 rfl
   clear hv1 hcv1 ho1 hr1 hcr1 hb3 b34 ho B4 hw4 HOT HO2 u22
   go_upto_region 5 with (first
    |(go_at_call 66;(with_reducible refine HS.out.mono ?_);rintro e w5 ⟨rfl,hq⟩))
   obtain ⟨xs',rs',hp,hs,ho',hr',hg⟩:=hq
   have hrs:rs'=zlk lang t.rows:=ztw (HTA.out trivial) hp hs
   have hl:rs'.length=t.rows.length:=hp.length_eq
   have hgs:=hg.size
   have u52:=zaa u42
   have v6:=(hg.block _ hv5 (fun e=>by have:=HX.out.2.2.1 _ e.symm;omega)).trans v5
   have u62:=(hg.block _ u52 (fun e=>by have:=HX.out.2.2.1 _ e.symm;omega)).trans u42
   have B5:=HX.out.2.2.2.grown hg HX.out.2.2.2.size (fun g e=>by have:=HX.out.2.2.1 g e;omega)
   have HQ:=Lib.hid (And.intro ho' (And.intro hr' (And.intro hg B5)))
   have HRS:=Lib.hid (And.intro hl hrs)
   clear ho' hr' hg B5 hrs hp hs u42 v5 c5 HS hl
   go_wp2_with (first
    |((with_reducible refine zah (.tmp 5) w3.heap.size 25 25 [.slice p1 t.vars.length k1,.slice q1 t.rows.length l1] 2 _ v6 rfl Tryz.underlying25 rfl zag ?_ ?_ ?_ ?_);rfl;rfl;rfl)
    |((with_reducible refine zar (.tmp 4) (.tmp 16) (W.heap.size+1) 25 25 _ [.slice p1 t.vars.length k1,.slice q1 t.rows.length l1] 2 u62 rfl ?_ ?_ ?_ ?_ zag rfl (zbv rfl rfl) ?_);rfl;rfl;rfl;rfl;intro wX oX vX))
   have hxs:=oX.size
   refine bodyPost_ret (results_cell_row (p:=4) (ty:=25) Tryz.results22 _ _ (W.heap.size+1) 25 _ (0,0) _ rfl vX Tryz.underlying25 rfl zag) rfl ⟨_,[_,_],rfl,rfl,⟨_,_,rfl,HV1.out.stays (fun g hg=>?_),?_,HX.out.1,HX.out.2.1,hlva,by show (zlk lang t.rows).length≤_;rw [← HRS.out.2,HRS.out.1];exact hlra⟩,zam HQ.out.2.2.2 oX (by omega) HQ.out.2.2.2.size⟩
   ·have hne:(Value.slice q1 t.rows.length l1).ownBlock≠some g:=fun e=>by have:=HX.out.2.2.1 g e;have:=hg.2.1;omega
    exact ⟨⟨by have:=hg.1;omega,by have:=hg.2.2;omega⟩,(oX.block g (by have:=hg.2.2;omega) (by have:=hg.1;omega)).trans (HQ.out.2.2.1.block g (by have:=hg.2.2;omega) (fun e=>hne e.symm))⟩
   ·have hne:∀ g,(Value.slice q1 t.rows.length l1).ownBlock=some g→g≠W.heap.size+1:=fun g e=>by have:=HX.out.2.2.1 g e;omega
    have h5:=zbf HQ.out.1 (w':=wX) fun g e=>oX.block g (HQ.out.1.lt g e).2 (hne g e)
    have h6:=HQ.out.2.1.stays (P':=New W wX) (w':=wX) (fun g hg=>⟨⟨by omega,by have:=hg.2.1;omega⟩,(oX.block g (by have:=hg.2.1;omega) (by have:=hg.1;omega))⟩) _
    obtain ⟨r1,r2⟩:=HRS.out
    rw [← r2]
    rw [← r1] at h5 ⊢
    exact zbm h5 h6 (fun g hg=>hg) (fun g e=>⟨by have:=z3p h5 g e;omega,(h5.lt g e).2⟩)
def natT (n:Nat):List UInt8:=if n < 10 then [UInt8.ofNat (48+n)] else natT (n / 10)++[UInt8.ofNat (48+n % 10)]
termination_by n
decreasing_by omega
def valT (l:List UInt8):Nat:=l.foldl (fun a c=>10*a+(c.toNat - 48)) 0
theorem zsl (n:Nat):valT (natT n)=n:=by
 induction n using Nat.strongRecOn with
 | ind n ih=>
   unfold natT
   split
   ·rename_i h
    simp only [valT,List.foldl]
    have:(UInt8.ofNat (48+n)).toNat=48+n:=by simp;omega
    rw [this];omega
   ·rename_i h
    have i1:=ih (n / 10) (by omega)
    unfold valT at i1 ⊢
    rw [List.foldl_append,i1]
    simp only [List.foldl]
    have:(UInt8.ofNat (48+n % 10)).toNat=48+n % 10:=by simp;omega
    rw [this];omega
theorem zu4 (n:Nat):(natT n).length≤n+1:=by
 induction n using Nat.strongRecOn with
 | ind n ih=>
   unfold natT
   split
   ·simp
   ·have:=ih (n / 10) (by omega)
    rw [List.length_append];simp;omega
theorem zpv:∀ (k n:Nat),n < 10 ^ k→(natT n).length≤k+1
 | 0,n,h=>by
   have:n=0:=by simpa using h
   subst this
   unfold natT;simp
 | k+1,n,h=>by
   unfold natT
   split
   ·simp
   ·have hh:n / 10 < 10 ^ k:=by rw [Nat.pow_succ] at h;exact Nat.div_lt_of_lt_mul (by omega)
    have:=zpv k (n / 10) hh
    rw [List.length_append];simp;omega
theorem zdx (w:World) (d:UInt8):(convert 101 9 (.slice (some ⟨w.heap.size,0,none⟩) 1 1)).run Tryz.prog (w.alloc (.cells #[.int .u8 (d.toNat:Int)] 5))=.ok (.string ⟨#[d]⟩) (w.alloc (.cells #[.int .u8 (d.toNat:Int)] 5)):=
 run_convert_bytes_back _ 101 9 5 ⟨w.heap.size,0,none⟩ 1 [d] Tryz.underlying101 Tryz.underlying5 Tryz.underlying9 (fun i hi=>by
  have h0:i=0:=by simpa using hi
  subst h0
  exact zad (zaf _ _ rfl) 0 rfl)
theorem z0l (n:Nat) (h:n < 10) (w:World):Calls Tryz.prog 40 #[.int .i64 n] w fun e w'=>e=.returned (.string ⟨(natT n).toArray⟩)∧Below w.heap.size w w':=by
 have hn:n=0∨n=1∨n=2∨n=3∨n=4∨n=5∨n=6∨n=7∨n=8∨n=9:=by omega
 have ht:natT n=[UInt8.ofNat (48+n)]:=by unfold natT;rw [if_pos h]
 rw [ht]
 clear ht
 rcases hn with rfl | rfl | rfl | rfl | rfl | rfl | rfl | rfl | rfl | rfl
 ·have hc:(convert 101 9 (.slice (some ⟨w.heap.size,0,none⟩) 1 1)).run Tryz.prog (w.alloc (.cells #[.int .u8 48] 5))=.ok (.string ⟨#[48]⟩) (w.alloc (.cells #[.int .u8 48] 5)):=zdx w 48
  go_enter Tryz.func40,Tryz.ntmps40
  go_wp2_with fail
  go_ret
  exact ⟨rfl,zav _ _⟩
 ·have hc:(convert 101 9 (.slice (some ⟨w.heap.size,0,none⟩) 1 1)).run Tryz.prog (w.alloc (.cells #[.int .u8 49] 5))=.ok (.string ⟨#[49]⟩) (w.alloc (.cells #[.int .u8 49] 5)):=zdx w 49
  go_enter Tryz.func40,Tryz.ntmps40
  go_wp2_with fail
  go_ret
  exact ⟨rfl,zav _ _⟩
 ·have hc:(convert 101 9 (.slice (some ⟨w.heap.size,0,none⟩) 1 1)).run Tryz.prog (w.alloc (.cells #[.int .u8 50] 5))=.ok (.string ⟨#[50]⟩) (w.alloc (.cells #[.int .u8 50] 5)):=zdx w 50
  go_enter Tryz.func40,Tryz.ntmps40
  go_wp2_with fail
  go_ret
  exact ⟨rfl,zav _ _⟩
 ·have hc:(convert 101 9 (.slice (some ⟨w.heap.size,0,none⟩) 1 1)).run Tryz.prog (w.alloc (.cells #[.int .u8 51] 5))=.ok (.string ⟨#[51]⟩) (w.alloc (.cells #[.int .u8 51] 5)):=zdx w 51
  go_enter Tryz.func40,Tryz.ntmps40
  go_wp2_with fail
  go_ret
  exact ⟨rfl,zav _ _⟩
 ·have hc:(convert 101 9 (.slice (some ⟨w.heap.size,0,none⟩) 1 1)).run Tryz.prog (w.alloc (.cells #[.int .u8 52] 5))=.ok (.string ⟨#[52]⟩) (w.alloc (.cells #[.int .u8 52] 5)):=zdx w 52
  go_enter Tryz.func40,Tryz.ntmps40
  go_wp2_with fail
  go_ret
  exact ⟨rfl,zav _ _⟩
 ·have hc:(convert 101 9 (.slice (some ⟨w.heap.size,0,none⟩) 1 1)).run Tryz.prog (w.alloc (.cells #[.int .u8 53] 5))=.ok (.string ⟨#[53]⟩) (w.alloc (.cells #[.int .u8 53] 5)):=zdx w 53
  go_enter Tryz.func40,Tryz.ntmps40
  go_wp2_with fail
  go_ret
  exact ⟨rfl,zav _ _⟩
 ·have hc:(convert 101 9 (.slice (some ⟨w.heap.size,0,none⟩) 1 1)).run Tryz.prog (w.alloc (.cells #[.int .u8 54] 5))=.ok (.string ⟨#[54]⟩) (w.alloc (.cells #[.int .u8 54] 5)):=zdx w 54
  go_enter Tryz.func40,Tryz.ntmps40
  go_wp2_with fail
  go_ret
  exact ⟨rfl,zav _ _⟩
 ·have hc:(convert 101 9 (.slice (some ⟨w.heap.size,0,none⟩) 1 1)).run Tryz.prog (w.alloc (.cells #[.int .u8 55] 5))=.ok (.string ⟨#[55]⟩) (w.alloc (.cells #[.int .u8 55] 5)):=zdx w 55
  go_enter Tryz.func40,Tryz.ntmps40
  go_wp2_with fail
  go_ret
  exact ⟨rfl,zav _ _⟩
 ·have hc:(convert 101 9 (.slice (some ⟨w.heap.size,0,none⟩) 1 1)).run Tryz.prog (w.alloc (.cells #[.int .u8 56] 5))=.ok (.string ⟨#[56]⟩) (w.alloc (.cells #[.int .u8 56] 5)):=zdx w 56
  go_enter Tryz.func40,Tryz.ntmps40
  go_wp2_with fail
  go_ret
  exact ⟨rfl,zav _ _⟩
 ·have hc:(convert 101 9 (.slice (some ⟨w.heap.size,0,none⟩) 1 1)).run Tryz.prog (w.alloc (.cells #[.int .u8 57] 5))=.ok (.string ⟨#[57]⟩) (w.alloc (.cells #[.int .u8 57] 5)):=zdx w 57
  go_enter Tryz.func40,Tryz.ntmps40
  go_wp2_with fail
  go_ret
  exact ⟨rfl,zav _ _⟩
theorem zwz (n:Nat) (h:10≤n) (hl:n < 2 ^ 63) (w:World) (ih:∀ w:World,Calls Tryz.prog 40 #[.int .i64 ((n:Int) / 10)] w fun e w'=>e=.returned (.string ⟨(natT (n / 10)).toArray⟩)∧Below w.heap.size w w'):
 Calls Tryz.prog 40 #[.int .i64 n] w fun e w'=>e=.returned (.string ⟨(natT n).toArray⟩)∧Below w.heap.size w w':=by
 have ht:natT n=natT (n / 10)++[UInt8.ofNat (48+n % 10)]:=by rw [natT,if_neg (by omega)]
 rw [ht]
 clear ht
 have hc:=zdx w (UInt8.ofNat (48+n % 10))
 have hd:((UInt8.ofNat (48+n % 10)).toNat:Int)=48+(n:Int) % 10:=by
  have:(UInt8.ofNat (48+n % 10)).toNat=48+n % 10:=by simp;omega
  rw [this];omega
 rw [hd] at hc
 clear hd
 generalize UInt8.ofNat (48+n % 10)=c at hc ⊢
 have htl:¬9223372036854775807 < (natT (n / 10)).length+1:=by
  have:=zpv 19 (n / 10) (by omega)
  omega
 generalize natT (n / 10)=t at ih htl ⊢
 go_enter Tryz.func40,Tryz.ntmps40
 go_wp2_with (go_at_call 40;(with_reducible refine (ih _).mono ?_);rintro e w2 ⟨rfl,hb2⟩)
 go_ret
 refine ⟨?_,zab (zav w _) hb2 (zav w _).size⟩
 refine congrArg (fun x=>Ending.returned (.string x)) (ByteArray.ext ?_)
 simp [ByteArray.data_append]
theorem z0m (n:Nat):n < 2 ^ 63→∀ w:World,Calls Tryz.prog 40 #[.int .i64 n] w fun e w'=>e=.returned (.string ⟨(natT n).toArray⟩)∧Below w.heap.size w w':=by
 induction n using Nat.strongRecOn with
 | ind n ih=>
   intro hl w
   by_cases h:n < 10
   ·exact z0l n h w
   ·refine zwz n (by omega) hl w fun w=>?_
    have e:(n:Int) / 10=((n / 10:Nat):Int):=by omega
    rw [e]
    exact ih (n / 10) (by omega) (by omega) w
theorem zd2.rowIn {w:World} {V R:Value} {t:TabL} (h:zd2 w V R t) {i:Nat} (hi:i < t.rows.length):
 ∃ gr o l p k,R=.slice (some ⟨gr,o,none⟩) t.rows.length l∧w.cell? ⟨gr,o+i,none⟩=some (.slice p t.rows[i].length k)∧zai valE w (Old w) (.slice p t.rows[i].length k) t.rows[i]∧t.rows[i].length≤2097152:=by
 obtain ⟨gr,o,l,c1,e1,_,hr,hra⟩:=h.rows.at_ i hi
 obtain ⟨u,rfl,hu,_,hl⟩:=hr
 obtain ⟨p,k,e2⟩:=hu.slice
 subst e2
 refine ⟨gr,o,l,p,k,e1,?_,hu,hl⟩
 have h0:=hra 0 _ rfl
 have e:o+i*1+0=o+i:=by omega
 have h1:w.cell? ⟨gr,o+i*1+0,none⟩=some (.slice p t.rows[i].length k):=h0
 rwa [e] at h1
theorem zpw {n:Nat} (h:n≤2097152):IntKind.i64.wrap (n:Int)=n:=by
 simp [IntKind.wrap,IntKind.bits,IntKind.signed]
 omega
def zms (i:Nat):ByteArray:=⟨(118::natT i).toArray⟩
theorem zu5 {n:Nat} (h:n < 10):natT n=[UInt8.ofNat (48+n)]:=by
 unfold natT
 rw [if_pos h]
theorem z2x {n:Nat} (h1:10≤n) (h2:n < 100):natT n=[UInt8.ofNat (48+n / 10),UInt8.ofNat (48+n % 10)]:=by
 rw [natT,if_neg (by omega),zu5 (by omega)]
 rfl
theorem z0n:∀ n,n < 10→zcc ⟨(118::[UInt8.ofNat (48+n)]).toArray⟩=true:=by decide
theorem z0o:∀ n,n < 64→zcc ⟨(118::[UInt8.ofNat (48+n / 10),UInt8.ofNat (48+n % 10)]).toArray⟩=true:=by decide
theorem zw0 {i:Nat} (h:i < 64):zcc (zms i)=true:=by
 unfold zms
 by_cases q:i < 10
 ·rw [zu5 q]
  exact z0n i q
 ·rw [z2x (by omega) (by omega)]
  exact z0o i h
theorem z0p {i j:Nat} (h:zms i=zms j):i=j:=by
 unfold zms at h
 injection h with h
 have h2:=List.toArray_inj h
 have h3:=(List.cons.inj h2).2
 rw [← zsl i,← zsl j,h3]
theorem zw1 {i:Nat} (h:i < 64):(zms i).size≤2097152:=by
 have h1:(natT i).length≤i+1:=zu4 i
 show (118::natT i).toArray.size≤_
 simp
 omega
def zfk (n:Nat):List ByteArray:=(List.range n).map zms
theorem zok (n:Nat):zfk (n+1)=zfk n++[zms n]:=by
 unfold zfk
 rw [List.range_succ,List.map_append]
 rfl
theorem zir (n:Nat):(zfk n).length=n:=by simp [zfk]
theorem zt1 {n:Nat} (h:n≤64):zeb (zfk n)=true:=by
 refine zti (by rw [zir];exact h) (fun x hx=>?_) ?_
 ·obtain ⟨i,hi,rfl⟩:=List.mem_map.1 hx
  exact zw0 (by have:=List.mem_range.1 hi;omega)
 ·unfold zfk
  rw [List.nodup_iff_pairwise_ne,List.pairwise_map]
  exact List.Pairwise.imp (fun hne e=>hne (z0p e)) List.nodup_range
theorem z0q {w:World} {V A R:Value} {t:TabL} {vs:List ByteArray} (h:tabE.rel w (Old w) [V,R] t) (hv:zai zaz w (Old w) A vs) (hc:capK A) (hn:vs.length≤2097152):tabE.rel w (Old w) [A,R] ⟨vs,t.rows⟩:=by
 obtain ⟨V',R',e,_,hr,_,hcr,_,hlr⟩:=h
 cases e
 exact ⟨_,_,rfl,hv,hr,hc,hcr,hn,hlr⟩
structure zt2 (wL:World) (go:Nat) (a b:TabL) (qB:Option Addr) (lB i:Nat) (A:Value) (wr:World):Prop where
 own:∃ xs,wr.ownsRow (go+1) 9 1 A i xs∧xs=(zfk i).map Value.string
 blk:wr.heap[go]?=some (.cells #[A,.slice qB b.rows.length lB] 25)
 bel:Below wL.heap.size wL wr
 out:∀ v∈a.vars,v ∉ zfk i
set_option maxHeartbeats 25600000 in
theorem bagsLaw (a b:TabL) (VA RA VB RB VV NN:Value) (lang:Int) (W:World) (hG:Gd W) (hT:Tab W) (h:ztn W a b VA RA VB RB) (hV:VV.oneCell'=true) (hN:NN.oneCell'=true):Calls Tryz.prog 7 #[.agg #[VA,RA,VB,RB,VV,.int .i64 lang,NN]] W fun e w'=>e=.returned (.bool true)∧Below W.heap.size W w':=by
 have HMAY:Hid (∀ w',Below W.heap.size W w'→Calls Tryz.prog 37 #[.agg #[VA,RA,VB,RB,VV,.int .i64 lang,NN]] w' fun e w2=>e=.returned (.bool (mayB a b))∧Below w'.heap.size w' w2):=Lib.hid fun w' k=>mayAt a b _ _ _ _ _ _ lang w' (h.below k) hV hN
 have HWK:Hid (∀ w',Below W.heap.size W w'→Calls Tryz.prog 11 #[] w' fun e w2=>e=.returned (.bool true)∧Below w'.heap.size w' w2):=Lib.hid fun w' k=>wakesAt w' (hG.below k)
 have HTB:Hid (∀ w',Below W.heap.size W w'→Tab w'):=Lib.hid fun w' k=>hT.below k
 have HP:Hid (mayB a b=true→z4c lang a b∧a.rows.length≤60∧b.rows.length≤60∧a.vars.length≤64∧b.vars.length≤64):=Lib.hid fun q=>by
  obtain ⟨h1,h2,h3,h4,h5,h6,h7,h8⟩:=zzy q h.wa h.wb
  exact ⟨bags_ok lang h1 h2 h3 h5 h6 h7 h8,h7,h8,by omega,by omega⟩
 have TA0:=zd2.of h.ha
 have TB0:=zd2.of h.hb
 obtain ⟨pA,kA,qA,lA,e1,e2⟩:=TA0.slices
 subst e1 e2
 obtain ⟨pB,kB,qB,lB,e1,e2⟩:=TB0.slices
 subst e1 e2
 obtain ⟨W1,hW1⟩:∃ W1,W1=W.alloc (.cells #[.slice pA a.vars.length kA,.slice qA a.rows.length lA,.slice pB b.vars.length kB,.slice qB b.rows.length lB,VV,.int .i64 lang,NN] 28):=⟨_,rfl⟩
 have b1:Below W.heap.size W W1:=by rw [hW1];exact zav _ _
 obtain ⟨g0,hg0⟩:∃ g0,g0=W.heap.size:=⟨_,rfl⟩
 have u1:W1.heap[g0]?=some (.cells #[.slice pA a.vars.length kA,.slice qA a.rows.length lA,.slice pB b.vars.length kB,.slice qB b.rows.length lB,VV,.int .i64 lang,NN] 28):=by rw [hW1,hg0];exact zaf _ _ rfl
 have HW:=Lib.hid hW1
 have HG0:=Lib.hid hg0
 replace TA0:=TA0.below b1
 replace TB0:=TB0.below b1
 replace hG:=hG.below b1
 obtain ⟨c0,hc0⟩:∃ c0,c0=mayB a b:=⟨_,rfl⟩
 rw [← hc0] at HMAY HP
 clear hW1 hg0 h hc0 hV hN hT
 cases c0 with
 | false=>
   go_enter Tryz.func7,Tryz.ntmps7
   go_upto_region 1 with fail
   rw [← HW.out,← HG0.out]
   go_wp2_with (first
    |((with_reducible refine zah (.tmp 1) g0 28 28 [.slice pA a.vars.length kA,.slice qA a.rows.length lA,.slice pB b.vars.length kB,.slice qB b.rows.length lB,VV,.int .i64 lang,NN] 7 _ u1 rfl Tryz.underlying28 rfl zeu ?_ ?_ ?_ ?_);rfl;rfl;rfl)
    |(go_at_call 37;(with_reducible refine (HMAY.out _ b1).mono ?_);rintro e w2 ⟨rfl,hb2⟩;replace b1:=zab b1 hb2 b1.size)
    |(go_at_call 11;(with_reducible refine (HWK.out _ b1).mono ?_);rintro e w3 ⟨rfl,hb3⟩;replace b1:=zab b1 hb3 b1.size))
   go_ret
   exact ⟨rfl,b1⟩
 | true=>
   obtain ⟨P,hna,hnb,hma,hmb⟩:=HP.out rfl
   have HPO:=Lib.hid P
   clear P HP
   go_enter Tryz.func7,Tryz.ntmps7
   go_upto_region 1 with fail
   rw [← HW.out,← HG0.out]
   go_upto_region 3 with (first
    |((with_reducible refine zah (.tmp 1) g0 28 28 [.slice pA a.vars.length kA,.slice qA a.rows.length lA,.slice pB b.vars.length kB,.slice qB b.rows.length lB,VV,.int .i64 lang,NN] 7 _ u1 rfl Tryz.underlying28 rfl zeu ?_ ?_ ?_ ?_);rfl;rfl;rfl)
    |(go_at_call 37;(with_reducible refine (HMAY.out _ b1).mono ?_);rintro e w2 ⟨rfl,hb2⟩))
   replace b1:=zab b1 hb2 b1.size
   replace TA0:=TA0.below hb2
   replace TB0:=TB0.below hb2
   replace hG:=hG.below hb2
   replace u1:=(hb2.block _ (zaa u1)).trans u1
   clear hb2 HMAY HW HG0
   have rA:w2.rangeAt g0 0 [.slice pA a.vars.length kA,.slice qA a.rows.length lA]:=zbo u1 [] [.slice pB b.vars.length kB,.slice qB b.rows.length lB,VV,.int .i64 lang,NN] rfl
   have rB:w2.rangeAt g0 2 [.slice pB b.vars.length kB,.slice qB b.rows.length lB]:=zbo u1 [.slice pA a.vars.length kA,.slice qA a.rows.length lA] [VV,.int .i64 lang,NN] rfl
   have HU:=Lib.hid (zth a b _ _ _ _ w2 hG TA0.here TB0.here HPO.out.n1)
   go_upto_region 4 with (first
    |((with_reducible refine za3 (.tmp 17) g0 0 25 [.slice pA a.vars.length kA,.slice qA a.rows.length lA] 2 _ rA rfl Tryz.underlying25 rfl zag ?_ ?_ ?_ ?_);rfl;rfl;rfl)
    |((with_reducible refine za3 (.tmp 19) g0 2 25 [.slice pB b.vars.length kB,.slice qB b.rows.length lB] 2 _ rB rfl Tryz.underlying25 rfl zag ?_ ?_ ?_ ?_);rfl;rfl;rfl)
    |(go_at_call 26;(with_reducible refine HU.out.mono ?_);rintro e wu hu;go_loud (obtain ⟨Vu,Ru,rfl,hbu,TU⟩:=zdc hu;obtain ⟨pu,ku,qu,lu,eu,fu⟩:=TU.slices;subst eu fu;clear hu)))
   obtain ⟨gu,hgu⟩:∃ gu,gu=wu.heap.size:=⟨_,rfl⟩
   obtain ⟨wub,hwu⟩:∃ wub,wub=wu.alloc (.cells #[.slice pu (zb9 a b).vars.length ku,.slice qu (zb9 a b).rows.length lu] 25):=⟨_,rfl⟩
   rw [← hwu,← hgu]
   have b34:Below wu.heap.size wu wub:=by rw [hwu];exact zav _ _
   have vu:wub.heap[gu]?=some (.cells #[.slice pu (zb9 a b).vars.length ku,.slice qu (zb9 a b).rows.length lu] 25):=by rw [hwu,hgu];exact zaf _ _ rfl
   have bz:=zab hbu b34 hbu.size
   replace TU:=TU.below b34
   replace u1:=(bz.block _ (zaa u1)).trans u1
   replace b1:=zab b1 bz b1.size
   replace hG:=hG.below bz
   replace TA0:=TA0.below bz
   replace TB0:=TB0.below bz
   clear bz
   clear b34 hbu hwu hgu HU rA rB
   have d5:=zad u1 5 rfl
   have rA:wub.rangeAt g0 0 [.slice pA a.vars.length kA,.slice qA a.rows.length lA]:=zbo u1 [] [.slice pB b.vars.length kB,.slice qB b.rows.length lB,VV,.int .i64 lang,NN] rfl
   have rB:wub.rangeAt g0 2 [.slice pB b.vars.length kB,.slice qB b.rows.length lB]:=zbo u1 [.slice pA a.vars.length kA,.slice qA a.rows.length lA] [VV,.int .i64 lang,NN] rfl
   have HU:=Lib.hid (z0k lang a _ _ wub hG (HTB.out _ b1) TA0.here)
   go_upto_region 5 with (first
    |((with_reducible refine za3 (.tmp 24) g0 0 25 [.slice pA a.vars.length kA,.slice qA a.rows.length lA] 2 _ rA rfl Tryz.underlying25 rfl zag ?_ ?_ ?_ ?_);rfl;rfl;rfl)
    |(go_at_call 22;(with_reducible refine HU.out.mono ?_);rintro e wc hu;go_loud (obtain ⟨Vc,Rc,rfl,hbc,TC⟩:=zdc hu;obtain ⟨pc,kc,qc,lc,ec,fc⟩:=TC.slices;subst ec fc;clear hu)))
   obtain ⟨gc,hgc⟩:∃ gc,gc=wc.heap.size:=⟨_,rfl⟩
   obtain ⟨wcb,hwc⟩:∃ wcb,wcb=wc.alloc (.cells #[.slice pc (za2 lang a).vars.length kc,.slice qc (za2 lang a).rows.length lc] 25):=⟨_,rfl⟩
   rw [← hwc,← hgc]
   have b34:Below wc.heap.size wc wcb:=by rw [hwc];exact zav _ _
   have vc:wcb.heap[gc]?=some (.cells #[.slice pc (za2 lang a).vars.length kc,.slice qc (za2 lang a).rows.length lc] 25):=by rw [hwc,hgc];exact zaf _ _ rfl
   have bz:=zab hbc b34 hbc.size
   replace TC:=TC.below b34
   replace u1:=(bz.block _ (zaa u1)).trans u1
   replace vu:=(bz.block _ (zaa vu)).trans vu
   replace b1:=zab b1 bz b1.size
   replace hG:=hG.below bz
   replace TA0:=TA0.below bz
   replace TB0:=TB0.below bz
   replace TU:=TU.below bz
   clear bz
   clear b34 hbc hwc hgc HU rA rB
   clear d5
   have rA:wcb.rangeAt g0 0 [.slice pA a.vars.length kA,.slice qA a.rows.length lA]:=zbo u1 [] [.slice pB b.vars.length kB,.slice qB b.rows.length lB,VV,.int .i64 lang,NN] rfl
   have rB:wcb.rangeAt g0 2 [.slice pB b.vars.length kB,.slice qB b.rows.length lB]:=zbo u1 [.slice pA a.vars.length kA,.slice qA a.rows.length lA] [VV,.int .i64 lang,NN] rfl
   have HU:=Lib.hid (zpf a _ _ wcb hG TA0.here HPO.out.va)
   go_upto_region 6 with (first
    |((with_reducible refine za3 (.tmp 27) g0 0 25 [.slice pA a.vars.length kA,.slice qA a.rows.length lA] 2 _ rA rfl Tryz.underlying25 rfl zag ?_ ?_ ?_ ?_);rfl;rfl;rfl)
    |(go_at_call 23;(with_reducible refine HU.out.mono ?_);rintro e wd hu;go_loud (obtain ⟨Vd,Rd,rfl,hbd,TD⟩:=zdc hu;obtain ⟨pd,kd,qd,ld,ed,fd⟩:=TD.slices;subst ed fd;clear hu)))
   obtain ⟨gd,hgd⟩:∃ gd,gd=wd.heap.size:=⟨_,rfl⟩
   obtain ⟨wdb,hwd⟩:∃ wdb,wdb=wd.alloc (.cells #[.slice pd (zc7 a).vars.length kd,.slice qd (zc7 a).rows.length ld] 25):=⟨_,rfl⟩
   rw [← hwd,← hgd]
   have b34:Below wd.heap.size wd wdb:=by rw [hwd];exact zav _ _
   have vd:wdb.heap[gd]?=some (.cells #[.slice pd (zc7 a).vars.length kd,.slice qd (zc7 a).rows.length ld] 25):=by rw [hwd,hgd];exact zaf _ _ rfl
   have bz:=zab hbd b34 hbd.size
   replace TD:=TD.below b34
   replace u1:=(bz.block _ (zaa u1)).trans u1
   replace vu:=(bz.block _ (zaa vu)).trans vu
   replace vc:=(bz.block _ (zaa vc)).trans vc
   replace b1:=zab b1 bz b1.size
   replace hG:=hG.below bz
   replace TA0:=TA0.below bz
   replace TB0:=TB0.below bz
   replace TU:=TU.below bz
   replace TC:=TC.below bz
   clear bz
   clear b34 hbd hwd hgd HU rA rB
   have rA:wdb.rangeAt g0 0 [.slice pA a.vars.length kA,.slice qA a.rows.length lA]:=zbo u1 [] [.slice pB b.vars.length kB,.slice qB b.rows.length lB,VV,.int .i64 lang,NN] rfl
   have rB:wdb.rangeAt g0 2 [.slice pB b.vars.length kB,.slice qB b.rows.length lB]:=zbo u1 [.slice pA a.vars.length kA,.slice qA a.rows.length lA] [VV,.int .i64 lang,NN] rfl
   have HU:=Lib.hid (zte a a _ _ _ _ wdb hG TA0.here TA0.here HPO.out.wm)
   go_upto_region 7 with (first
    |((with_reducible refine za3 (.tmp 30) g0 0 25 [.slice pA a.vars.length kA,.slice qA a.rows.length lA] 2 _ rA rfl Tryz.underlying25 rfl zag ?_ ?_ ?_ ?_);rfl;rfl;rfl)
    |((with_reducible refine za3 (.tmp 32) g0 0 25 [.slice pA a.vars.length kA,.slice qA a.rows.length lA] 2 _ rA rfl Tryz.underlying25 rfl zag ?_ ?_ ?_ ?_);rfl;rfl;rfl)
    |(go_at_call 27;(with_reducible refine HU.out.mono ?_);rintro e wm hu;go_loud (obtain ⟨Vm,Rm,rfl,hbm,TM⟩:=zdc hu;obtain ⟨pm,km,qm,lm,em,fm⟩:=TM.slices;subst em fm;clear hu)))
   obtain ⟨gm,hgm⟩:∃ gm,gm=wm.heap.size:=⟨_,rfl⟩
   obtain ⟨wmb,hwm⟩:∃ wmb,wmb=wm.alloc (.cells #[.slice pm (zcd a a).vars.length km,.slice qm (zcd a a).rows.length lm] 25):=⟨_,rfl⟩
   rw [← hwm,← hgm]
   have b34:Below wm.heap.size wm wmb:=by rw [hwm];exact zav _ _
   have vm:wmb.heap[gm]?=some (.cells #[.slice pm (zcd a a).vars.length km,.slice qm (zcd a a).rows.length lm] 25):=by rw [hwm,hgm];exact zaf _ _ rfl
   have bz:=zab hbm b34 hbm.size
   replace TM:=TM.below b34
   replace u1:=(bz.block _ (zaa u1)).trans u1
   replace vu:=(bz.block _ (zaa vu)).trans vu
   replace vc:=(bz.block _ (zaa vc)).trans vc
   replace vd:=(bz.block _ (zaa vd)).trans vd
   replace b1:=zab b1 bz b1.size
   replace hG:=hG.below bz
   replace TA0:=TA0.below bz
   replace TB0:=TB0.below bz
   replace TU:=TU.below bz
   replace TC:=TC.below bz
   replace TD:=TD.below bz
   clear bz
   clear b34 hbm hwm hgm HU rA rB
   obtain ⟨nu,hnu⟩:∃ nu,nu=(zb9 a b).rows.length:=⟨_,rfl⟩
   have hnu2:nu=a.rows.length+b.rows.length:=hnu.trans HPO.out.hu
   have hnw:IntKind.i64.wrap (nu:Int)=nu:=zpw (by omega)
   have hadd:(a.rows.length:Int)+(b.rows.length:Int)=(nu:Int):=by omega
   have hnd:decide (((zc7 a).rows.length:Int) > (a.rows.length:Int))=false:=decide_eq_false (by have:=HPO.out.ld;omega)
   have hnd2:decide ((a.rows.length:Int) < ((zc7 a).rows.length:Int))=false:=decide_eq_false (by have:=HPO.out.ld;omega)
   rw [← hnu] at vu
   have HNU:=Lib.hid (And.intro hnu hnu2)
   clear hnu hnu2
   refine wp_region_held_drew (S:=fun W'=>W'.heap[g0]?=some (.cells #[.slice pA a.vars.length kA,.slice qA a.rows.length lA,.slice pB b.vars.length kB,.slice qB b.rows.length lB,VV,.int .i64 lang,NN] 28)∧W'.heap[gu]?=some (.cells #[.slice pu (zb9 a b).vars.length ku,.slice qu nu lu] 25)∧W'.heap[gc]?=some (.cells #[.slice pc (za2 lang a).vars.length kc,.slice qc (za2 lang a).rows.length lc] 25)∧W'.heap[gd]?=some (.cells #[.slice pd (zc7 a).vars.length kd,.slice qd (zc7 a).rows.length ld] 25)∧W'.heap[gm]?=some (.cells #[.slice pm (zcd a a).vars.length km,.slice qm (zcd a a).rows.length lm] 25)) (by kernel_rfl) ⟨u1,vu,vc,vd,vm⟩ (fun hh=>?_)
   have hh1:=hh.1
   have hh2:=hh.2.1
   have hh3:=hh.2.2.1
   have hh4:=hh.2.2.2.1
   have hh5:=hh.2.2.2.2
   clear hh
   have bq:Below wmb.heap.size wmb wmb.drew:=(Below.refl _ _).drew
   replace b1:=zab b1 bq b1.size
   replace hG:=hG.below bq
   replace TA0:=TA0.below bq
   replace TB0:=TB0.below bq
   replace TC:=TC.below bq
   replace TD:=TD.below bq
   replace TM:=TM.below bq
   clear bq u1 vu vc vd vm TU
   generalize wmb.drew=wD at*
   refine tg (i:=0) (.pointer (some ⟨gu,1,none⟩)) rfl (⟨hh1,hh2,hh3,hh4,hh5⟩) ?_
   refine tg (i:=3) (.pointer (some ⟨g0,0,none⟩)) rfl (⟨hh1,hh2,hh3,hh4,hh5⟩) ?_
   refine tg (i:=7) (.pointer (some ⟨g0,2,none⟩)) rfl (⟨hh1,hh2,hh3,hh4,hh5⟩) ?_
   refine tk (i:=1) (v:=.slice qu nu lu) rfl (Or.inl ⟨by rfl,fun W' h=>by have c0:=zad h.2.1 1 rfl;go_simp⟩) (⟨hh1,hh2,hh3,hh4,hh5⟩) ?_
   refine tg (i:=4) (.pointer (some ⟨g0,1,none⟩)) rfl (⟨hh1,hh2,hh3,hh4,hh5⟩) ?_
   refine tg (i:=8) (.pointer (some ⟨g0,3,none⟩)) rfl (⟨hh1,hh2,hh3,hh4,hh5⟩) ?_
   refine tg (i:=2) (.int .i64 (nu:Int)) rfl (⟨hh1,hh2,hh3,hh4,hh5⟩) ?_
   refine tk (i:=5) (v:=.slice qA a.rows.length lA) rfl (Or.inl ⟨by rfl,fun W' h=>by have c0:=zad h.1 1 rfl;go_simp⟩) (⟨hh1,hh2,hh3,hh4,hh5⟩) ?_
   refine tk (i:=9) (v:=.slice qB b.rows.length lB) rfl (Or.inl ⟨by rfl,fun W' h=>by have c0:=zad h.1 3 rfl;go_simp⟩) (⟨hh1,hh2,hh3,hh4,hh5⟩) ?_
   refine tg (i:=6) (.int .i64 (a.rows.length:Int)) rfl (⟨hh1,hh2,hh3,hh4,hh5⟩) ?_
   refine tg (i:=10) (.int .i64 (b.rows.length:Int)) rfl (⟨hh1,hh2,hh3,hh4,hh5⟩) ?_
   refine tg (i:=11) (.int .i64 (nu:Int)) rfl (⟨hh1,hh2,hh3,hh4,hh5⟩) ?_
   refine tg (i:=12) (.bool false) rfl (⟨hh1,hh2,hh3,hh4,hh5⟩) ?_
   refine tg (i:=13) (.bool false) rfl (⟨hh1,hh2,hh3,hh4,hh5⟩) ?_
   refine tk (i:=14) (v:=.agg #[.slice pc (za2 lang a).vars.length kc,.slice qc (za2 lang a).rows.length lc]) rfl (yieldsIf_load_mid (by rfl) 25 (.tmp 4) rfl gc 0 rfl [.slice pc (za2 lang a).vars.length kc,.slice qc (za2 lang a).rows.length lc] _ (fun W h=>zce h.2.2.1 0 _ (fun j v hv=>by match j,hv with | 0,e | 1,e=>simpa using e | j+2,e=>simp at e)) Tryz.underlying25 rfl zag) (⟨hh1,hh2,hh3,hh4,hh5⟩) ?_
   refine tg (i:=15) (.pointer (some ⟨g0,0,none⟩)) rfl (⟨hh1,hh2,hh3,hh4,hh5⟩) ?_
   refine tk (i:=16) (v:=.agg #[.slice pA a.vars.length kA,.slice qA a.rows.length lA]) rfl (yieldsIf_load_mid (by rfl) 25 (.tmp 50) rfl g0 0 rfl [.slice pA a.vars.length kA,.slice qA a.rows.length lA] _ (fun W h=>zbo h.1 [] ([.slice pB b.vars.length kB,.slice qB b.rows.length lB]++[VV,.int .i64 lang,NN]) rfl) Tryz.underlying25 rfl zag) (⟨hh1,hh2,hh3,hh4,hh5⟩) ?_
   refine tr 17 rfl (fun K hK=>?_)
   try rw [if_pos (by rfl)]
   go_simp
   refine (zn8 (za2 lang a) a _ _ _ _ wD hG TC.here TA0.here HPO.out.vc HPO.out.va).mono ?_
   rintro e17 w17_ ⟨rfl,hb17⟩
   rw [HPO.out.hs]
   replace hh1:=(hb17.block _ (zaa hh1)).trans hh1
   replace hh2:=(hb17.block _ (zaa hh2)).trans hh2
   replace hh3:=(hb17.block _ (zaa hh3)).trans hh3
   replace hh4:=(hb17.block _ (zaa hh4)).trans hh4
   replace hh5:=(hb17.block _ (zaa hh5)).trans hh5
   replace b1:=zab b1 hb17 b1.size
   replace hG:=hG.below hb17
   replace TA0:=TA0.below hb17
   replace TB0:=TB0.below hb17
   replace TC:=TC.below hb17
   replace TD:=TD.below hb17
   replace TM:=TM.below hb17
   clear hb17
   refine hK.out _ _ (⟨hh1,hh2,hh3,hh4,hh5⟩) (fun _=>?_)
   clear hK K
   try simp only [putS]
   refine tg (i:=18) (.bool false) rfl (⟨hh1,hh2,hh3,hh4,hh5⟩) ?_
   refine tg (i:=19) (.bool false) rfl (⟨hh1,hh2,hh3,hh4,hh5⟩) ?_
   refine tg (i:=20) (.bool false) rfl (⟨hh1,hh2,hh3,hh4,hh5⟩) ?_
   refine tg (i:=21) (.pointer (some ⟨g0,5,none⟩)) rfl (⟨hh1,hh2,hh3,hh4,hh5⟩) ?_
   refine tk (i:=23) (v:=.agg #[.slice pc (za2 lang a).vars.length kc,.slice qc (za2 lang a).rows.length lc]) rfl (yieldsIf_load_mid (by rfl) 25 (.tmp 4) rfl gc 0 rfl [.slice pc (za2 lang a).vars.length kc,.slice qc (za2 lang a).rows.length lc] _ (fun W h=>zce h.2.2.1 0 _ (fun j v hv=>by match j,hv with | 0,e | 1,e=>simpa using e | j+2,e=>simp at e)) Tryz.underlying25 rfl zag) (⟨hh1,hh2,hh3,hh4,hh5⟩) ?_
   refine tk (i:=25) (v:=.agg #[.slice pc (za2 lang a).vars.length kc,.slice qc (za2 lang a).rows.length lc]) rfl (yieldsIf_load_mid (by rfl) 25 (.tmp 4) rfl gc 0 rfl [.slice pc (za2 lang a).vars.length kc,.slice qc (za2 lang a).rows.length lc] _ (fun W h=>zce h.2.2.1 0 _ (fun j v hv=>by match j,hv with | 0,e | 1,e=>simpa using e | j+2,e=>simp at e)) Tryz.underlying25 rfl zag) (⟨hh1,hh2,hh3,hh4,hh5⟩) ?_
   refine tk (i:=22) (v:=.int .i64 lang) rfl (Or.inl ⟨by rfl,fun W' h=>by have c0:=zad h.1 5 rfl;go_simp⟩) (⟨hh1,hh2,hh3,hh4,hh5⟩) ?_
   refine tr 24 rfl (fun K hK=>?_)
   try rw [if_pos (by rfl)]
   go_simp
   refine (z0k lang (za2 lang a) _ _ w17_ hG (HTB.out _ b1) TC.here).mono ?_
   rintro e24 w24_ h24
   obtain ⟨V24,R24,rfl,hb24,C2⟩:=zdc h24
   clear h24
   rw [HPO.out.hc] at C2
   replace hh1:=(hb24.block _ (zaa hh1)).trans hh1
   replace hh2:=(hb24.block _ (zaa hh2)).trans hh2
   replace hh3:=(hb24.block _ (zaa hh3)).trans hh3
   replace hh4:=(hb24.block _ (zaa hh4)).trans hh4
   replace hh5:=(hb24.block _ (zaa hh5)).trans hh5
   replace b1:=zab b1 hb24 b1.size
   replace hG:=hG.below hb24
   replace TA0:=TA0.below hb24
   replace TB0:=TB0.below hb24
   replace TC:=TC.below hb24
   replace TD:=TD.below hb24
   replace TM:=TM.below hb24
   clear hb24
   refine hK.out _ _ (⟨hh1,hh2,hh3,hh4,hh5⟩) (fun _=>?_)
   clear hK K
   try simp only [putS]
   refine tr 26 rfl (fun K hK=>?_)
   try rw [if_pos (by rfl)]
   go_simp
   refine (zsc (za2 lang a) _ _ _ _ w24_ C2.here TC.here).mono ?_
   rintro e26 w26_ ⟨rfl,hb26⟩
   replace hh1:=(hb26.block _ (zaa hh1)).trans hh1
   replace hh2:=(hb26.block _ (zaa hh2)).trans hh2
   replace hh3:=(hb26.block _ (zaa hh3)).trans hh3
   replace hh4:=(hb26.block _ (zaa hh4)).trans hh4
   replace hh5:=(hb26.block _ (zaa hh5)).trans hh5
   replace b1:=zab b1 hb26 b1.size
   replace hG:=hG.below hb26
   replace TA0:=TA0.below hb26
   replace TB0:=TB0.below hb26
   replace TC:=TC.below hb26
   replace TD:=TD.below hb26
   replace TM:=TM.below hb26
   replace C2:=C2.below hb26
   clear hb26
   clear C2
   refine hK.out _ _ (⟨hh1,hh2,hh3,hh4,hh5⟩) (fun _=>?_)
   clear hK K
   try simp only [putS]
   refine tg (i:=27) (.bool false) rfl (⟨hh1,hh2,hh3,hh4,hh5⟩) ?_
   refine tg (i:=28) (.bool false) rfl (⟨hh1,hh2,hh3,hh4,hh5⟩) ?_
   refine tg (i:=29) (.bool false) rfl (⟨hh1,hh2,hh3,hh4,hh5⟩) ?_
   refine tk (i:=30) (v:=.agg #[.slice pd (zc7 a).vars.length kd,.slice qd (zc7 a).rows.length ld]) rfl (yieldsIf_load_mid (by rfl) 25 (.tmp 5) rfl gd 0 rfl [.slice pd (zc7 a).vars.length kd,.slice qd (zc7 a).rows.length ld] _ (fun W h=>zce h.2.2.2.1 0 _ (fun j v hv=>by match j,hv with | 0,e | 1,e=>simpa using e | j+2,e=>simp at e)) Tryz.underlying25 rfl zag) (⟨hh1,hh2,hh3,hh4,hh5⟩) ?_
   refine tk (i:=32) (v:=.agg #[.slice pd (zc7 a).vars.length kd,.slice qd (zc7 a).rows.length ld]) rfl (yieldsIf_load_mid (by rfl) 25 (.tmp 5) rfl gd 0 rfl [.slice pd (zc7 a).vars.length kd,.slice qd (zc7 a).rows.length ld] _ (fun W h=>zce h.2.2.2.1 0 _ (fun j v hv=>by match j,hv with | 0,e | 1,e=>simpa using e | j+2,e=>simp at e)) Tryz.underlying25 rfl zag) (⟨hh1,hh2,hh3,hh4,hh5⟩) ?_
   refine tr 31 rfl (fun K hK=>?_)
   try rw [if_pos (by rfl)]
   go_simp
   refine (zpf (zc7 a) _ _ w26_ hG TD.here HPO.out.vd).mono ?_
   rintro e31 w31_ h31
   obtain ⟨V31,R31,rfl,hb31,D2⟩:=zdc h31
   clear h31
   rw [HPO.out.hd] at D2
   replace hh1:=(hb31.block _ (zaa hh1)).trans hh1
   replace hh2:=(hb31.block _ (zaa hh2)).trans hh2
   replace hh3:=(hb31.block _ (zaa hh3)).trans hh3
   replace hh4:=(hb31.block _ (zaa hh4)).trans hh4
   replace hh5:=(hb31.block _ (zaa hh5)).trans hh5
   replace b1:=zab b1 hb31 b1.size
   replace hG:=hG.below hb31
   replace TA0:=TA0.below hb31
   replace TB0:=TB0.below hb31
   replace TC:=TC.below hb31
   replace TD:=TD.below hb31
   replace TM:=TM.below hb31
   clear hb31
   refine hK.out _ _ (⟨hh1,hh2,hh3,hh4,hh5⟩) (fun _=>?_)
   clear hK K
   try simp only [putS]
   refine tr 33 rfl (fun K hK=>?_)
   try rw [if_pos (by rfl)]
   go_simp
   refine (zsc (zc7 a) _ _ _ _ w31_ D2.here TD.here).mono ?_
   rintro e33 w33_ ⟨rfl,hb33⟩
   replace hh1:=(hb33.block _ (zaa hh1)).trans hh1
   replace hh2:=(hb33.block _ (zaa hh2)).trans hh2
   replace hh3:=(hb33.block _ (zaa hh3)).trans hh3
   replace hh4:=(hb33.block _ (zaa hh4)).trans hh4
   replace hh5:=(hb33.block _ (zaa hh5)).trans hh5
   replace b1:=zab b1 hb33 b1.size
   replace hG:=hG.below hb33
   replace TA0:=TA0.below hb33
   replace TB0:=TB0.below hb33
   replace TC:=TC.below hb33
   replace TD:=TD.below hb33
   replace TM:=TM.below hb33
   replace D2:=D2.below hb33
   clear hb33
   clear D2
   refine hK.out _ _ (⟨hh1,hh2,hh3,hh4,hh5⟩) (fun _=>?_)
   clear hK K
   try simp only [putS]
   refine tg (i:=34) (.bool false) rfl (⟨hh1,hh2,hh3,hh4,hh5⟩) ?_
   refine tg (i:=35) (.bool false) rfl (⟨hh1,hh2,hh3,hh4,hh5⟩) ?_
   refine tg (i:=36) (.bool false) rfl (⟨hh1,hh2,hh3,hh4,hh5⟩) ?_
   refine tg (i:=37) (.pointer (some ⟨gd,1,none⟩)) rfl (⟨hh1,hh2,hh3,hh4,hh5⟩) ?_
   refine tg (i:=40) (.pointer (some ⟨g0,0,none⟩)) rfl (⟨hh1,hh2,hh3,hh4,hh5⟩) ?_
   refine tk (i:=38) (v:=.slice qd (zc7 a).rows.length ld) rfl (Or.inl ⟨by rfl,fun W' h=>by have c0:=zad h.2.2.2.1 1 rfl;go_simp⟩) (⟨hh1,hh2,hh3,hh4,hh5⟩) ?_
   refine tg (i:=41) (.pointer (some ⟨g0,1,none⟩)) rfl (⟨hh1,hh2,hh3,hh4,hh5⟩) ?_
   refine tg (i:=39) (.int .i64 ((zc7 a).rows.length:Int)) rfl (⟨hh1,hh2,hh3,hh4,hh5⟩) ?_
   refine tk (i:=42) (v:=.slice qA a.rows.length lA) rfl (Or.inl ⟨by rfl,fun W' h=>by have c0:=zad h.1 1 rfl;go_simp⟩) (⟨hh1,hh2,hh3,hh4,hh5⟩) ?_
   refine tg (i:=43) (.int .i64 (a.rows.length:Int)) rfl (⟨hh1,hh2,hh3,hh4,hh5⟩) ?_
   refine tk (i:=44) (v:=.bool false) rfl (Or.inl ⟨by rfl,fun W _=>by go_simp;exact HPO.out.ld⟩) (⟨hh1,hh2,hh3,hh4,hh5⟩) ?_
   refine tg (i:=45) (.bool false) rfl (⟨hh1,hh2,hh3,hh4,hh5⟩) ?_
   refine wpAnyH_done (by kernel_rfl) ?_ _
   have HU1:=Lib.hid hh1
   have HV1:=Lib.hid hh3
   have HV2:=Lib.hid hh5
   have HA:=Lib.hid TA0
   have HB:=Lib.hid TB0
   have HC:=Lib.hid TC
   have HM:=Lib.hid TM
   have HGL:=Lib.hid hG
   have HBL:=Lib.hid b1
   clear hh1 hh2 hh3 hh4 hh5 TD TA0 TB0 TC TM hG b1 hadd hnw hnd hnd2 HNU
   generalize w33_=wL at*
   have hnc:(za2 lang a).rows.length≤60:=by
    rw [HPO.out.nc]
    exact hna
   have hnm:(zcd a a).rows.length≤60:=Nat.le_trans HPO.out.lm hna
   go_wp2_with fail
   go_loopg [7] (za2 lang a).rows.length (fun gg s7 wr=>∃ i:Nat,i+gg=(za2 lang a).rows.length+1∧1≤i∧s7=.int .i64 i∧Hid (Below wL.heap.size wL wr))
   case atStart=>exact ⟨1,by omega,by omega,rfl,Lib.hid (Below.refl _ _)⟩
   case round=>
    obtain ⟨i,hig,hi1,rfl,HR⟩:=hrel
    have x1:=(HR.out.block _ (zaa HU1.out)).trans HU1.out
    have c1:wr.cell? ⟨gc,1,none⟩=some (.slice qc (za2 lang a).rows.length lc):=zad ((HR.out.block _ (zaa HV1.out)).trans HV1.out) 1 rfl
    by_cases hi:(i:Int) < (za2 lang a).rows.length
    ·have hi2:i < (za2 lang a).rows.length:=by omega
     obtain ⟨j,hj⟩:∃ j,j+1=i:=⟨i - 1,by omega⟩
     have hj2:j < (za2 lang a).rows.length:=by omega
     have hji:(i:Int) - 1=j:=by omega
     have hjn:(j:Int) < (za2 lang a).rows.length:=by omega
     have hjw:IntKind.i64.wrap (j:Int)=j:=zpw (by omega)
     have HJ:=Lib.hid hj
     have TCr:=HC.out.below HR.out
     obtain ⟨gr,oc,l_c,pX,kX,eR,zX,hsX,hlX⟩:=TCr.rowIn hj2
     injection eR with eq1 eq2 eq3
     subst eq1 eq3
     obtain ⟨gr2,oc2,l_c2,pY,kY,eR,zY,hsY,hlY⟩:=TCr.rowIn hi2
     injection eR with eq4 eq5 eq6
     injection eq4 with eq7
     injection eq7 with eq8 eq9
     subst eq8 eq9 eq6
     obtain ⟨z,hz⟩:∃ z,z=za5 lang (za2 lang a).rows[j] (za2 lang a).rows[i]:=⟨_,rfl⟩
     have hz0:z≤0:=by
      rw [hz]
      exact HPO.out.so j i hj2 hi2 (by omega)
     have hzd:decide (0 < z)=false:=decide_eq_false (by omega)
     obtain ⟨lnX,hlnX⟩:∃ lnX,lnX=(za2 lang a).rows[j].length:=⟨_,rfl⟩
     obtain ⟨lnY,hlnY⟩:∃ lnY,lnY=(za2 lang a).rows[i].length:=⟨_,rfl⟩
     rw [← hlnX] at zX hsX
     rw [← hlnY] at zY hsY
     have HCP:Hid (∀ w',Below wr.heap.size wr w'→Calls Tryz.prog 32 #[.int .i64 lang,.slice pX lnX kX,.slice pY lnY kY] w' fun e w2=>e=.returned (.int .i64 z)∧Below w'.heap.size w' w2):=Lib.hid fun w' k=>by
      have h:=z0d lang (za2 lang a).rows[j] (za2 lang a).rows[i] _ _ _ _ w' (HGL.out.below (HR.out.trans (k.mono HR.out.size))) (HTB.out w' (HBL.out.trans ((HR.out.trans (k.mono HR.out.size)).mono HBL.out.size))) (hsX.stays (zae k)) (hsY.stays (zae k)) hlX hlY
      rw [← hz] at h
      exact h.mono fun e w2 q=>⟨q.1,q.2.is⟩
     clear hz hz0 hsX hsY hlnX hlnY TCr eq2 eq5 hlX hlY hj
     go_upto_region 12 with fail
     refine wp_region_held_drew (S:=fun W'=>W'.heap[g0]?=some (.cells #[.slice pA a.vars.length kA,.slice qA a.rows.length lA,.slice pB b.vars.length kB,.slice qB b.rows.length lB,VV,.int .i64 lang,NN] 28)∧W'.cell? ⟨gc,1,none⟩=some (.slice (some ⟨gr,oc,none⟩) (za2 lang a).rows.length lc)∧W'.cell? ⟨gr,oc+j,none⟩=some (.slice pX lnX kX)∧W'.cell? ⟨gr,oc+i,none⟩=some (.slice pY lnY kY)) (by kernel_rfl) ⟨x1,c1,zX,zY⟩ (fun hh=>?_)
     have hh1:=hh.1
     have hh2:=hh.2.1
     have hh3:=hh.2.2.1
     have hh4:=hh.2.2.2
     have bk:=(Below.refl wr.heap.size wr).drew
     clear hh x1 c1 zX zY
     generalize wr.drew=wD at*
     refine tg (i:=0) (.pointer (some ⟨g0,5,none⟩)) rfl (⟨hh1,hh2,hh3,hh4⟩) ?_
     refine tg (i:=2) (.pointer (some ⟨gc,1,none⟩)) rfl (⟨hh1,hh2,hh3,hh4⟩) ?_
     refine tg (i:=4) (.int .i64 (i:Int)) rfl (⟨hh1,hh2,hh3,hh4⟩) ?_
     refine tg (i:=8) (.pointer (some ⟨gc,1,none⟩)) rfl (⟨hh1,hh2,hh3,hh4⟩) ?_
     refine tg (i:=10) (.int .i64 (i:Int)) rfl (⟨hh1,hh2,hh3,hh4⟩) ?_
     refine tk (i:=1) (v:=.int .i64 lang) rfl (Or.inl ⟨by rfl,fun W' h=>by have c0:=zad h.1 5 rfl;go_simp⟩) (⟨hh1,hh2,hh3,hh4⟩) ?_
     refine tk (i:=3) (v:=.slice (some ⟨gr,oc,none⟩) (za2 lang a).rows.length lc) rfl (Or.inl ⟨by rfl,fun W' h=>by have c0:=h.2.1;go_simp⟩) (⟨hh1,hh2,hh3,hh4⟩) ?_
     refine tg (i:=5) (.int .i64 (j:Int)) rfl (⟨hh1,hh2,hh3,hh4⟩) ?_
     refine tk (i:=9) (v:=.slice (some ⟨gr,oc,none⟩) (za2 lang a).rows.length lc) rfl (Or.inl ⟨by rfl,fun W' h=>by have c0:=h.2.1;go_simp⟩) (⟨hh1,hh2,hh3,hh4⟩) ?_
     refine tg (i:=6) (.pointer (some ⟨gr,oc+j,none⟩)) rfl (⟨hh1,hh2,hh3,hh4⟩) ?_
     refine tg (i:=11) (.pointer (some ⟨gr,oc+i,none⟩)) rfl (⟨hh1,hh2,hh3,hh4⟩) ?_
     refine tk (i:=7) (v:=.slice pX lnX kX) rfl (Or.inl ⟨by rfl,fun W' h=>by have c0:=h.2.2.1;go_simp⟩) (⟨hh1,hh2,hh3,hh4⟩) ?_
     refine tk (i:=12) (v:=.slice pY lnY kY) rfl (Or.inl ⟨by rfl,fun W' h=>by have c0:=h.2.2.2;go_simp⟩) (⟨hh1,hh2,hh3,hh4⟩) ?_
     refine tr 13 rfl (fun K hK=>?_)
     try rw [if_pos (by rfl)]
     go_simp
     refine (HCP.out _ bk).mono ?_
     rintro e13 w13 ⟨rfl,hb13⟩
     replace hh1:=(hb13.block _ (zaa hh1)).trans hh1
     replace hh2:=zbj hh2 hb13
     replace hh3:=zbj hh3 hb13
     replace hh4:=zbj hh4 hb13
     replace bk:=zab bk hb13 bk.size
     clear hb13
     refine hK.out _ _ (⟨hh1,hh2,hh3,hh4⟩) (fun _=>?_)
     clear hK K
     try simp only [putS]
     refine tg (i:=14) (.bool false) rfl (⟨hh1,hh2,hh3,hh4⟩) ?_
     refine wpAnyH_done (by kernel_rfl) ?_ _
     have HR2:=Lib.hid (HR.out.trans (bk.mono HR.out.size))
     clear hh1 hh2 hh3 hh4 bk HR
     go_wp2_with fail
     go_roundg (gk - 1)
     case measure=>omega
     case rel=>exact ⟨i+1,by omega,by omega,by go_num,HR2⟩
    ·go_wp2_with fail
     clear x1 c1 hi
     go_loopg [8] (zcd a a).rows.length (fun gg s8 wr=>∃ i:Nat,i+gg=(zcd a a).rows.length∧s8=.int .i64 i∧Hid (Below wL.heap.size wL wr))
     case atStart=>exact ⟨0,by omega,rfl,HR⟩
     case round=>
      clear HR hig hi1
      obtain ⟨i,hig,rfl,HR⟩:=hrel
      have c1:wr.cell? ⟨gm,1,none⟩=some (.slice qm (zcd a a).rows.length lm):=zad ((HR.out.block _ (zaa HV2.out)).trans HV2.out) 1 rfl
      by_cases hi:(i:Int) < (zcd a a).rows.length
      ·have hi2:i < (zcd a a).rows.length:=by omega
       obtain ⟨lnX,hlnX⟩:∃ lnX,lnX=(zcd a a).rows[i].length:=⟨_,rfl⟩
       have HLN:=Lib.hid hlnX
       clear hlnX
       go_wp2_with fail
       go_loopg [9] lnX (fun gg s9 wr=>∃ k:Nat,k+gg=lnX∧s9=.int .i64 k∧Hid (Below wL.heap.size wL wr))
       case atStart=>exact ⟨0,by omega,rfl,HR⟩
       case round=>
        clear HR c1
        obtain ⟨k,hkg,rfl,HR⟩:=hrel
        have TMr:=HM.out.below HR.out
        have c1:wr.cell? ⟨gm,1,none⟩=some (.slice qm (zcd a a).rows.length lm):=zad ((HR.out.block _ (zaa HV2.out)).trans HV2.out) 1 rfl
        obtain ⟨gr,om,l_m,pX,kX,eR,zX,hsX,_⟩:=TMr.rowIn hi2
        injection eR with eq1 eq2 eq3
        subst eq1 eq3
        rw [← HLN.out] at zX
        by_cases hk:(k:Int) < lnX
        ·have hk2:k < (zcd a a).rows[i].length:=by rw [← HLN.out];omega
         obtain ⟨gv,ov,kv,c,e0,_,hv,hra⟩:=hsX.at_ k hk2
         injection e0 with e01 e02 e03
         subst e01 e03
         have hkd:zz6 ((zcd a a).rows[i][k])=0:=by
          have hb0:=HPO.out.hm _ (List.getElem_mem hi2) _ (List.getElem_mem hk2)
          by_cases q:zz6 ((zcd a a).rows[i][k])=0
          ·exact q
          ·rw [zwr.2 q] at hb0
           cases hb0
         have hv0:=z2q hv
         rw [hkd] at hv0
         have z0:wr.cell? ⟨gv,ov+k*6,none⟩=some (.int .i64 0):=zz7 hra hv0
         clear hv hra hv0 hkd hsX TMr eq2 e02
         go_wp2_with fail
         go_roundg (gk - 1)
         case measure=>omega
         case rel=>exact ⟨k+1,by omega,by go_num,HR⟩
        ·clear hsX TMr eq2
         go_wp2_with fail
         go_roundg ((zcd a a).rows.length - i - 1)
         case measure=>omega
         case rel=>exact ⟨i+1,by omega,by go_num,HR⟩
      ·have x1:=(HR.out.block _ (zaa HU1.out)).trans HU1.out
       have c3:wr.cell? ⟨g0,3,none⟩=some (.slice qB b.rows.length lB):=zad x1 3 rfl
       clear x1
       go_upto_region 23 with fail
       clear c1 hi c3 hig
       obtain ⟨go,hgo⟩:∃ go,go=wr.heap.size:=⟨_,rfl⟩
       obtain ⟨wO,hwO⟩:∃ wO,wO=wr.alloc (.cells #[.slice none 0 0,.slice qB b.rows.length lB] 25):=⟨_,rfl⟩
       rw [← hwO,← hgo]
       have n0:zt2 wL go a b qB lB 0 (.slice none 0 0) wO:=⟨⟨[],World.ownsRow_nil _ _ _ _,rfl⟩,by rw [hwO,hgo];exact zaf _ _ rfl,by rw [hwO];exact HR.out.alloc HR.out.size _,fun v _ h=>by simp [zfk] at h⟩
       have hgL:wL.heap.size≤go:=by rw [hgo];exact HR.out.size
       have HN0:=Lib.hid n0
       clear hwO hgo n0 HR
       go_wp2_with fail
       go_loopg [11] b.vars.length (fun gg s11 wr=>∃ (i:Nat) (A:Value),i+gg=b.vars.length∧s11=.int .i64 i∧Hid (zt2 wL go a b qB lB i A wr))
       case atStart=>exact ⟨0,.slice none 0 0,by omega,rfl,HN0⟩
       case round=>
        clear HN0
        obtain ⟨i,A,hig,rfl,HNM⟩:=hrel
        have hx:=(HNM.out.bel.block _ (zaa HU1.out)).trans HU1.out
        have c2:wr.cell? ⟨g0,2,none⟩=some (.slice pB b.vars.length kB):=zad hx 2 rfl
        by_cases hi:(i:Int) < b.vars.length
        ·have hnum:=z0m i (by omega) wr
         obtain ⟨t,ht⟩:∃ t,t=natT i:=⟨_,rfl⟩
         rw [← ht] at hnum
         have htl:¬9223372036854775807 < 1+t.length:=by
          have:=zu4 i
          rw [← ht] at this
          omega
         have HNU:=Lib.hid hnum
         have HT:=Lib.hid ht
         clear hnum ht hx
         go_upto_region 27 with (first
          |(go_at_call 40;(with_reducible refine HNU.out.mono ?_);rintro e w2 ⟨rfl,hb2⟩))
         have hvn:(⟨#[118]⟩++⟨t.toArray⟩:ByteArray)=zms i:=by
          unfold zms
          rw [← HT.out]
          exact ByteArray.ext (by simp [ByteArray.data_append])
         rw [hvn]
         have bL2:=HNM.out.bel.trans (hb2.mono HNM.out.bel.size)
         have hx:=(bL2.block _ (zaa HU1.out)).trans HU1.out
         have c0:w2.cell? ⟨g0,0,none⟩=some (.slice pA a.vars.length kA):=zad hx 0 rfl
         have hidx:=zpl _ a.vars (zms i) _ w2 (HA.out.below bL2).vars (by omega)
         obtain ⟨vn,hvn2⟩:∃ vn,vn=zms i:=⟨_,rfl⟩
         rw [← hvn2] at hidx ⊢
         obtain ⟨z,hz⟩:∃ z,z=zcx (zbl vn a.vars):=⟨_,rfl⟩
         rw [← hz] at hidx
         have HID:=Lib.hid hidx
         have HVN:=Lib.hid hvn2
         have HZ:=Lib.hid hz
         clear hidx hvn2 hz hx hvn HNU HT htl c2
         by_cases hm:memB vn a.vars=true
         ·have hz0:decide (0≤z)=true:=decide_eq_true (by rw [HZ.out];exact zr2 hm)
          have hbw:=HBL.out.trans (bL2.mono HBL.out.size)
          have HWR:=Lib.hid (HWK.out w2 hbw)
          have HBW:=Lib.hid hbw
          clear hbw
          go_wp2_with (first
           |(go_at_call 38;(with_reducible refine HID.out.mono ?_);rintro e w3 ⟨rfl,he⟩;subst he)
           |(go_at_call 11;(with_reducible refine HWR.out.mono ?_);rintro e w4 ⟨rfl,hb4⟩))
          go_ret
          exact ⟨rfl,zab HBW.out hb4 HBW.out.size⟩
         ·have hmf:memB vn a.vars=false:=by simpa using hm
          have hz0:decide (0≤z)=false:=decide_eq_false (by rw [HZ.out];have:=zr3 hmf;omega)
          go_upto_region 29 with (first
           |(go_at_call 38;(with_reducible refine HID.out.mono ?_);rintro e w3 ⟨rfl,he⟩;subst he))
          obtain ⟨⟨xs,hown,hxs⟩,hblk,hbel,hout⟩:=HNM.out
          obtain ⟨pa,ka,rfl⟩:=zat hown
          have u2b:=(hb2.block _ (zaa hblk)).trans hblk
          have d0:=zad u2b 0 rfl
          have ho2:=za6 hown hb2
          have hlt2:=ho2.lt
          have hgs:=zaa u2b
          have HK:=Lib.hid (And.intro hxs (And.intro bL2 hout))
          have HMF:=Lib.hid hmf
          obtain ⟨i0,hi0,hq0,hq1,hq2⟩:=info_parts zei
          clear hown hxs hblk hbel hout bL2 hmf hm hz0 HNM c0 hb2
          go_wp2_with (first
           |(at_builtin;refine wpList_append_own_at _ rfl _ _ 22 rfl (go+1) 9 i0 (.string ⟨#[]⟩) 1 16 Tryz.underlying22 hi0 hq0 hq1 hq2 rfl (by decide) _ _ _ rfl (ho2.alloc _) ⟨w2.heap.size,0,none⟩ 1 1 [.string vn] rfl rfl (zb3 _ _ _) (by simp [Value.oneCell']) (by unfold maxLen;omega) (by omega) (by simp;omega) ?_
             intro v' w5 ho5 hg5 _ hl5
             obtain ⟨p5,k5,rfl⟩:=zat ho5
             have blk5:∀ j,j < w2.heap.size→(Value.slice pa i ka).ownBlock≠some j→w5.heap[j]?=w2.heap[j]?:=fun j h1 h2=>(hg5.block j (by simp;omega) (fun e=>h2 e.symm)).trans (Below.heap_alloc _ _ _ h1)
             have u55:=(blk5 _ hgs (fun e=>by have:=(hlt2 _ e).1;omega)).trans u2b
             have e0:=zad u55 0 rfl
             have f0:=zdl u55 0))
          have HN:Hid (zt2 wL go a b qB lB (i+1) (.slice p5 (i+1) k5) (w5.setCell ⟨go,0,none⟩ (.slice p5 (i+1) k5))):=Lib.hid (by
           refine ⟨⟨_,zbf ho5 (w':=w5.setCell ⟨go,0,none⟩ (.slice p5 (i+1) k5)) (fun j e=>Below.heap_setCell _ _ _ _ (by have h:=(ho5.lt j e).1;show j≠go;omega)),?_⟩,zb8 u55 0 _,?_,fun v hv=>?_⟩
           ·rw [HK.out.1,zok,List.map_append,HVN.out]
            rfl
           ·exact ((HK.out.2.1.alloc HK.out.2.1.size _).grown hg5 (by have:=HK.out.2.1.size;simp;omega) (fun j e=>by have:=(hlt2 j e).1;omega)).setCell (by show wL.heap.size≤go;exact hgL) _
           ·rw [zok,List.mem_append,not_or]
            refine ⟨HK.out.2.2 v hv,fun h=>?_⟩
            have h2:v=vn:=by rw [HVN.out];simpa using h
            have h3:=(zkv vn a.vars).2 (h2 ▸ hv)
            rw [HMF.out] at h3
            cases h3)
          generalize w5.setCell ⟨go,0,none⟩ (.slice p5 (i+1) k5)=w6 at*
          clear u55 e0 f0 blk5 ho5 hg5 hl5 ho2 u2b d0 HK
          go_wp2_with fail
          go_roundg (gk - 1)
          case measure=>omega
          case rel=>exact ⟨i+1,_,by omega,by go_num,HN⟩
        ·have hie:i=b.vars.length:=by omega
         obtain ⟨⟨xs,hown,hxs⟩,hblk,hbel,hout⟩:=HNM.out
         obtain ⟨pa,ka,rfl⟩:=zat hown
         subst hie
         have TA0:=HA.out.below hbel
         have TBr:=HB.out.below hbel
         have hG:=HGL.out.below hbel
         have b1:=HBL.out.trans (hbel.mono HBL.out.size)
         have hsv:=zbm (E:=zaz) (l:=zfk b.vars.length) (P:=fun _=>False) (P':=Old wr) (by rw [zir];exact hown) (by rw [hxs];exact zli wr _ _ (fun x hx=>by
          obtain ⟨j,hj,rfl⟩:=List.mem_map.1 hx
          exact zw1 (by have:=List.mem_range.1 hj;omega))) (fun g h=>h.elim) (fun g e=>(hown.lt g e).2)
         have TO:=zd2.of (z0q TBr.here hsv (zb0 hown) (by rw [zir];omega))
         have HFR:=Lib.hid (HPO.out.fr (zfk b.vars.length) (zt1 hmb) (zir _) hout)
         generalize zfk b.vars.length=vs at*
         have u1:=hx
         clear hown hxs hbel hout TBr hsv hx HNM
         go_upto_region 30 with fail
         clear c2 hi
         refine wp_region_held_drew (S:=fun W'=>W'.heap[g0]?=some (.cells #[.slice pA a.vars.length kA,.slice qA a.rows.length lA,.slice pB b.vars.length kB,.slice qB b.rows.length lB,VV,.int .i64 lang,NN] 28)∧W'.heap[go]?=some (.cells #[.slice pa b.vars.length ka,.slice qB b.rows.length lB] 25)) (by kernel_rfl) ⟨u1,hblk⟩ (fun hh=>?_)
         have hh1:=hh.1
         have hh2:=hh.2
         clear hh
         have bq:Below wr.heap.size wr wr.drew:=(Below.refl _ _).drew
         replace b1:=zab b1 bq b1.size
         replace hG:=hG.below bq
         replace TA0:=TA0.below bq
         replace TO:=TO.below bq
         clear bq u1 hblk
         generalize wr.drew=wD at*
         refine tg (i:=0) (.pointer (some ⟨g0,0,none⟩)) rfl (⟨hh1,hh2⟩) ?_
         refine tk (i:=2) (v:=.agg #[.slice pa b.vars.length ka,.slice qB b.rows.length lB]) rfl (yieldsIf_load_mid (by rfl) 25 (.tmp 10) rfl go 0 rfl [.slice pa b.vars.length ka,.slice qB b.rows.length lB] _ (fun W h=>zce h.2 0 _ (fun j v hv=>by match j,hv with | 0,e | 1,e=>simpa using e | j+2,e=>simp at e)) Tryz.underlying25 rfl zag) (⟨hh1,hh2⟩) ?_
         refine tg (i:=4) (.pointer (some ⟨g0,0,none⟩)) rfl (⟨hh1,hh2⟩) ?_
         refine tk (i:=1) (v:=.agg #[.slice pA a.vars.length kA,.slice qA a.rows.length lA]) rfl (yieldsIf_load_mid (by rfl) 25 (.tmp 158) rfl g0 0 rfl [.slice pA a.vars.length kA,.slice qA a.rows.length lA] _ (fun W h=>zbo h.1 [] ([.slice pB b.vars.length kB,.slice qB b.rows.length lB]++[VV,.int .i64 lang,NN]) rfl) Tryz.underlying25 rfl zag) (⟨hh1,hh2⟩) ?_
         refine tk (i:=5) (v:=.agg #[.slice pA a.vars.length kA,.slice qA a.rows.length lA]) rfl (yieldsIf_load_mid (by rfl) 25 (.tmp 162) rfl g0 0 rfl [.slice pA a.vars.length kA,.slice qA a.rows.length lA] _ (fun W h=>zbo h.1 [] ([.slice pB b.vars.length kB,.slice qB b.rows.length lB]++[VV,.int .i64 lang,NN]) rfl) Tryz.underlying25 rfl zag) (⟨hh1,hh2⟩) ?_
         refine tr 3 rfl (fun K hK=>?_)
         try rw [if_pos (by rfl)]
         go_simp
         refine (zte a ⟨vs,b.rows⟩ _ _ _ _ wD hG TA0.here TO.here HFR.out.1).mono ?_
         rintro e3 w3_ h3
         obtain ⟨V3,R3,rfl,hb3,M3⟩:=zdc h3
         clear h3
         replace hh1:=(hb3.block _ (zaa hh1)).trans hh1
         replace hh2:=(hb3.block _ (zaa hh2)).trans hh2
         replace b1:=zab b1 hb3 b1.size
         replace hG:=hG.below hb3
         replace TA0:=TA0.below hb3
         replace TO:=TO.below hb3
         clear hb3
         refine hK.out _ _ (⟨hh1,hh2⟩) (fun _=>?_)
         clear hK K
         try simp only [putS]
         refine tr 6 rfl (fun K hK=>?_)
         try rw [if_pos (by rfl)]
         go_simp
         refine (zn8 (zcd a ⟨vs,b.rows⟩) a _ _ _ _ w3_ hG M3.here TA0.here HFR.out.2.2 HPO.out.va).mono ?_
         rintro e6 w6_ ⟨rfl,hb6⟩
         rw [HFR.out.2.1]
         replace hh1:=(hb6.block _ (zaa hh1)).trans hh1
         replace hh2:=(hb6.block _ (zaa hh2)).trans hh2
         replace b1:=zab b1 hb6 b1.size
         replace hG:=hG.below hb6
         replace TA0:=TA0.below hb6
         replace TO:=TO.below hb6
         replace M3:=M3.below hb6
         clear hb6
         clear M3 TO
         refine hK.out _ _ (⟨hh1,hh2⟩) (fun _=>?_)
         clear hK K
         try simp only [putS]
         refine tg (i:=7) (.bool true) rfl (⟨hh1,hh2⟩) ?_
         refine tg (i:=8) (.pointer (some ⟨g0,0,none⟩)) rfl (⟨hh1,hh2⟩) ?_
         refine tg (i:=10) (.pointer (some ⟨g0,0,none⟩)) rfl (⟨hh1,hh2⟩) ?_
         refine tg (i:=13) (.pointer (some ⟨g0,0,none⟩)) rfl (⟨hh1,hh2⟩) ?_
         refine tg (i:=17) (.pointer (some ⟨g0,0,none⟩)) rfl (⟨hh1,hh2⟩) ?_
         refine tg (i:=19) (.pointer (some ⟨g0,0,none⟩)) rfl (⟨hh1,hh2⟩) ?_
         refine tk (i:=9) (v:=.agg #[.slice pA a.vars.length kA,.slice qA a.rows.length lA]) rfl (yieldsIf_load_mid (by rfl) 25 (.tmp 166) rfl g0 0 rfl [.slice pA a.vars.length kA,.slice qA a.rows.length lA] _ (fun W h=>zbo h.1 [] ([.slice pB b.vars.length kB,.slice qB b.rows.length lB]++[VV,.int .i64 lang,NN]) rfl) Tryz.underlying25 rfl zag) (⟨hh1,hh2⟩) ?_
         refine tk (i:=11) (v:=.agg #[.slice pA a.vars.length kA,.slice qA a.rows.length lA]) rfl (yieldsIf_load_mid (by rfl) 25 (.tmp 168) rfl g0 0 rfl [.slice pA a.vars.length kA,.slice qA a.rows.length lA] _ (fun W h=>zbo h.1 [] ([.slice pB b.vars.length kB,.slice qB b.rows.length lB]++[VV,.int .i64 lang,NN]) rfl) Tryz.underlying25 rfl zag) (⟨hh1,hh2⟩) ?_
         refine tg (i:=14) (.pointer (some ⟨g0,0,none⟩)) rfl (⟨hh1,hh2⟩) ?_
         refine tk (i:=18) (v:=.agg #[.slice pA a.vars.length kA,.slice qA a.rows.length lA]) rfl (yieldsIf_load_mid (by rfl) 25 (.tmp 175) rfl g0 0 rfl [.slice pA a.vars.length kA,.slice qA a.rows.length lA] _ (fun W h=>zbo h.1 [] ([.slice pB b.vars.length kB,.slice qB b.rows.length lB]++[VV,.int .i64 lang,NN]) rfl) Tryz.underlying25 rfl zag) (⟨hh1,hh2⟩) ?_
         refine tk (i:=20) (v:=.agg #[.slice pA a.vars.length kA,.slice qA a.rows.length lA]) rfl (yieldsIf_load_mid (by rfl) 25 (.tmp 177) rfl g0 0 rfl [.slice pA a.vars.length kA,.slice qA a.rows.length lA] _ (fun W h=>zbo h.1 [] ([.slice pB b.vars.length kB,.slice qB b.rows.length lB]++[VV,.int .i64 lang,NN]) rfl) Tryz.underlying25 rfl zag) (⟨hh1,hh2⟩) ?_
         refine tk (i:=15) (v:=.slice pA a.vars.length kA) rfl (Or.inl ⟨by rfl,fun W' h=>by have c0:=zad h.1 0 rfl;go_simp⟩) (⟨hh1,hh2⟩) ?_
         refine tr 12 rfl (fun K hK=>?_)
         try rw [if_pos (by rfl)]
         go_simp
         refine (zth a a _ _ _ _ w6_ hG TA0.here TA0.here HPO.out.n2).mono ?_
         rintro e12 w12_ h12
         obtain ⟨V12,R12,rfl,hb12,U1⟩:=zdc h12
         clear h12
         replace hh1:=(hb12.block _ (zaa hh1)).trans hh1
         replace hh2:=(hb12.block _ (zaa hh2)).trans hh2
         replace b1:=zab b1 hb12 b1.size
         replace hG:=hG.below hb12
         replace TA0:=TA0.below hb12
         clear hb12
         refine hK.out _ _ (⟨hh1,hh2⟩) (fun _=>?_)
         clear hK K
         try simp only [putS]
         refine tr 16 rfl (fun K hK=>?_)
         try rw [if_pos (by rfl)]
         go_simp
         refine (zzr (zb9 a a) a.vars _ _ _ w12_ hG U1.here TA0.vars TA0.cap.1 (by omega)).mono ?_
         rintro e16 w16_ h16
         obtain ⟨V16,R16,rfl,hb16,P1⟩:=zdc h16
         clear h16
         rw [HPO.out.hp] at P1
         replace hh1:=(hb16.block _ (zaa hh1)).trans hh1
         replace hh2:=(hb16.block _ (zaa hh2)).trans hh2
         replace b1:=zab b1 hb16 b1.size
         replace hG:=hG.below hb16
         replace TA0:=TA0.below hb16
         replace U1:=U1.below hb16
         clear hb16
         refine hK.out _ _ (⟨hh1,hh2⟩) (fun _=>?_)
         clear hK K
         try simp only [putS]
         refine tr 21 rfl (fun K hK=>?_)
         try rw [if_pos (by rfl)]
         go_simp
         refine (zth a a _ _ _ _ w16_ hG TA0.here TA0.here HPO.out.n2).mono ?_
         rintro e21 w21_ h21
         obtain ⟨V21,R21,rfl,hb21,U2⟩:=zdc h21
         clear h21
         replace hh1:=(hb21.block _ (zaa hh1)).trans hh1
         replace hh2:=(hb21.block _ (zaa hh2)).trans hh2
         replace b1:=zab b1 hb21 b1.size
         replace hG:=hG.below hb21
         replace TA0:=TA0.below hb21
         replace U1:=U1.below hb21
         replace P1:=P1.below hb21
         clear hb21
         refine hK.out _ _ (⟨hh1,hh2⟩) (fun _=>?_)
         clear hK K
         try simp only [putS]
         refine tr 22 rfl (fun K hK=>?_)
         try rw [if_pos (by rfl)]
         go_simp
         refine (zn8 (zb9 a a) (zb9 a a) _ _ _ _ w21_ hG P1.here U2.here HPO.out.v2 HPO.out.v2).mono ?_
         rintro e22 w22_ ⟨rfl,hb22⟩
         rw [HPO.out.hr]
         replace hh1:=(hb22.block _ (zaa hh1)).trans hh1
         replace hh2:=(hb22.block _ (zaa hh2)).trans hh2
         replace b1:=zab b1 hb22 b1.size
         replace hG:=hG.below hb22
         replace TA0:=TA0.below hb22
         replace U1:=U1.below hb22
         replace P1:=P1.below hb22
         replace U2:=U2.below hb22
         clear hb22
         clear U1 P1 U2
         refine hK.out _ _ (⟨hh1,hh2⟩) (fun _=>?_)
         clear hK K
         try simp only [putS]
         refine tg (i:=23) (.bool true) rfl (⟨hh1,hh2⟩) ?_
         refine tg (i:=24) (.bool true) rfl (⟨hh1,hh2⟩) ?_
         refine tr 25 rfl (fun K hK=>?_)
         try rw [if_pos (by rfl)]
         go_simp
         refine (HWK.out _ b1).mono ?_
         rintro e25 w25_ ⟨rfl,hb25⟩
         replace hh1:=(hb25.block _ (zaa hh1)).trans hh1
         replace hh2:=(hb25.block _ (zaa hh2)).trans hh2
         replace b1:=zab b1 hb25 b1.size
         replace hG:=hG.below hb25
         replace TA0:=TA0.below hb25
         clear hb25
         refine hK.out _ _ (⟨hh1,hh2⟩) (fun _=>?_)
         clear hK K
         try simp only [putS]
         refine tg (i:=26) (.bool true) rfl (⟨hh1,hh2⟩) ?_
         refine tg (i:=27) (.bool true) rfl (⟨hh1,hh2⟩) ?_
         refine wpAnyH_done (by kernel_rfl) ?_ _
         go_wp2_with fail
         go_ret
         exact ⟨rfl,b1⟩
section
open Go.ChangeShapes Go.WideShapes Go.ChangeAt Go.RowKit
theorem z2y {P:Program} {f:FuncId} {fn:Func} {s:ChangeSpec} {c:OpenClaim} (h0:(c.wf (OpenSpec.ofChange s) && laidOutB P && mapsRowed P && fn.params.all (P.readableRec ·) && namedTie P c.named s.vars && (c.stops == []) && (P.stops == []) && (c.knobs == []) && (P.stopKnobs == []) && (c.maps == (fn.params.toList++s.plain.varTypes P).any (P.mapsRec ·)) && (c.ifaces == (fn.params.toList++s.plain.varTypes P).any (P.ifacesRec ·)) && (c.mapsOut == P.mapsAmong fn.resultTypes.toList) && (c.loops == (fn.params.toList++s.plain.varTypes P).any (P.loopsFrom ·)) && (c.wideKeys == (fn.params.toList++s.plain.varTypes P++fn.resultTypes.toList).any (P.wideKeysFrom ·)) && s.vars.all (P.varReadable ·) && fn.resultTypes.all (fun t=>P.readableRec t && decide (t < P.types.size)) && (c.ifacesOut == fn.resultTypes.toList.any (P.ifacesRec ·)) && (c.loopsOut == fn.resultTypes.toList.any (P.loopsFrom ·)))=true) (h1:((c.inPlace == P.inPlace f))=true) (h2:((c.unfollowed == P.unfollowed f))=true) (h3:((c.recurses == P.recurses f))=true) (h4:((c.named == P.varsNamed f))=true) (h5:((c.plainKeys == P.plainKeys))=true) (h6:(c.shortTexts.isNone && P.stopsHeard && P.mayEnter && (c.lifted == P.liftsFinal) && (P.make == some c.make))=true) (h7:((c.kinds == (if c.domain.isEmpty then [] else fn.params.toList.map fun t=>match P.underlying t with | some (.int k)=>some k | _=>none)) && (c.pinned == c.pinnedBy) && (c.veiled == (fn.params.toList++s.plain.varTypes P++fn.resultTypes.toList).any (P.veiledRec ·)) && c.veiledFits P fn.params.toList (fn.params.toList++s.plain.varTypes P++fn.resultTypes.toList))=true):joinedFacts P f fn s c=true:=by
 unfold joinedFacts
 simp only [Bool.and_eq_true] at h0 h6 h7 ⊢
 simp only [h0,h1,h2,h3,h4,h5,h6,h7,and_self]
 exact ⟨⟨⟨⟨trivial,h7.1.1.1⟩,trivial⟩,trivial⟩,trivial⟩
theorem z2z:(Rows.rowsBagsUptoRow.wf (OpenSpec.ofChange (Rows.OpenSpec.upto Rows.rowsBagsSpec).bare) && laidOutB Tryz.pinned.checked.prog && mapsRowed Tryz.pinned.checked.prog && Tryz.f7.params.all (Tryz.pinned.checked.prog.readableRec ·) && namedTie Tryz.pinned.checked.prog Rows.rowsBagsUptoRow.named (Rows.OpenSpec.upto Rows.rowsBagsSpec).bare.vars && (Rows.rowsBagsUptoRow.stops == []) && (Tryz.pinned.checked.prog.stops == []) && (Rows.rowsBagsUptoRow.knobs == []) && (Tryz.pinned.checked.prog.stopKnobs == []) && (Rows.rowsBagsUptoRow.maps == (Tryz.f7.params.toList++(Rows.OpenSpec.upto Rows.rowsBagsSpec).bare.plain.varTypes Tryz.pinned.checked.prog).any (Tryz.pinned.checked.prog.mapsRec ·)) && (Rows.rowsBagsUptoRow.ifaces == (Tryz.f7.params.toList++(Rows.OpenSpec.upto Rows.rowsBagsSpec).bare.plain.varTypes Tryz.pinned.checked.prog).any (Tryz.pinned.checked.prog.ifacesRec ·)) && (Rows.rowsBagsUptoRow.mapsOut == Tryz.pinned.checked.prog.mapsAmong Tryz.f7.resultTypes.toList) && (Rows.rowsBagsUptoRow.loops == (Tryz.f7.params.toList++(Rows.OpenSpec.upto Rows.rowsBagsSpec).bare.plain.varTypes Tryz.pinned.checked.prog).any (Tryz.pinned.checked.prog.loopsFrom ·)) && (Rows.rowsBagsUptoRow.wideKeys == (Tryz.f7.params.toList++(Rows.OpenSpec.upto Rows.rowsBagsSpec).bare.plain.varTypes Tryz.pinned.checked.prog++Tryz.f7.resultTypes.toList).any (Tryz.pinned.checked.prog.wideKeysFrom ·)) && (Rows.OpenSpec.upto Rows.rowsBagsSpec).bare.vars.all (Tryz.pinned.checked.prog.varReadable ·) && Tryz.f7.resultTypes.all (fun t=>Tryz.pinned.checked.prog.readableRec t && decide (t < Tryz.pinned.checked.prog.types.size)) && (Rows.rowsBagsUptoRow.ifacesOut == Tryz.f7.resultTypes.toList.any (Tryz.pinned.checked.prog.ifacesRec ·)) && (Rows.rowsBagsUptoRow.loopsOut == Tryz.f7.resultTypes.toList.any (Tryz.pinned.checked.prog.loopsFrom ·)))=true:=by kernel_rfl
theorem z26:((Rows.rowsBagsUptoRow.inPlace == Tryz.pinned.checked.prog.inPlace 7))=true:=by kernel_rfl
theorem z27:((Rows.rowsBagsUptoRow.unfollowed == Tryz.pinned.checked.prog.unfollowed 7))=true:=by kernel_rfl
theorem z28:((Rows.rowsBagsUptoRow.recurses == Tryz.pinned.checked.prog.recurses 7))=true:=by kernel_rfl
theorem z29:((Rows.rowsBagsUptoRow.named == Tryz.pinned.checked.prog.varsNamed 7))=true:=by kernel_rfl
theorem z3a:((Rows.rowsBagsUptoRow.plainKeys == Tryz.pinned.checked.prog.plainKeys))=true:=by kernel_rfl
theorem z3b:(Rows.rowsBagsUptoRow.shortTexts.isNone && Tryz.pinned.checked.prog.stopsHeard && Tryz.pinned.checked.prog.mayEnter && (Rows.rowsBagsUptoRow.lifted == Tryz.pinned.checked.prog.liftsFinal) && (Tryz.pinned.checked.prog.make == some Rows.rowsBagsUptoRow.make))=true:=by kernel_rfl
theorem z3c:((Rows.rowsBagsUptoRow.kinds == (if Rows.rowsBagsUptoRow.domain.isEmpty then [] else Tryz.f7.params.toList.map fun t=>match Tryz.pinned.checked.prog.underlying t with | some (.int k)=>some k | _=>none)) && (Rows.rowsBagsUptoRow.pinned == Rows.rowsBagsUptoRow.pinnedBy) && (Rows.rowsBagsUptoRow.veiled == (Tryz.f7.params.toList++(Rows.OpenSpec.upto Rows.rowsBagsSpec).bare.plain.varTypes Tryz.pinned.checked.prog++Tryz.f7.resultTypes.toList).any (Tryz.pinned.checked.prog.veiledRec ·)) && Rows.rowsBagsUptoRow.veiledFits Tryz.pinned.checked.prog Tryz.f7.params.toList (Tryz.f7.params.toList++(Rows.OpenSpec.upto Rows.rowsBagsSpec).bare.plain.varTypes Tryz.pinned.checked.prog++Tryz.f7.resultTypes.toList))=true:=by kernel_rfl
theorem z3d:joinedFacts Tryz.pinned.checked.prog 7 Tryz.f7 (Rows.OpenSpec.upto Rows.rowsBagsSpec).bare Rows.rowsBagsUptoRow=true:=z2y z2z z26 z27 z28 z29 z3a z3b z3c
theorem z3e:Tryz.pinned.checked.prog.funcNamed Rows.rowsBagsUptoRow.func=some 7:=by kernel_rfl
end
end Go.Proofs.YteclpnfckjfibaaGreatDoor
