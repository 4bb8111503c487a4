/- Texts of one kind, one behind the other: each says ahead of itself what it shows. -/
import Derived.Lib.SlKeysI
import Derived.Test.YteclpnfckjfibaaGreatDoorDad
import Derived.Test.YteclpnfckjfibaaGreatDoorDak
import Derived.Test.YteclpnfckjfibaaGreatDoorDah
import Derived.Test.YteclpnfckjfibaaGreatDoorDai
import Derived.RangeFuncNested
import Derived.RangeFuncBound
import Derived.RangeFuncCalls
import Derived.RangeFuncLeaves
import Derived.Shelf.Abstract
import Derived.Shelf.RegionOpen
import Derived.WalkKit
import Derived.OwnWalkIn
import Derived.TacticsInMore
import Derived.LoopNIn
import Derived.LoopIn
import Derived.Maps.OwnIn
import Derived.Sort.CutIn
/- NT -/
namespace Go.Proofs.YteclpnfckjfibaaGreatDoor
open Go.RowKit
theorem zv6 (v:Value) (zs:List Int) (base:Nat) (w:World) (h:w.ownsRow base 3 1 v zs.length (zs.map (Value.int .i64))) (hn:zs.length≤4194304):
 Calls Tryz.prog 178 #[v] w fun e w'=>e=.returned (.tuple #[])∧w'.ownsRow base 3 1 v zs.length ((zs.mergeSort leI).map (Value.int .i64))∧w.grownBy w' v.ownBlock:=by
 rcases h.2 with ⟨rfl,h0⟩ | ⟨g,cap,cur,rfl,hb,hg,h1,h2,h3,h4⟩
 ·obtain rfl:=List.length_eq_zero_iff.1 h0
  refine (AnyM.slices_Sort_int_none Tryz.sortI none 0 w).mono ?_
  rintro e w' ⟨rfl,rfl⟩
  exact ⟨rfl,by simpa using h,zls _ _⟩
 ·by_cases h0:zs=[]
  ·subst h0
   refine (AnyM.slices_Sort_int_none Tryz.sortI (some ⟨g,0,none⟩) cap w).mono ?_
   rintro e w' ⟨rfl,rfl⟩
   exact ⟨rfl,by simpa using h,zls _ _⟩
  ·have hH:Go.Sort.Holds encZ w g 0 zs.toArray:=holds_of_block_i hg (by simpa using h4)
   refine (AnyM.slices_Sort_int Tryz.sortI g 0 cap zs w hH (zaa hg) (by omega)).mono ?_
   rintro e w' ⟨rfl,n,os,rfl⟩
   refine ⟨rfl,?_,grownBy_sorted_i _⟩
   exact ownsRow_sorted_i (ss:=zs) (by simp) hb hg h1 h2 h3
theorem leI_tr:∀ a b c:Int,leI a b=true→leI b c=true→leI a c=true:=fun a b c h1 h2=>by simp only [leI,decide_eq_true_eq] at *;omega
theorem leI_to:∀ a b:Int,(leI a b || leI b a)=true:=fun a b=>by simp only [leI,Bool.or_eq_true,decide_eq_true_eq];omega
theorem leI_an:∀ a b:Int,leI a b=true→leI b a=true→a=b:=fun a b h1 h2=>by simp only [leI,decide_eq_true_eq] at *;omega
theorem zce {w:World} {g:Nat} {c:Array Value} {t:TypeId} (h:w.heap[g]?=some (.cells c t)) (o:Nat) (xs:List Value) (hx:∀ j u,xs[j]?=some u→c[o+j]?=some u):w.rangeAt g o xs:=fun j u hu=>zad h (o+j) (hx j u hu)
theorem zai.rowAt {w:World} {P:Nat→Prop} {p:Option Addr} {n cap:Nat} {rows:List (List Val)} (h:zai rowE w P (.slice p n cap) rows) (i:Nat) (hi:i < rows.length):∃ g off u,p=some ⟨g,off,none⟩∧n=rows.length∧w.cell? ⟨g,off+i,none⟩=some u∧zai valE w P u rows[i]∧capK u∧rows[i].length≤2097152:=by
 obtain ⟨g,off,cap',c,e,_,hr,ha⟩:=h.at_ i hi
 injection e with e1 e2 e3
 obtain ⟨v,rfl,hs,hc,hl⟩:=hr
 refine ⟨g,off,v,e1,e2,?_,hs,hc,hl⟩
 have:=ha 0 _ rfl
 simpa [rowE] using this
structure NumS (gi gr:Nat) (A B R M L u:Value) (gR oR i:Nat) (v:Value) (W:World):Prop where
 ix:W.heap[gi]?=some (.cells #[A,B,R,M,L] 90)
 row:W.cell? ⟨gr,0,none⟩=some u
 at_:W.cell? ⟨gR,oR+i,none⟩=some v
set_option maxHeartbeats 3200000 in
set_option maxRecDepth 20000 in
theorem zy5 (sh:List (Nat × Nat)) (rows:List (List Val)) (A B R M L u:Value) (r:List Val) (gi gr i:Nat) (W:World) (hgi:W.heap[gi]?=some (.cells #[A,B,R,M,L] 90)) (hgr:W.heap[gr]?=some (.cells #[u] 43)) (hs:ShIn W (Old W) sh A B) (hR:zai rowE W (Old W) R rows) (hu:zai valE W (Old W) u r)
 (hi:i < rows.length) (hin:∀ p∈sh,p.1 < r.length∧p.2 < rows[i].length) (hsn:sh.length≤2097152) (hrn:r.length≤2097152):
 Calls Tryz.prog 176 #[.int .i64 (i:Nat),.pointer (some ⟨gi,0,none⟩),.pointer (some ⟨gr,0,none⟩)] W fun e w'=>e=.returned (.bool (fitB sh r rows[i]))∧Below W.heap.size W w':=by
 obtain ⟨pA,kA,pB,kB,rfl,rfl⟩:=hs.slice
 obtain ⟨pR,kR,rfl⟩:=hR.slice
 obtain ⟨pu,ku,rfl⟩:=hu.slice
 obtain ⟨gR,oR,v,rfl,_,ci,hv,_,hvn⟩:=hR.rowAt i hi
 obtain ⟨pv,kv,rfl⟩:=hv.slice
 have hlt:(i:Int) < rows.length:=by omega
 have HF:Hid (∀ w',Below W.heap.size W w'→Calls Tryz.prog 86 #[.agg #[.slice pA sh.length kA,.slice pB sh.length kB],.slice pu r.length ku,.slice pv rows[i].length kv] w' fun e w2=>e=.returned (.bool (fitB sh r rows[i]))∧Below w'.heap.size w' w2):=Lib.hid fun w' h=>
  fitAt sh _ _ _ _ r rows[i] w' (hs.stays (zae h)) (hu.stays (zae h)) (hv.stays (zae h)) hin hsn hrn hvn
 obtain ⟨q,hq⟩:∃ q,q=fitB sh r rows[i]:=⟨_,rfl⟩
 rw [← hq] at HF ⊢
 have hst:NumS gi gr (.slice pA sh.length kA) (.slice pB sh.length kB) (.slice (some ⟨gR,oR,none⟩) rows.length kR) M L (.slice pu r.length ku) gR oR i (.slice pv rows[i].length kv) W:=⟨hgi,zad hgr 0 rfl,ci⟩
 clear hq hs hR hu hv hgi hgr ci hin
 generalize rows[i].length=rl at*
 go_enter Tryz.func176,Tryz.ntmps176
 go_upto_region 1 with fail
 refine wp_region_held_drew (S:=NumS gi gr (.slice pA sh.length kA) (.slice pB sh.length kB) (.slice (some ⟨gR,oR,none⟩) rows.length kR) M L (.slice pu r.length ku) gR oR i (.slice pv rl kv)) (by kernel_rfl) ⟨hst.ix,hst.row,hst.at_⟩ (fun hh=>?_)
 have bq:Below W.heap.size W W.drew:=(Below.refl _ _).drew
 clear hst
 generalize W.drew=wD at*
 refine tg (i:=0) (.pointer (some ⟨gi,0,none⟩)) rfl (hh) ?_
 refine tk (i:=2) (v:=.slice pu r.length ku) rfl (Or.inl ⟨by rfl,fun W' h=>by have c0:=h.row;go_simp⟩) (hh) ?_
 refine tg (i:=3) (.pointer (some ⟨gi,2,none⟩)) rfl (hh) ?_
 refine tg (i:=5) (.int .i64 (i:Int)) rfl (hh) ?_
 refine tk (i:=1) (v:=.agg #[.slice pA sh.length kA,.slice pB sh.length kB]) rfl (yieldsIf_load_mid (by rfl) 87 (.tmp 5) rfl gi 0 rfl [.slice pA sh.length kA,.slice pB sh.length kB] _ (fun W h=>zce h.ix 0 _ (fun j u hu=>by match j,hu with | 0,e=>exact e | 1,e=>exact e | j+2,e=>simp at e)) Tryz.underlying87 rfl zmf) (hh) ?_
 refine tk (i:=4) (v:=.slice (some ⟨gR,oR,none⟩) rows.length kR) rfl (Or.inl ⟨by rfl,fun W' h=>by have c0:=zad h.ix 2 rfl;go_simp⟩) (hh) ?_
 refine tg (i:=6) (.pointer (some ⟨gR,oR+i,none⟩)) rfl (hh) ?_
 refine tk (i:=7) (v:=.slice pv rl kv) rfl (Or.inl ⟨by rfl,fun W' h=>by have c0:=h.at_;go_simp⟩) (hh) ?_
 refine tr 8 rfl (fun K hK=>?_)
 rw [if_pos (by rfl)]
 go_simp
 refine (HF.out _ bq).mono ?_
 rintro e0 w3 ⟨rfl,hb3⟩
 have hh3:NumS gi gr (.slice pA sh.length kA) (.slice pB sh.length kB) (.slice (some ⟨gR,oR,none⟩) rows.length kR) M L (.slice pu r.length ku) gR oR i (.slice pv rl kv) w3:=⟨(hb3.block _ (zaa hh.ix)).trans hh.ix,zbj hh.row hb3,zbj hh.at_ hb3⟩
 replace bq:=zab bq hb3 bq.size
 refine hK.out _ _ (hh3) (fun _=>?_)
 clear hK K
 try simp only [putS]
 refine tg (i:=9) (.bool q) rfl (hh3) ?_
 refine wpAnyH_done (by kernel_rfl) ?_ _
 go_wp2_with fail
 go_ret
 exact ⟨rfl,bq⟩
def zix (rows:List (List Val)) (z:Int):List Val:=rows.getD z.toNat []
def zy6 (sh:List (Nat × Nat)) (rows:List (List Val)) (r:List Val) (ek:List UInt8):List Int:=
 if (zbi sh rows).filter (fun z=>fitB sh r (zix rows z))=[] then grp (evI sh rows) ek else (grp (evI sh rows) ek++(zbi sh rows).filter (fun z=>fitB sh r (zix rows z))).mergeSort leI
theorem zmh {w:World} {P:Nat→Prop} {base:Nat} {V:Value} {zs:List Int} {xs:List Value} (h:w.ownsRow base 3 1 V zs.length xs) (hr:RowE intE w P xs zs):w.ownsRow base 3 1 V zs.length (zs.map (Value.int .i64)):=by
 rw [ints_cells zs xs hr] at h
 exact h
where ints_cells:(zs:List Int)→(xs:List Value)→RowE intE w P xs zs→xs=zs.map (Value.int .i64)
 | [],xs,h=>by unfold RowE at h;exact h
 | z::l,xs,h=>by
   unfold RowE at h
   obtain ⟨c,ys,rfl,⟨rfl,_⟩,hr⟩:=h
   rw [ints_cells l ys hr]
   rfl
theorem zqh {w:World} {P:Nat→Prop}:(zs:List Int)→(xs:List Value)→RowE intE w P xs zs→∀ z∈zs,(Lit.int .i64 z).wf=true
 | [],_,_,z,h=>by cases h
 | y::l,xs,h,z,hz=>by
   unfold RowE at h
   obtain ⟨c,ys,rfl,⟨rfl,hw⟩,hr⟩:=h
   rcases List.mem_cons.1 hz with rfl | hz
   ·exact hw
   ·exact zqh l ys hr z hz
set_option maxHeartbeats 6400000 in
set_option maxRecDepth 20000 in
theorem zy7 (sh:List (Nat × Nat)) (rows:List (List Val)) (A B R L u:Value) (mb:Nat) (r:List Val) (ek:List UInt8) (W:World) (P:Nat→Prop) (hPo:∀ k,P k→k < W.heap.size) (hx0:IxIn sh rows A B R mb L P W) (hu:zai valE W (Old W) u r) (hek:ek.length≤900000000) (hin:∀ x∈rows,∀ p∈sh,p.1 < r.length∧p.2 < x.length) (hsn:sh.length≤2097152) (hrn:r.length≤2097152) (hn:rows.length≤2097152):
 Calls Tryz.prog 129 #[.agg #[A,B,R,.map (some mb),L],u,.string (bsB ek)] W fun e w'=>∃ V,e=.returned V∧zai intE w' (fun k=>P k∨W.heap.size≤k) V (zy6 sh rows r ek)∧Below W.heap.size W w':=by
 have hx:IxIn sh rows A B R mb L (Old W) W:=hx0.stays fun k hk=>⟨hPo k hk,rfl⟩
 obtain ⟨hs,hR,_,hL,hLc⟩:=hx
 obtain ⟨hmb,n',f,h1,hm,h2P⟩:=hx0.map
 have h2:∀ x,zai intE W (Old W) ((f (.string x)).getD (.slice none 0 0)) (grp (evI sh rows) x)∧capK ((f (.string x)).getD (.slice none 0 0)):=fun x=>⟨(h2P x).1.stays fun k hk=>⟨hPo k hk,rfl⟩,(h2P x).2⟩
 have hfP:=(h2P ek).1
 obtain ⟨pA,kA,pB,kB,rfl,rfl⟩:=hs.slice
 obtain ⟨pR,kR,rfl⟩:=hR.slice
 obtain ⟨pL,kL,rfl⟩:=hL.slice
 obtain ⟨pu,ku,rfl⟩:=hu.slice
 obtain ⟨W1,hW1⟩:∃ W1,W1=(W.alloc (.cells #[.slice pA sh.length kA,.slice pB sh.length kB,.slice pR rows.length kR,.map (some mb),.slice pL (zbi sh rows).length kL] 90)).alloc (.cells #[.slice pu r.length ku] 43):=⟨_,rfl⟩
 have b1:Below W.heap.size W W1:=by rw [hW1];exact zcr _ _ _
 have s1:W1.heap.size=W.heap.size+2:=by rw [hW1];simp
 have u3:W1.heap[W.heap.size]?=some (.cells #[.slice pA sh.length kA,.slice pB sh.length kB,.slice pR rows.length kR,.map (some mb),.slice pL (zbi sh rows).length kL] 90):=by rw [hW1];exact zaq _ (zaf _ _ rfl)
 have u4:W1.heap[W.heap.size+1]?=some (.cells #[.slice pu r.length ku] 43):=by rw [hW1];exact zaf _ _ (by simp)
 have hm1:HMap W1 Tryz.prog 9 mb n' f:=hm.keep (b1.block _ hm.lt)
 have hkey:=keyB hek
 have hkl:WideAt.IsKeyLit (.string ek):=trivial
 obtain ⟨hf1,hf2⟩:=h2 ek
 obtain ⟨v0,hv0⟩:∃ v,v=(f (.string ek)).getD (.slice none 0 0):=⟨_,rfl⟩
 rw [← hv0] at hf1 hf2 hfP
 have HFP:=Lib.hid (And.intro hPo hfP)
 clear hPo hfP h2P hx0
 obtain ⟨pF,kF,rfl⟩:=hf1.slice
 have hgn:(grp (evI sh rows) ek).length≤2097152:=Nat.le_trans (zy2 _ _) (Nat.le_trans (znz sh rows).1 hn)
 have hln:=Nat.le_trans (znz sh rows).2 hn
 have HWH:=Lib.hid (z1l (.pointer (some ⟨W.heap.size,0,none⟩)) (.pointer (some ⟨W.heap.size+1,0,none⟩)) (fun z=>fitB sh r (zix rows z)) (zbi sh rows) (.slice pL (zbi sh rows).length kL) W1 (hL.stays (zae b1)) hln (fun z hz W' c hb hr=>by
  obtain ⟨i,rfl,hi⟩:=(ztb sh rows).2 z hz
  have hb2:=zab b1 hb b1.size
  have e:zix rows (i:Int)=rows[i]:=by unfold zix;simp [hi]
  rw [e]
  exact zy5 sh rows _ _ _ _ _ _ r W.heap.size (W.heap.size+1) i W' ((hb.block _ (zaa u3)).trans u3) ((hb.block _ (zaa u4)).trans u4) (hs.stays (zae hb2)) (hR.stays (zae hb2)) (hu.stays (zae hb2)) hi (fun p hp=>hin _ (List.getElem_mem hi) p hp) hsn hrn))
 have c3:=zad u3 3 rfl
 have c4:=zad u3 4 rfl
 have HW:=Lib.hid hW1
 have HF1:=Lib.hid (hf1.stays (zae b1))
 have HB1:=Lib.hid b1
 have HV0:=Lib.hid hv0
 clear hW1 hs hR hL hLc hu h2 hm hf1 hv0 b1 u3 u4 hin
 unfold zy6
 generalize hlo':(zbi sh rows).filter (fun z=>fitB sh r (zix rows z))=lo' at*
 have hlo2:lo'.length≤2097152:=by
  rw [← hlo']
  exact Nat.le_trans (List.length_filter_le _ _) hln
 clear hlo'
 generalize grp (evI sh rows) ek=gs at*
 obtain ⟨zs,hzs⟩:∃ zs,zs=if lo'=[] then gs else (gs++lo').mergeSort leI:=⟨_,rfl⟩
 rw [← hzs]
 have HZ0:Hid (lo'=[]→zs=gs):=Lib.hid fun h=>by rw [hzs,if_pos h]
 have HZ1:Hid (¬ lo'=[]→zs=(gs++lo').mergeSort leI):=Lib.hid fun h=>by rw [hzs,if_neg h]
 clear hzs
 go_enter Tryz.func129,Tryz.ntmps129
 go_upto_region 1 with fail
 rw [← HW.out]
 go_upto_region 3 with (first
  |((with_reducible refine zcs ?_ (.tmp 10) (.tmp 11) 88 ?_ 9 26 (Go.Maps.string_keyed Tryz.underlying9) Tryz.underlying88 (Tryz.zeroValue26 _) mb n' ?_ hm1 (.string (bsB ek)) (.string ek) ?_ hkey hkl ?_);rfl;rfl;rfl;rfl;rw [← HV0.out])
  |(go_at_call 175;(with_reducible refine HWH.out.mono ?_);rintro e w2 ⟨V2,xs,rfl,hown,hrow,hb2⟩;obtain ⟨p2,k2,rfl⟩:=zat hown))
 have hown3:=zmh hown hrow
 have hwf:=zqh _ _ hrow
 have hsz2:=hb2.size
 by_cases h0:lo'=[]
 ·subst h0
  have HZ2:=Lib.hid (HZ0.out rfl)
  clear HZ0 HZ1
  have hb:=zab HB1.out hb2 HB1.out.size
  have hres:zai intE w2 (fun k=>P k∨W.heap.size≤k) _ _:=HFP.out.2.stays fun k hk=>⟨.inl hk,hb.block k (HFP.out.1 k hk)⟩
  have HRS:=Lib.hid hres
  clear hown hrow hown3 hwf hres
  go_wp2_with fail
  go_ret
  exact ⟨_,rfl,by rw [HZ2.out];exact HRS.out,hb⟩
 ·have HZ2:=Lib.hid (HZ1.out h0)
  have hz:((lo'.length:Int) == 0)=false:=by
   rw [beq_eq_false_iff_ne]
   intro e
   exact h0 (List.length_eq_zero_iff.1 (by omega))
  have hbz:Below w2.heap.size w2 (w2.alloc (.cells #[.slice pF gs.length kF,.slice p2 lo'.length k2] 188)):=zav _ _
  have hfz:=(HF1.out.stays (zae hb2)).stays (zae hbz)
  have hlz:zai intE (w2.alloc (.cells #[.slice pF gs.length kF,.slice p2 lo'.length k2] 188)) (Old (w2.alloc (.cells #[.slice pF gs.length kF,.slice p2 lo'.length k2] 188))) (.slice p2 lo'.length k2) lo':=(zc4 (Old w2) hown3 hwf (fun g e=>(hown3.lt g e).2)).stays (zae hbz)
  have HC:=Lib.hid (zyi gs lo' _ _ w2.heap.size _ (zaf _ _ rfl) hfz hlz hf2 (zb0 hown) hgn hlo2)
  have HB2:=Lib.hid (zab HB1.out hb2 HB1.out.size)
  clear hown hrow hown3 hwf hfz hlz hbz h0 HF1 hb2 HWH
  go_upto_region 6 with (first
   |(go_at_call 177;(with_reducible refine HC.out.mono ?_);rintro e w3 ⟨V3,ys,rfl,hown,hrow,hb3⟩))
  have ho3:=zmh hown hrow
  have hw3:=zqh _ _ hrow
  have hlen3:(gs++lo').length≤4194304:=by rw [List.length_append];omega
  have HST:=Lib.hid (zv6 V3 (gs++lo') _ w3 ho3 hlen3)
  have HB3:=Lib.hid (zab HB2.out ((zav w2 _).trans (hb3.mono (by simp))) HB2.out.size)
  have HO3:=Lib.hid ho3
  have hbase3:W.heap.size≤(w2.alloc (.cells #[.slice pF gs.length kF,.slice p2 lo'.length k2] 188)).heap.size:=by have:=HB2.out.size;simp;omega
  have HBS:=Lib.hid hbase3
  have HW3:=Lib.hid hw3
  have ho3':=ho3
  rw [List.length_append] at ho3'
  obtain ⟨p3,k3,rfl⟩:=zat ho3'
  clear ho3' hown hrow hb3 ho3 hw3 HC hbase3
  go_wp2_with (first
   |(go_at_call 178;(with_reducible refine HST.out.mono ?_);rintro e w4 ⟨rfl,ho4,hg4⟩))
  have hb4:Below W.heap.size W w4:=HB3.out.grown hg4 HB3.out.size (fun g e=>by have:=(HO3.out.lt g e).1;have:=HBS.out;omega)
  have hwf4:∀ z∈(gs++lo').mergeSort leI,(Lit.int .i64 z).wf=true:=fun z hz=>HW3.out z (List.mem_mergeSort.1 hz)
  have hl4:((gs++lo').mergeSort leI).length=(gs++lo').length:=List.length_mergeSort _
  have ho5:=ho4
  rw [← hl4] at ho5
  have hres:=zc4 (fun k=>P k∨W.heap.size≤k) ho5 hwf4 (fun g e=>.inr (Nat.le_trans HBS.out (ho4.lt g e).1))
  have HRS:=Lib.hid hres
  clear ho4 ho5 hres hg4 HST HO3
  go_ret
  exact ⟨_,rfl,by rw [HZ2.out];exact HRS.out,hb4⟩
end Go.Proofs.YteclpnfckjfibaaGreatDoor

/- YA -/
namespace Go.Proofs.YteclpnfckjfibaaGreatDoor
def numW:List UInt8→Nat:=fun l=>l.foldl (fun n c=>n*256+c.toNat) 0
theorem zy8 (l:List UInt8) (m:Nat):l.foldl (fun n c=>n*256+c.toNat) m=m*256 ^ l.length+numW l:=by
 induction l generalizing m with
 | nil=>simp [numW]
 | cons c r ih=>
   rw [List.foldl_cons,ih]
   show _=_+List.foldl (fun n c=>n*256+c.toNat) (0*256+c.toNat) r
   rw [ih,List.length_cons,Nat.pow_succ]
   rw [Nat.add_mul,Nat.zero_mul,Nat.zero_add,Nat.mul_assoc,Nat.mul_comm 256]
   omega
theorem zy9 (c:UInt8) (r:List UInt8):numW (c::r)=c.toNat*256 ^ r.length+numW r:=by
 show List.foldl (fun n c=>n*256+c.toNat) (0*256+c.toNat) r=_
 rw [zy8,Nat.zero_mul,Nat.zero_add]
theorem zza (a p:Int) (hp:0 < p):a % (p*256)=a % p+p*(a / p % 256):=by
 have e1:p*(a / p)+a % p=a:=Int.mul_ediv_add_emod a p
 have e2:256*(a / p / 256)+a / p % 256=a / p:=Int.mul_ediv_add_emod (a / p) 256
 have h1:0≤a % p:=Int.emod_nonneg _ (by omega)
 have h2:a % p < p:=Int.emod_lt_of_pos _ hp
 have h3:0≤a / p % 256:=Int.emod_nonneg _ (by decide)
 have h4:a / p % 256 < 256:=Int.emod_lt_of_pos _ (by decide)
 generalize a / p % 256=s at e2 h3 h4 ⊢
 generalize a / p / 256=q at e2
 have e3:a=a % p+p*s+p*256*q:=by
  have:p*(256*q+s)+a % p=a:=by rw [e2];exact e1
  rw [Int.mul_add,← Int.mul_assoc] at this
  omega
 have h5:0≤p*s:=Int.mul_nonneg (by omega) h3
 have h6:p*s+p≤p*256:=by
  have:p*(s+1)≤p*256:=Int.mul_le_mul_of_nonneg_left (by omega) (by omega)
  rwa [Int.mul_add,Int.mul_one] at this
 generalize a % p=m at e3 h1 h2 ⊢
 rw [e3,Int.add_mul_emod_self_left]
 exact Int.emod_eq_of_lt (by omega) (by omega)
theorem zqi (n:Int):(k:Nat)→(numW (beB n k):Int)=n % (256:Int) ^ k
 | 0=>by simp [beB,numW,Int.emod_one]
 | i+1=>by
   show (numW (zb7 n i::beB n i):Int)=_
   rw [zy9,Int.natCast_add,Int.natCast_mul,zif,zqi n i,zbc]
   have e:(2:Int) ^ (8*i)=256 ^ i:=by rw [Int.pow_mul];rfl
   rw [e,Int.natCast_pow]
   have h0:(0:Int) < 256 ^ i:=Int.pow_pos (by decide)
   rw [show (256:Int) ^ (i+1)=256 ^ i*256 from Int.pow_succ _ _,zza n _ h0,Int.add_comm,Int.mul_comm]
   rfl
def zv7 (n:Nat):Int:=if n < 9223372036854775808 then n else (n:Int) - 18446744073709551616
def E0:ByteArray:=⟨#[]⟩
def rdT (l:List UInt8):Option (ByteArray × List UInt8):=
 if 4≤l.length∧numW (l.take 4)≤1048576∧numW (l.take 4)≤(l.drop 4).length then some (⟨((l.drop 4).take (numW (l.take 4))).toArray⟩,(l.drop 4).drop (numW (l.take 4))) else none
def rdL (g:List UInt8→Option (Val × List UInt8)):Nat→List UInt8→Option (List Val × List UInt8)
 | 0,l=>some ([],l)
 | n+1,l=>match g l with
   | none=>none
   | some (v,l')=>match rdL g n l' with
     | none=>none
     | some (q,l'')=>some (v::q,l'')
def rdK (g:Option (List UInt8→Option (Val × List UInt8))) (k:Nat) (r:List UInt8):Option (Val × List UInt8):=
 if k=1 then (match r with
  | []=>none
  | b::r'=>if b.toNat≤1 then some (.mk 1 (b.toNat == 1) 0 E0 E0 [],r') else none)
 else if k=2∨k=6∨k=7 then (if 8≤r.length then some (.mk k false (zv7 (numW (r.take 8))) E0 E0 [],r.drop 8) else none)
 else if k=3∨k=4∨k=8∨k=9 then (match rdT r with
  | none=>none
  | some (t,r')=>some (.mk k false 0 t E0 [],r'))
 else if k=10 then (match rdT r with
  | none=>none
  | some (t,r')=>match rdT r' with
    | none=>none
    | some (x,r'')=>some (.mk k false 0 t x [],r''))
 else if k=5 then (match g with
  | none=>none
  | some g=>if 4≤r.length∧numW (r.take 4)≤4096 then (match rdL g (numW (r.take 4)) (r.drop 4) with
    | none=>none
    | some (q,r')=>some (.mk 5 false 0 E0 E0 q,r')) else none)
 else some (.mk k false 0 E0 E0 [],r)
def rdV:Nat→List UInt8→Option (Val × List UInt8)
 | _,[]=>none
 | 0,c::r=>rdK none c.toNat r
 | f+1,c::r=>rdK (some (rdV f)) c.toNat r
end Go.Proofs.YteclpnfckjfibaaGreatDoor

/- PV -/
namespace Go.Proofs.YteclpnfckjfibaaGreatDoor
mutual
theorem zfh:(v:Val)→zc9 v v=true
 | .mk k b n t x l=>by
   unfold zc9
   rw [zfu l]
   simp
theorem zfu:(l:List Val)→zbr l l=true
 | []=>by unfold zbr;rfl
 | v::r=>by
   unfold zbr
   rw [zfh v,zfu r]
   rfl
end
end Go.Proofs.YteclpnfckjfibaaGreatDoor

/- PW -/
namespace Go.Proofs.YteclpnfckjfibaaGreatDoor
theorem zn0:(l:List UInt8)→Op.bytesLess l l=false
 | []=>rfl
 | a::x=>by
   unfold Op.bytesLess
   rw [zn0 x,Bool.and_false,Bool.or_false]
   simp
theorem zpc:(l m:List UInt8)→Op.bytesLess l m=true→Op.bytesLess m l=false
 | [],[],h=>by cases h
 | [],_::_,_=>rfl
 | _::_,[],h=>by cases h
 | a::x,b::y,h=>by
   unfold Op.bytesLess at h ⊢
   rw [Bool.or_eq_true,Bool.and_eq_true,decide_eq_true_eq,beq_iff_eq] at h
   rw [Bool.or_eq_false_iff,decide_eq_false_iff_not,Bool.and_eq_false_iff,beq_eq_false_iff_ne]
   rcases h with h | ⟨rfl,h⟩
   ·exact ⟨fun g=>absurd (UInt8.lt_iff_toNat_lt.1 g) (by have:=UInt8.lt_iff_toNat_lt.1 h;omega),.inl (fun e=>by rw [e] at h;exact absurd (UInt8.lt_iff_toNat_lt.1 h) (by omega))⟩
   ·exact ⟨fun g=>absurd (UInt8.lt_iff_toNat_lt.1 g) (by omega),.inr (zpc x y h)⟩
end Go.Proofs.YteclpnfckjfibaaGreatDoor

/- ZA -/
namespace Go.Proofs.YteclpnfckjfibaaGreatDoor
def lexI (c d:Int):Int:=if c=0 then d else c
def zal (l m:List UInt8):Int:=if Op.bytesLess l m then -1 else if Op.bytesLess m l then 1 else 0
def zqj (a b:Bool):Int:=if a=b then 0 else if b then -1 else 1
def zbq (lang k:Int):Int:=
 if k=0 then (if lang=1 then 0 else 10) else if k=5 then 1 else if k=6 then 2 else if k=7 then 3 else if k=9 then 4 else if k=8 then 5 else
 if k=10 then 6 else if k=4 then 7 else if k=1 then 8 else if k=2 then 9 else if k=3 then 9 else 11
mutual
def zd8 (lang:Int):Val→Val→Int
 | .mk k b n t x l,.mk k2 b2 n2 t2 x2 l2=>
   lexI (cmpZ (zbq lang k) (zbq lang k2))
    (if k=5 then za5 lang l l2
     else if k=6∨k=7 then cmpZ n n2
     else if k=1 then zqj b b2
     else if k=2∨k=3 then lexI (cmpZ (numV k n t) (numV k2 n2 t2)) (lexI (cmpZ k k2) (if k=3 then zal t.toList t2.toList else 0))
     else lexI (zal t.toList t2.toList) (zal x.toList x2.toList))
def za5 (lang:Int):List Val→List Val→Int
 | [],[]=>0
 | [],_::_=>-1
 | _::_,[]=>1
 | u::r,v::s=>lexI (zd8 lang u v) (za5 lang r s)
end
structure Tri (x y z:Int):Prop where
 le:x≤0→y≤0→z≤0
 lt:x < 0→y≤0→z < 0
 tl:x≤0→y < 0→z < 0
 eq:x=0→y=0→z=0
theorem Tri.lex {x y z x2 y2 z2:Int} (h:Tri x y z) (h2:Tri x2 y2 z2):Tri (lexI x x2) (lexI y y2) (lexI z z2):=by
 obtain ⟨a,b,c,d⟩:=h
 obtain ⟨a2,b2,c2,d2⟩:=h2
 constructor <;> unfold lexI <;> intro p q <;> (repeat' split at p) <;> (repeat' split at q) <;> (repeat' split) <;> omega
theorem zfv {x y:Int}:lexI (-x) (-y)=-lexI x y:=by
 unfold lexI
 split <;> split <;> omega
theorem zmz (a b c:Int):Tri (cmpZ a b) (cmpZ b c) (cmpZ a c):=by
 constructor <;> unfold cmpZ <;> (repeat' split) <;> omega
theorem zzb (a b:Bool):zqj b a=-zqj a b:=by cases a <;> cases b <;> rfl
theorem z10 (a b c:Bool):Tri (zqj a b) (zqj b c) (zqj a c):=by
 cases a <;> cases b <;> cases c <;> constructor <;> decide
theorem zly (l m:List UInt8):zal m l=-zal l m:=by
 unfold zal
 cases h:Op.bytesLess l m
 ·cases h2:Op.bytesLess m l <;> simp
 ·rw [zpc _ _ h];simp
theorem zij:(l m:List UInt8)→Op.bytesLess l m=false→Op.bytesLess m l=false→l=m
 | [],[],_,_=>rfl
 | [],_::_,h,_=>by cases h
 | _::_,[],_,h=>by cases h
 | a::x,b::y,h,g=>by
   unfold Op.bytesLess at h g
   rw [Bool.or_eq_false_iff,decide_eq_false_iff_not,Bool.and_eq_false_iff,beq_eq_false_iff_ne] at h g
   have e:a=b:=by
    have h1:=h.1
    have g1:=g.1
    rw [UInt8.lt_iff_toNat_lt] at h1 g1
    exact UInt8.toNat_inj.1 (by omega)
   subst e
   rcases h.2 with h2 | h2
   ·exact absurd rfl h2
   ·rcases g.2 with g2 | g2
    ·exact absurd rfl g2
    ·rw [zij x y h2 g2]
theorem zpd:(l m n:List UInt8)→Op.bytesLess l m=true→Op.bytesLess m n=true→Op.bytesLess l n=true
 | [],_,[],_,g=>by
   rename_i m h
   cases m
   ·cases h
   ·cases g
 | [],_,_::_,_,_=>rfl
 | _::_,[],_,h,_=>by cases h
 | _::_,_::_,[],_,g=>by cases g
 | a::x,b::y,c::z,h,g=>by
   unfold Op.bytesLess at h g ⊢
   rw [Bool.or_eq_true,Bool.and_eq_true,decide_eq_true_eq,beq_iff_eq] at h g ⊢
   rw [UInt8.lt_iff_toNat_lt] at h g ⊢
   rcases h with h | ⟨rfl,h⟩
   ·rcases g with g | ⟨rfl,g⟩
    ·exact .inl (by omega)
    ·exact .inl h
   ·rcases g with g | ⟨rfl,g⟩
    ·exact .inl g
    ·exact .inr ⟨rfl,zpd x y z h g⟩
theorem zn1 (a b c:List UInt8):Tri (zal a b) (zal b c) (zal a c):=by
 rcases h1:Op.bytesLess a b with _ | _
 ·rcases h2:Op.bytesLess b a with _ | _
  ·obtain rfl:=zij a b h1 h2
   have e:zal a a=0:=by unfold zal;rw [zn0];simp
   rw [e]
   constructor <;> intros <;> omega
  ·have e:zal a b=1:=by unfold zal;rw [h1,h2];simp
   rw [e]
   constructor <;> intros <;> omega
 ·have e:zal a b=-1:=by unfold zal;rw [h1];simp
  rw [e]
  rcases h3:Op.bytesLess b c with _ | _
  ·rcases h4:Op.bytesLess c b with _ | _
   ·obtain rfl:=zij b c h3 h4
    rw [e]
    constructor <;> intros <;> omega
   ·have e2:zal b c=1:=by unfold zal;rw [h3,h4];simp
    rw [e2]
    constructor <;> intros <;> omega
  ·have e3:zal a c=-1:=by unfold zal;rw [zpd a b c h1 h3];simp
   rw [e3]
   constructor <;> intros <;> omega
theorem Tri.lexIf {x y z x2 y2 z2:Int} (h:Tri x y z) (h2:x=0→y=0→Tri x2 y2 z2):Tri (lexI x x2) (lexI y y2) (lexI z z2):=by
 by_cases e:x=0∧y=0
 ·exact h.lex (h2 e.1 e.2)
 ·obtain ⟨a,b,c,d⟩:=h
  constructor <;> unfold lexI <;> intro p q <;> (repeat' split at p) <;> (repeat' split at q) <;> (repeat' split) <;> omega
theorem zda {a b:Int} (h:cmpZ a b=0):a=b:=by
 unfold cmpZ at h
 (repeat' split at h) <;> omega
theorem zk1 (a:Int):cmpZ a a=0:=by unfold cmpZ;(repeat' split) <;> omega
theorem zdu (d:Int):lexI 0 d=d:=rfl
theorem zk2 {c:Int} (h:c≠0) (d e:Int):lexI c d=lexI c e:=by unfold lexI;rw [if_neg h,if_neg h]
theorem rank5 (lang k:Int):zbq lang k=1↔k=5:=by unfold zbq;(repeat' split) <;> omega
theorem z3y (lang k:Int):(zbq lang k=2∨zbq lang k=3)↔(k=6∨k=7):=by unfold zbq;(repeat' split) <;> omega
theorem z11 (lang k:Int):zbq lang k=8↔k=1:=by unfold zbq;(repeat' split) <;> omega
theorem z3z (lang k:Int):zbq lang k=9↔(k=2∨k=3):=by unfold zbq;(repeat' split) <;> omega
theorem zik {lang k k2:Int} (h:zbq lang k=zbq lang k2):(k=5↔k2=5)∧((k=6∨k=7)↔(k2=6∨k2=7))∧(k=1↔k2=1)∧((k=2∨k=3)↔(k2=2∨k2=3)):=by
 rw [← rank5 lang k,← rank5 lang k2,← z3y lang k,← z3y lang k2,← z11 lang k,← z11 lang k2,← z3z lang k,← z3z lang k2,h]
 exact ⟨.rfl,.rfl,.rfl,.rfl⟩
def zc3 (k n:Int) (b:Bool) (t x:ByteArray) (k2 n2:Int) (b2:Bool) (t2 x2:ByteArray):Int:=
 if k=6∨k=7 then cmpZ n n2
 else if k=1 then zqj b b2
 else if k=2∨k=3 then lexI (cmpZ (numV k n t) (numV k2 n2 t2)) (lexI (cmpZ k k2) (if k=3 then zal t.toList t2.toList else 0))
 else lexI (zal t.toList t2.toList) (zal x.toList x2.toList)
theorem zes (lang:Int) (k:Int) (b:Bool) (n:Int) (t x:ByteArray) (l:List Val) (k2:Int) (b2:Bool) (n2:Int) (t2 x2:ByteArray) (l2:List Val):zd8 lang (.mk k b n t x l) (.mk k2 b2 n2 t2 x2 l2)=
 lexI (cmpZ (zbq lang k) (zbq lang k2)) (if k=5 then za5 lang l l2 else zc3 k n b t x k2 n2 b2 t2 x2):=by
 unfold zd8 zc3
 rfl
theorem zzc {lang k k2:Int} (h:zbq lang k=zbq lang k2) (n:Int) (b:Bool) (t x:ByteArray) (n2:Int) (b2:Bool) (t2 x2:ByteArray):zc3 k2 n2 b2 t2 x2 k n b t x=-zc3 k n b t x k2 n2 b2 t2 x2:=by
 obtain ⟨_,c2,c3,c4⟩:=zik h
 unfold zc3
 by_cases h2:k=6∨k=7
 ·rw [if_pos h2,if_pos (c2.1 h2),ze2]
 ·rw [if_neg h2,if_neg (fun e=>h2 (c2.2 e))]
  by_cases h3:k=1
  ·rw [if_pos h3,if_pos (c3.1 h3),zzb]
  ·rw [if_neg h3,if_neg (fun e=>h3 (c3.2 e))]
   by_cases h4:k=2∨k=3
   ·rw [if_pos h4,if_pos (c4.1 h4)]
    by_cases e:k=k2
    ·subst e
     by_cases h5:k=3
     ·rw [if_pos h5,if_pos h5,zk1,zdu,zdu,← zfv,← ze2,← zly]
     ·rw [if_neg h5,if_neg h5,zk1,zdu,← zfv,← ze2,Int.neg_zero]
    ·have d:cmpZ k k2≠0:=fun z=>e (zda z)
     have d2:cmpZ k2 k≠0:=fun z=>e (zda z).symm
     rw [zk2 d _ (-0),zk2 d2 _ (- -0),ze2 (numV k n t),ze2 k k2,zfv,zfv]
   ·rw [if_neg h4,if_neg (fun e=>h4 (c4.2 e)),zly t.toList,zly x.toList,zfv]
theorem zzd {lang k k2 k3:Int} (h:zbq lang k=zbq lang k2) (n:Int) (b:Bool) (t x:ByteArray) (n2:Int) (b2:Bool) (t2 x2:ByteArray) (n3:Int) (b3:Bool) (t3 x3:ByteArray):
 Tri (zc3 k n b t x k2 n2 b2 t2 x2) (zc3 k2 n2 b2 t2 x2 k3 n3 b3 t3 x3) (zc3 k n b t x k3 n3 b3 t3 x3):=by
 obtain ⟨_,c2,c3,c4⟩:=zik h
 unfold zc3
 by_cases h2:k=6∨k=7
 ·rw [if_pos h2,if_pos (c2.1 h2),if_pos h2]
  exact zmz _ _ _
 ·rw [if_neg h2,if_neg (fun e=>h2 (c2.2 e)),if_neg h2]
  by_cases h3:k=1
  ·rw [if_pos h3,if_pos (c3.1 h3),if_pos h3]
   exact z10 _ _ _
  ·rw [if_neg h3,if_neg (fun e=>h3 (c3.2 e)),if_neg h3]
   by_cases h4:k=2∨k=3
   ·rw [if_pos h4,if_pos (c4.1 h4),if_pos h4]
    refine (zmz _ _ _).lex ((zmz k k2 k3).lexIf fun e e'=>?_)
    obtain rfl:=zda e
    by_cases h5:k=3
    ·rw [if_pos h5,if_pos h5,if_pos h5]
     exact zn1 _ _ _
    ·rw [if_neg h5,if_neg h5,if_neg h5]
     constructor <;> intros <;> omega
   ·rw [if_neg h4,if_neg (fun e=>h4 (c4.2 e)),if_neg h4]
    exact (zn1 _ _ _).lex (zn1 _ _ _)
mutual
theorem zv8 (lang:Int):(v v2:Val)→zd8 lang v2 v=-zd8 lang v v2
 | .mk k b n t x l,.mk k2 b2 n2 t2 x2 l2=>by
   rw [zes,zes]
   by_cases h:zbq lang k=zbq lang k2
   ·rw [h,zk1,zdu,zdu]
    have c:=(zik h).1
    by_cases h5:k=5
    ·rw [if_pos h5,if_pos (c.1 h5)]
     exact zdv lang l l2
    ·rw [if_neg h5,if_neg (fun e=>h5 (c.2 e))]
     exact zzc h _ _ _ _ _ _ _ _
   ·have d:cmpZ (zbq lang k) (zbq lang k2)≠0:=fun z=>h (zda z)
    have d2:cmpZ (zbq lang k2) (zbq lang k)≠0:=fun z=>h (zda z).symm
    rw [zk2 d _ (-0),zk2 d2 _ (- -0),ze2 (zbq lang k),zfv]
theorem zdv (lang:Int):(l m:List Val)→za5 lang m l=-za5 lang l m
 | [],[]=>by unfold za5;rfl
 | [],_::_=>by unfold za5;rfl
 | _::_,[]=>by unfold za5;rfl
 | u::r,v::s=>by
   unfold za5
   rw [zv8 lang u v,zdv lang r s,zfv]
end
mutual
theorem zv9 (lang:Int):(v v2 v3:Val)→Tri (zd8 lang v v2) (zd8 lang v2 v3) (zd8 lang v v3)
 | .mk k b n t x l,.mk k2 b2 n2 t2 x2 l2,.mk k3 b3 n3 t3 x3 l3=>by
   rw [zes,zes,zes]
   refine (zmz _ _ _).lexIf fun e e'=>?_
   have h:=zda e
   have c:=(zik h).1
   by_cases h5:k=5
   ·rw [if_pos h5,if_pos (c.1 h5),if_pos h5]
    exact zh8 lang l l2 l3
   ·rw [if_neg h5,if_neg (fun e=>h5 (c.2 e)),if_neg h5]
    exact zzd h _ _ _ _ _ _ _ _ _ _ _ _
theorem zh8 (lang:Int):(l l2 l3:List Val)→Tri (za5 lang l l2) (za5 lang l2 l3) (za5 lang l l3)
 | [],[],[]=>by unfold za5;constructor <;> intros <;> omega
 | [],[],_::_=>by unfold za5;constructor <;> intros <;> omega
 | [],_::_,[]=>by unfold za5;constructor <;> intros <;> omega
 | [],_::_,_::_=>by
   unfold za5
   constructor <;> intros <;> omega
 | _::_,[],[]=>by unfold za5;constructor <;> intros <;> omega
 | _::_,[],_::_=>by unfold za5;constructor <;> intros <;> omega
 | _::_,_::_,[]=>by
   unfold za5
   constructor <;> intros <;> omega
 | u::r,v::s,z::q=>by
   unfold za5
   exact (zv9 lang u v z).lex (zh8 lang r s q)
end
end Go.Proofs.YteclpnfckjfibaaGreatDoor

/- ZB -/
namespace Go.Proofs.YteclpnfckjfibaaGreatDoor
theorem zh9 {c d:Int} (h:lexI c d=0):c=0∧d=0:=by
 unfold lexI at h
 split at h
 ·exact ⟨‹_›,h⟩
 ·exact absurd h ‹_›
theorem zi7 {l m:List UInt8} (h:zal l m=0):l=m:=by
 unfold zal at h
 cases h1:Op.bytesLess l m
 ·cases h2:Op.bytesLess m l
  ·exact zij l m h1 h2
  ·rw [h1,h2] at h;simp at h
 ·rw [h1] at h;simp at h
theorem zmi {t:ByteArray} (h:t.size=0):t=⟨#[]⟩:=by
 obtain ⟨⟨l⟩⟩:=t
 cases l with
 | nil=>rfl
 | cons a r=>exact absurd h (by simp [ByteArray.size])
theorem zcm {b:Bool} {n:Int} {t x:ByteArray} {len:Nat} (h:zca b n t x len=true):b=false∧n=0∧t=⟨#[]⟩∧x=⟨#[]⟩∧len=0:=by
 unfold zca at h
 simp only [Bool.and_eq_true,Bool.not_eq_true',decide_eq_true_eq] at h
 exact ⟨h.1.1.1.1,h.1.1.1.2,zmi h.1.1.2,zmi h.1.2,h.2⟩
theorem zpe (n:Int) (t:ByteArray):numV 2 n t=n*10 ^ 54:=by unfold numV;rw [if_pos rfl]
theorem rank0 (lang k:Int):(zbq lang k=0∨zbq lang k=10)↔k=0:=by unfold zbq;(repeat' split) <;> omega
theorem rank4 (lang k:Int):zbq lang k=7↔k=4:=by unfold zbq;(repeat' split) <;> omega
theorem rank6 (lang k:Int):zbq lang k=2↔k=6:=by unfold zbq;(repeat' split) <;> omega
theorem rank7 (lang k:Int):zbq lang k=3↔k=7:=by unfold zbq;(repeat' split) <;> omega
theorem rank8 (lang k:Int):zbq lang k=5↔k=8:=by unfold zbq;(repeat' split) <;> omega
theorem rank9 (lang k:Int):zbq lang k=4↔k=9:=by unfold zbq;(repeat' split) <;> omega
theorem z30 (lang k:Int):zbq lang k=6↔k=10:=by unfold zbq;(repeat' split) <;> omega
theorem zwa (lang:Int) (k:Int) (b:Bool) (n:Int) (t x:ByteArray) (len:Nat) (r:Bool) (k2:Int) (b2:Bool) (n2:Int) (t2 x2:ByteArray) (len2:Nat) (r2:Bool) (er:zbq lang k=zbq lang k2) (h5:¬ k=5)
 (m:zb2 k b n t x len r=true) (m2:zb2 k2 b2 n2 t2 x2 len2 r2=true) (hi:zc3 k n b t x k2 n2 b2 t2 x2=0):k=k2∧b=b2∧n=n2∧t.toList=t2.toList∧x.toList=x2.toList∧len=0∧len2=0:=by
 by_cases h0:k=0
 ·have e:=(rank0 lang k2).1 (er ▸ (rank0 lang k).2 h0)
  subst h0 e
  unfold zb2 at m m2
  rw [if_pos rfl] at m m2
  obtain ⟨rfl,rfl,rfl,rfl,rfl⟩:=zcm m
  obtain ⟨rfl,rfl,rfl,rfl,rfl⟩:=zcm m2
  exact ⟨rfl,rfl,rfl,rfl,rfl,rfl,rfl⟩
 by_cases h1:k=1
 ·have e:=(z11 lang k2).1 (er ▸ (z11 lang k).2 h1)
  subst h1 e
  unfold zb2 at m m2
  rw [if_neg (by decide),if_pos rfl] at m m2
  obtain ⟨_,rfl,rfl,rfl,rfl⟩:=zcm m
  obtain ⟨_,rfl,rfl,rfl,rfl⟩:=zcm m2
  unfold zc3 at hi
  rw [if_neg (by decide),if_pos rfl] at hi
  have eb:b=b2:=by cases b <;> cases b2 <;> first | rfl |(exact absurd hi (by decide))
  exact ⟨rfl,eb,rfl,rfl,rfl,rfl,rfl⟩
 by_cases h6:k=6∨k=7
 ·have e:k2=k:=by
   rcases h6 with h | h
   ·rw [h];exact (rank6 lang k2).1 (er ▸ (rank6 lang k).2 h)
   ·rw [h];exact (rank7 lang k2).1 (er ▸ (rank7 lang k).2 h)
  subst e
  unfold zc3 at hi
  rw [if_pos h6] at hi
  obtain rfl:=zda hi
  unfold zb2 at m m2
  rw [if_neg h0,if_neg h1,if_neg (by omega),if_neg (by omega),if_neg (by omega),if_neg h5,if_pos h6,Bool.and_eq_true] at m m2
  obtain ⟨rfl,_,rfl,rfl,rfl⟩:=zcm m.2
  obtain ⟨rfl,_,rfl,rfl,rfl⟩:=zcm m2.2
  exact ⟨rfl,rfl,rfl,rfl,rfl,rfl,rfl⟩
 by_cases h2:k=2∨k=3
 ·unfold zc3 at hi
  rw [if_neg h6,if_neg h1,if_pos h2] at hi
  obtain ⟨hn,hk⟩:=zh9 hi
  obtain ⟨hk,ht⟩:=zh9 hk
  have ek:=zda hk
  subst ek
  by_cases h3:k=3
  ·subst h3
   rw [if_pos rfl] at ht
   have et:=zi7 ht
   unfold zb2 at m m2
   rw [if_neg h0,if_neg h1,if_neg (by decide),if_pos rfl,Bool.and_eq_true] at m m2
   obtain ⟨rfl,rfl,_,rfl,rfl⟩:=zcm m.2
   obtain ⟨rfl,rfl,_,rfl,rfl⟩:=zcm m2.2
   exact ⟨rfl,rfl,rfl,et,rfl,rfl,rfl⟩
  ·obtain rfl:k=2:=by omega
   rw [zpe,zpe,zo1] at hn
   obtain rfl:=zda hn
   unfold zb2 at m m2
   rw [if_neg h0,if_neg h1,if_pos rfl] at m m2
   obtain ⟨rfl,_,rfl,rfl,rfl⟩:=zcm m
   obtain ⟨rfl,_,rfl,rfl,rfl⟩:=zcm m2
   exact ⟨rfl,rfl,rfl,rfl,rfl,rfl,rfl⟩
 unfold zc3 at hi
 rw [if_neg h6,if_neg h1,if_neg h2] at hi
 obtain ⟨ht,hx⟩:=zh9 hi
 have et:=zi7 ht
 have ex:=zi7 hx
 have n2:¬ k=2:=fun e=>h2 (.inl e)
 have n3:¬ k=3:=fun e=>h2 (.inr e)
 have e:k2=k:=by
  by_cases a4:k=4
  ·rw [a4];exact (rank4 lang k2).1 (er ▸ (rank4 lang k).2 a4)
  by_cases a8:k=8
  ·rw [a8];exact (rank8 lang k2).1 (er ▸ (rank8 lang k).2 a8)
  by_cases a9:k=9
  ·rw [a9];exact (rank9 lang k2).1 (er ▸ (rank9 lang k).2 a9)
  by_cases a10:k=10
  ·rw [a10];exact (z30 lang k2).1 (er ▸ (z30 lang k).2 a10)
  unfold zb2 at m
  rw [if_neg h0,if_neg h1,if_neg n2,if_neg n3,if_neg a4,if_neg h5,if_neg h6,if_neg a8,if_neg a9,if_neg a10] at m
  cases m
 subst e
 unfold zb2 at m m2
 rw [if_neg h0,if_neg h1,if_neg n2,if_neg n3] at m m2
 by_cases a4:k2=4
 ·rw [if_pos a4,Bool.and_eq_true] at m m2
  obtain ⟨rfl,rfl,_,rfl,rfl⟩:=zcm m.2
  obtain ⟨rfl,rfl,_,rfl,rfl⟩:=zcm m2.2
  exact ⟨rfl,rfl,rfl,et,rfl,rfl,rfl⟩
 rw [if_neg a4,if_neg h5,if_neg h6] at m m2
 by_cases a8:k2=8
 ·rw [if_pos a8,Bool.and_eq_true] at m m2
  obtain ⟨rfl,rfl,_,rfl,rfl⟩:=zcm m.2
  obtain ⟨rfl,rfl,_,rfl,rfl⟩:=zcm m2.2
  exact ⟨rfl,rfl,rfl,et,rfl,rfl,rfl⟩
 rw [if_neg a8] at m m2
 by_cases a9:k2=9
 ·rw [if_pos a9,Bool.and_eq_true] at m m2
  obtain ⟨rfl,rfl,_,rfl,rfl⟩:=zcm m.2
  obtain ⟨rfl,rfl,_,rfl,rfl⟩:=zcm m2.2
  exact ⟨rfl,rfl,rfl,et,rfl,rfl,rfl⟩
 rw [if_neg a9] at m m2
 by_cases a10:k2=10
 ·rw [if_pos a10,Bool.and_eq_true,Bool.and_eq_true] at m m2
  obtain ⟨rfl,rfl,_,_,rfl⟩:=zcm m.2.2
  obtain ⟨rfl,rfl,_,_,rfl⟩:=zcm m2.2.2
  exact ⟨rfl,rfl,rfl,et,ex,rfl,rfl⟩
 rw [if_neg a10] at m
 cases m
mutual
theorem zwb (lang:Int):(v v2:Val)→(d d2:Nat)→mayP v d=true→mayP v2 d2=true→zd8 lang v v2=0→zc9 v v2=true
 | .mk k b n t x l,.mk k2 b2 n2 t2 x2 l2,d,d2,m,m2,h=>by
   rw [zes] at h
   obtain ⟨hr,hi⟩:=zh9 h
   have er:=zda hr
   unfold mayP at m m2
   unfold zc9
   by_cases h5:k=5
   ·have h52:=(zik er).1.1 h5
    subst h5 h52
    rw [if_pos rfl] at hi
    unfold zb2 at m m2
    simp only [show ¬ (5:Int)=0 from by decide,show ¬ (5:Int)=1 from by decide,show ¬ (5:Int)=2 from by decide,show ¬ (5:Int)=3 from by decide,show ¬ (5:Int)=4 from by decide,if_true,if_false,Bool.and_eq_true] at m m2
    obtain ⟨⟨_,me⟩,mb⟩:=m
    obtain ⟨⟨_,me2⟩,mb2⟩:=m2
    obtain ⟨rfl,rfl,rfl,rfl,_⟩:=zcm mb
    obtain ⟨rfl,rfl,rfl,rfl,_⟩:=zcm mb2
    obtain ⟨e1,e2⟩:=zn2 lang l l2 _ _ me me2 hi
    simp [e1,e2]
   ·rw [if_neg h5] at hi
    obtain ⟨rfl,rfl,rfl,et,ex,l0,l20⟩:=zwa lang k b n t x l.length _ k2 b2 n2 t2 x2 l2.length _ er h5 m m2 hi
    obtain rfl:=List.length_eq_zero_iff.1 l0
    obtain rfl:=List.length_eq_zero_iff.1 l20
    simp [et,ex,zbr]
theorem zn2 (lang:Int):(l l2:List Val)→(d d2:Nat)→zd5 l d=true→zd5 l2 d2=true→za5 lang l l2=0→l.length=l2.length∧zbr l l2=true
 | [],[],_,_,_,_,_=>by unfold zbr;exact ⟨rfl,rfl⟩
 | [],_::_,_,_,_,_,h=>by unfold za5 at h;omega
 | _::_,[],_,_,_,_,h=>by unfold za5 at h;omega
 | u::r,v::s,d,d2,m,m2,h=>by
   unfold za5 at h
   unfold zd5 at m m2
   rw [Bool.and_eq_true] at m m2
   obtain ⟨h1,h2⟩:=zh9 h
   have a:=zwb lang u v d d2 m.1 m2.1 h1
   obtain ⟨e1,e2⟩:=zn2 lang r s d d2 m.2 m2.2 h2
   unfold zbr
   rw [a,e2]
   exact ⟨by simp [e1],rfl⟩
end
end Go.Proofs.YteclpnfckjfibaaGreatDoor

/- ZC -/
namespace Go.Proofs.YteclpnfckjfibaaGreatDoor
theorem zze (t:ByteArray):(n i:Nat)→(r:List UInt8)→n=t.size - i→ByteArray.toList.loop t i r=r.reverse++t.data.toList.drop i
 | 0,i,r,h=>by
   unfold ByteArray.toList.loop
   rw [if_neg (by omega)]
   have:t.data.toList.length≤i:=by rw [Array.length_toList];show t.size≤i;omega
   rw [List.drop_eq_nil_of_le this,List.append_nil]
 | n+1,i,r,h=>by
   have hi:i < t.size:=by omega
   unfold ByteArray.toList.loop
   rw [if_pos hi,zze t n (i+1) _ (by omega)]
   have hl:i < t.data.toList.length:=by rw [Array.length_toList];exact hi
   rw [List.drop_eq_getElem_cons hl,List.reverse_cons,List.append_assoc]
   have e:t.get! i=t.data.toList[i]:=by
    obtain ⟨d⟩:=t
    have h2:i < d.size:=hi
    show d[i]! =d.toList[i]
    rw [getElem!_pos d i h2]
    simp
   rw [e]
   rfl
theorem zk3 (t:ByteArray):t.toList=t.data.toList:=by
 unfold ByteArray.toList
 rw [zze t _ 0 [] rfl]
 simp
end Go.Proofs.YteclpnfckjfibaaGreatDoor

/- YB -/
namespace Go.Proofs.YteclpnfckjfibaaGreatDoor
mutual
def zn3:Val→Prop
 | .mk _ _ n t x l=>Fine n t x l.length∧zde l
def zde:List Val→Prop
 | []=>True
 | v::r=>zn3 v∧zde r
end
mutual
theorem za7.fine {w:World} {g off:Nat}:(v:Val)→za7 w g off v→zn3 v
 | .mk k b n t x l,h=>by
   unfold za7 at h
   obtain ⟨_,_,_,_,_,hf,L,_,hl⟩:=h
   unfold zn3
   exact ⟨hf,Held.fine l hl⟩
theorem Held.fine {w:World} {L:Value}:(l:List Val)→Held w L l→zde l
 | [],_=>by unfold zde;trivial
 | v::r,h=>by
   unfold Held at h
   obtain ⟨g,off,cap,e,hv,hr⟩:=h
   unfold zde
   exact ⟨za7.fine v hv,zbp.fine r hr⟩
theorem zbp.fine {w:World} {g off:Nat}:(l:List Val)→zbp w g off l→zde l
 | [],_=>by unfold zde;trivial
 | v::r,h=>by
   unfold zbp at h
   unfold zde
   exact ⟨za7.fine v h.1,zbp.fine r h.2⟩
end
theorem zqk (n:Int) (h1:-9223372036854775808≤n) (h2:n≤9223372036854775807):zv7 (numW (beB n 8))=n:=by
 have h:=zqi n 8
 rw [show (256:Int) ^ 8=18446744073709551616 from rfl] at h
 generalize numW (beB n 8)=m at h ⊢
 unfold zv7
 split <;> omega
theorem zk4 {a b:List UInt8} {k:Nat} (h:a.length=k):(a++b).take k=a:=by subst h;exact List.take_left
theorem zk5 {a b:List UInt8} {k:Nat} (h:a.length=k):(a++b).drop k=b:=by subst h;exact List.drop_left
theorem zlz (t:ByteArray) (r:List UInt8) (ht:t.size≤1048576):rdT (lenB t++r)=some (t,r):=by
 unfold rdT lenB
 have e1:(beB t.size 4++txtB t++r).take 4=beB t.size 4:=by rw [List.append_assoc];exact zk4 (zbc _ _)
 have e2:(beB t.size 4++txtB t++r).drop 4=txtB t++r:=by rw [List.append_assoc];exact zk5 (zbc _ _)
 have e3:numW (beB t.size 4)=t.size:=by
  have h:=zqi t.size 4
  rw [show (256:Int) ^ 4=4294967296 from rfl] at h
  omega
 rw [e1,e2,e3,if_pos ⟨by rw [List.length_append,List.length_append,zbc];omega,ht,by rw [List.length_append,zep];omega⟩,zk4 (zep t),zk5 (zep t)]
 rfl
theorem e0 {t:ByteArray} (h:t.size=0):t=E0:=by
 have:t.data=#[]:=Array.size_eq_zero_iff.1 h
 cases t
 simp only at this
 subst this
 rfl
theorem zcu {b:Bool} {n:Int} {t x:ByteArray} {len:Nat} (h:zca b n t x len=true):b=false∧n=0∧t.size=0∧x.size=0∧len=0:=by
 unfold zca at h
 simp only [Bool.and_eq_true,decide_eq_true_eq,Bool.not_eq_true'] at h
 obtain ⟨⟨⟨⟨h1,h2⟩,h3⟩,h4⟩,h5⟩:=h
 exact ⟨h1,h2,h3,h4,h5⟩
theorem zn4 (k:Int) (h0:0≤k) (h1:k≤10):(zb7 k 0).toNat=k.toNat:=by
 have h:=zif k 0
 rw [show (2:Int) ^ (8*0)=1 from rfl,Int.ediv_one] at h
 omega
theorem ziy {l:List Val} (h:l.length=0):l=[]:=List.length_eq_zero_iff.1 h
theorem z12 {t:ByteArray} (h:chk t.data.toList=true):t.size≤1048576:=by
 have:=chk_len h
 rw [Array.length_toList] at this
 have e:t.data.size=t.size:=rfl
 omega
theorem zrl {t:ByteArray} (h:zcw t=true):t.size≤1048576:=by
 unfold zcw at h
 exact (of_decide_eq_true h).2.1
theorem zzf {t:ByteArray} (h:zcc t=true):t.size≤1048576:=by
 unfold zcc at h
 have:=(of_decide_eq_true h).2.1
 omega
def zzg (v:Val):Prop:=∀ (d:Nat) (r:List UInt8),d≤60→zn3 v→mayP v d=true→rdV (60 - d) (encP v++r)=some (v,r)
theorem zil (d:Nat) (hd:d≤60):(q:List Val)→(∀ v∈q,zzg v)→zde q→zd5 q d=true→∀ r,rdL (rdV (60 - d)) q.length (zao q++r)=some (q,r)
 | [],_,_,_,r=>by simp [rdL,zao]
 | v::q,hA,hf,hm,r=>by
   unfold zde at hf
   unfold zd5 at hm
   rw [Bool.and_eq_true] at hm
   have h1:=hA v (by simp) d (zao q++r) hd hf.1 hm.1
   have h2:=zil d hd q (fun u hu=>hA u (List.mem_cons_of_mem _ hu)) hf.2 hm.2 r
   rw [List.length_cons]
   unfold rdL zao
   rw [List.append_assoc,h1]
   simp only
   rw [h2]
theorem z13 (f:Nat) (c:UInt8) (r:List UInt8):rdV f (c::r)=rdK (if f=0 then none else some (rdV (f - 1))) c.toNat r:=by
 cases f with
 | zero=>rfl
 | succ f=>rfl
theorem zzh (v:Val) (k:Int) (b:Bool) (n:Int) (t x:ByteArray) (q:List Val) (ev:v=.mk k b n t x q) (each:∀ u∈q,zzg u):zzg v:=by
 subst ev
 intro d r hd hf hm
 unfold zn3 at hf
 obtain ⟨hf,hfa⟩:=hf
 unfold mayP zb2 at hm
 unfold encP
 rw [List.cons_append,z13]
 split at hm
 ·rename_i hk
  subst hk
  obtain ⟨rfl,rfl,ht,hx,hq⟩:=zcu hm
  rw [e0 ht,e0 hx,ziy hq,zn4 0 (by decide) (by decide)]
  rfl
 split at hm
 ·rename_i _ hk
  subst hk
  obtain ⟨_,rfl,ht,hx,hq⟩:=zcu hm
  rw [e0 ht,e0 hx,ziy hq,zn4 1 (by decide) (by decide)]
  cases b <;> rfl
 split at hm
 ·rename_i _ _ hk
  subst hk
  obtain ⟨rfl,_,ht,hx,hq⟩:=zcu hm
  rw [e0 ht,e0 hx,ziy hq,zn4 2 (by decide) (by decide)]
  have h8:(beB n 8++r).take 8=beB n 8:=zk4 (zbc _ _)
  have h9:(beB n 8++r).drop 8=r:=zk5 (zbc _ _)
  show (if 8≤(beB n 8++r).length then some (Val.mk 2 false (zv7 (numW ((beB n 8++r).take 8))) E0 E0 [],(beB n 8++r).drop 8) else none)=_
  rw [if_pos (by rw [List.length_append,zbc];omega),h8,h9,zqk n hf.lo hf.hi]
 split at hm
 ·rename_i _ _ _ hk
  subst hk
  rw [Bool.and_eq_true] at hm
  obtain ⟨hc,hm⟩:=hm
  obtain ⟨rfl,rfl,_,hx,hq⟩:=zcu hm
  rw [e0 hx,ziy hq,zn4 3 (by decide) (by decide)]
  show (match rdT (lenB t++r) with | none=>none | some (t,r')=>some (Val.mk 3 false 0 t E0 [],r'))=_
  rw [zlz t r (z12 hc)]
 split at hm
 ·rename_i _ _ _ _ hk
  subst hk
  rw [Bool.and_eq_true] at hm
  obtain ⟨hc,hm⟩:=hm
  obtain ⟨rfl,rfl,_,hx,hq⟩:=zcu hm
  rw [e0 hx,ziy hq,zn4 4 (by decide) (by decide)]
  show (match rdT (lenB t++r) with | none=>none | some (t,r')=>some (Val.mk 4 false 0 t E0 [],r'))=_
  rw [zlz t r (of_decide_eq_true hc)]
 split at hm
 ·rename_i _ _ _ _ _ hk
  subst hk
  rw [Bool.and_eq_true,Bool.and_eq_true,Bool.and_eq_true] at hm
  obtain ⟨⟨⟨hl,hdd⟩,he⟩,hm⟩:=hm
  obtain ⟨rfl,rfl,ht,hx,_⟩:=zcu hm
  have hl:=of_decide_eq_true hl
  have hdd:=of_decide_eq_true hdd
  rw [e0 ht,e0 hx,zn4 5 (by decide) (by decide),if_neg (show ¬60 - d=0 by omega)]
  have h4:(beB q.length 4++zao q++r).take 4=beB q.length 4:=by rw [List.append_assoc];exact zk4 (zbc _ _)
  have h5:(beB q.length 4++zao q++r).drop 4=zao q++r:=by rw [List.append_assoc];exact zk5 (zbc _ _)
  have h6:numW (beB q.length 4)=q.length:=by
   have h:=zqi q.length 4
   rw [show (256:Int) ^ 4=4294967296 from rfl] at h
   omega
  have h7:=zil (d+1) hdd q each hfa he r
  rw [show 60 - (d+1)=60 - d - 1 by omega] at h7
  show (if 4≤(beB q.length 4++zao q++r).length∧numW ((beB q.length 4++zao q++r).take 4)≤4096 then (match rdL (rdV (60 - d - 1)) (numW ((beB q.length 4++zao q++r).take 4)) ((beB q.length 4++zao q++r).drop 4) with | none=>none | some (q,r')=>some (Val.mk 5 false 0 E0 E0 q,r')) else none)=_
  rw [h4,h5,h6,if_pos ⟨by rw [List.length_append,List.length_append,zbc];omega,hl⟩,h7]
 split at hm
 ·rename_i _ _ _ _ _ _ hk
  rw [Bool.and_eq_true] at hm
  obtain ⟨_,hm⟩:=hm
  obtain ⟨rfl,_,ht,hx,hq⟩:=zcu hm
  have h8:(beB n 8++r).take 8=beB n 8:=zk4 (zbc _ _)
  have h9:(beB n 8++r).drop 8=r:=zk5 (zbc _ _)
  rcases hk with hk | hk
  ·subst hk
   rw [e0 ht,e0 hx,ziy hq,zn4 6 (by decide) (by decide)]
   show (if 8≤(beB n 8++r).length then some (Val.mk 6 false (zv7 (numW ((beB n 8++r).take 8))) E0 E0 [],(beB n 8++r).drop 8) else none)=_
   rw [if_pos (by rw [List.length_append,zbc];omega),h8,h9,zqk n hf.lo hf.hi]
  ·subst hk
   rw [e0 ht,e0 hx,ziy hq,zn4 7 (by decide) (by decide)]
   show (if 8≤(beB n 8++r).length then some (Val.mk 7 false (zv7 (numW ((beB n 8++r).take 8))) E0 E0 [],(beB n 8++r).drop 8) else none)=_
   rw [if_pos (by rw [List.length_append,zbc];omega),h8,h9,zqk n hf.lo hf.hi]
 split at hm
 ·rename_i _ _ _ _ _ _ _ hk
  subst hk
  rw [Bool.and_eq_true] at hm
  obtain ⟨hc,hm⟩:=hm
  obtain ⟨rfl,rfl,_,hx,hq⟩:=zcu hm
  rw [e0 hx,ziy hq,zn4 8 (by decide) (by decide)]
  show (match rdT (lenB t++r) with | none=>none | some (t,r')=>some (Val.mk 8 false 0 t E0 [],r'))=_
  rw [zlz t r (zrl hc)]
 split at hm
 ·rename_i _ _ _ _ _ _ _ _ hk
  subst hk
  rw [Bool.and_eq_true] at hm
  obtain ⟨hc,hm⟩:=hm
  obtain ⟨rfl,rfl,_,hx,hq⟩:=zcu hm
  rw [e0 hx,ziy hq,zn4 9 (by decide) (by decide)]
  show (match rdT (lenB t++r) with | none=>none | some (t,r')=>some (Val.mk 9 false 0 t E0 [],r'))=_
  rw [zlz t r (zzf hc)]
 split at hm
 ·rename_i _ _ _ _ _ _ _ _ _ hk
  subst hk
  rw [Bool.and_eq_true,Bool.and_eq_true] at hm
  obtain ⟨ht,hc,hm⟩:=hm
  obtain ⟨rfl,rfl,_,_,hq⟩:=zcu hm
  rw [ziy hq,zn4 10 (by decide) (by decide)]
  show (match rdT (lenB t++lenB x++r) with | none=>none | some (t,r')=>(match rdT r' with | none=>none | some (x,r'')=>some (Val.mk 10 false 0 t x [],r'')))=_
  rw [List.append_assoc,zlz t _ (of_decide_eq_true ht)]
  simp only
  rw [zlz x r (zrl hc)]
 ·cases hm
mutual
theorem z14:(v:Val)→zzg v
 | .mk k b n t x q=>zzh _ k b n t x q rfl (zk6 q)
theorem zk6:(q:List Val)→∀ u∈q,zzg u
 | [],_,h=>absurd h (by simp)
 | v::r,u,h=>by
   rcases List.mem_cons.1 h with h | h
   ·rw [h];exact z14 v
   ·exact zk6 r u h
end
mutual
theorem zzi:(v u:Val)→zc9 v u=true→v=u
 | .mk k b n t x l,.mk k2 b2 n2 t2 x2 l2,h=>by
   unfold zc9 at h
   simp only [Bool.and_eq_true,beq_iff_eq] at h
   obtain ⟨rfl,rfl,rfl,ht,hx,hl,he⟩:=h
   rw [zk3,zk3] at ht hx
   have e1:t=t2:=by cases t;cases t2;simp only at ht;rw [Array.toList_inj.1 ht]
   have e2:x=x2:=by cases x;cases x2;simp only at hx;rw [Array.toList_inj.1 hx]
   rw [e1,e2,zi8 l l2 hl he]
theorem zi8:(l l2:List Val)→l.length=l2.length→zbr l l2=true→l=l2
 | [],[],_,_=>rfl
 | [],_::_,h,_=>absurd h (by simp)
 | _::_,[],h,_=>absurd h (by simp)
 | v::r,u::s,h,he=>by
   unfold zbr at he
   rw [Bool.and_eq_true] at he
   rw [zzi v u he.1,zi8 r s (by simpa using h) he.2]
end
end Go.Proofs.YteclpnfckjfibaaGreatDoor

/- NP -/
namespace Go.Proofs.YteclpnfckjfibaaGreatDoor
open Go.RowKit
theorem zwc (q s:List Val) (hl:q.length=s.length) (f1:zde q) (f2:zde s) (m1:zd5 q 0=true) (m2:zd5 s 0=true) (h:zao q=zao s):q=s:=by
 have h1:=zil 0 (by omega) q (zk6 q) f1 m1 []
 have h2:=zil 0 (by omega) s (zk6 s) f2 m2 []
 rw [h,hl,h2] at h1
 simpa using h1.symm
theorem zk7:(l:List Val)→(∀ v∈l,mayP v 0=true)→zd5 l 0=true
 | [],_=>by unfold zd5;rfl
 | v::r,h=>by
   unfold zd5
   rw [h v (by simp),zk7 r fun u hu=>h u (by simp [hu])]
   rfl
theorem zl0:(l:List Val)→(∀ v∈l,zn3 v)→zde l
 | [],_=>by unfold zde;trivial
 | v::r,h=>by
   unfold zde
   exact ⟨h v (by simp),zl0 r fun u hu=>h u (by simp [hu])⟩
theorem zl1 {sh:List (Nat × Nat)} {r:List Val} {v:Val} (hin:∀ p∈sh,p.1 < r.length) (h:v∈zby sh r):v∈r:=by
 unfold zby at h
 rw [List.map_map] at h
 obtain ⟨p,hp,rfl⟩:=List.mem_map.1 h
 show atV r p.1∈r
 rw [zh4 (hin p hp)]
 exact List.getElem_mem _
theorem zrm:(sh:List (Nat × Nat))→(a b:List Val)→(zby sh a).all isB=true→(zbh sh b).all isB=true→(fitB sh a b=true↔zby sh a=zbh sh b)
 | [],a,b,_,_=>by simp [fitB,zby,zbh]
 | p::sh,a,b,ha,hb=>by
   have ha':isB (atV a p.1)=true∧(zby sh a).all isB=true:=by simpa [zby] using ha
   have hb':isB (atV b p.2)=true∧(zbh sh b).all isB=true:=by simpa [zbh] using hb
   have ih:=zrm sh a b ha'.2 hb'.2
   have e1:zby (p::sh) a=atV a p.1::zby sh a:=rfl
   have e2:zbh (p::sh) b=atV b p.2::zbh sh b:=rfl
   have e3:fitB (p::sh) a b=(fit1 a b p && fitB sh a b):=rfl
   have e4:fit1 a b p=zc9 (atV a p.1) (atV b p.2):=by simp [fit1,ha'.1,hb'.1]
   have e5:zc9 (atV a p.1) (atV b p.2)=true↔atV a p.1=atV b p.2:=⟨zzi _ _,fun h=>by rw [h];exact zfh _⟩
   rw [e1,e2,e3,e4,Bool.and_eq_true,e5,ih,List.cons.injEq]
def fitN (sh:List (Nat × Nat)) (r:List Val) (rows:List (List Val)):List Nat:=(rows.zipIdx.filter fun p=>fitB sh r p.1).map (·.2)
theorem leI_nat (l:List (List Val × Nat)) (h:l.Pairwise (fun p q=>p.2≤q.2)):(l.map fun p=>(p.2:Int)).Pairwise (fun x y=>leI x y=true):=by
 rw [List.pairwise_map]
 exact h.imp fun h=>by simpa [leI] using h
theorem z15 (rows:List (List Val)) (k:Nat):(rows.zipIdx k).Pairwise (fun p q=>p.2≤q.2):=by
 induction rows generalizing k with
 | nil=>exact List.Pairwise.nil
 | cons a l ih=>
   rw [List.zipIdx_cons]
   refine List.Pairwise.cons (fun p hp=>?_) (ih (k+1))
   have:=(List.mem_zipIdx hp).1
   show k≤p.2
   omega
theorem zzj (sh:List (Nat × Nat)) (rows:List (List Val)) (r:List Val) (hin:∀ x∈rows,∀ p∈sh,p.1 < r.length∧p.2 < x.length) (hA:(zby sh r).all isB=true)
 (fr:∀ v∈r,zn3 v) (fx:∀ x∈rows,∀ v∈x,zn3 v) (mr:∀ v∈r,mayP v 0=true) (mx:∀ x∈rows,∀ v∈x,mayP v 0=true) (hsh:∀ p∈sh,p.1 < r.length):
 zy6 sh rows r (zao (zby sh r))=(fitN sh r rows).map fun i:Nat=>(i:Int):=by
 have key:∀ p∈rows.zipIdx,(zbh sh p.1).all isB=true→(decide (zao (zbh sh p.1)=zao (zby sh r))=fitB sh r p.1):=fun p hp hb=>by
  have hpr:p.1∈rows:=by
   have:=List.mem_zipIdx' hp
   rw [this.2]
   exact List.getElem_mem _
  have h:=zrm sh r p.1 hA hb
  have ge:zao (zbh sh p.1)=zao (zby sh r)↔zby sh r=zbh sh p.1:=⟨fun e=>(zwc _ _ (by simp [zby,zbh]) (zl0 _ fun v hv=>fx _ hpr v (zlx (fun p hp=>(hin _ hpr p hp).2) hv)) (zl0 _ fun v hv=>fr v (zl1 hsh hv)) (zk7 _ fun v hv=>mx _ hpr v (zlx (fun p hp=>(hin _ hpr p hp).2) hv)) (zk7 _ fun v hv=>mr v (zl1 hsh hv)) e).symm,fun e=>by rw [e]⟩
  rw [Bool.eq_iff_iff,decide_eq_true_iff,ge,h]
 have e1:grp (evI sh rows) (zao (zby sh r))=((rows.zipIdx.filter fun p=>(zbh sh p.1).all isB && fitB sh r p.1).map fun p=>(p.2:Int)):=by
  unfold grp evI
  have hl:∀ l:List (List Val × Nat),(∀ p∈l,p∈rows.zipIdx)→(((l.filterMap fun p=>if (zbh sh p.1).all isB then some (zao (zbh sh p.1),(p.2:Int)) else none).filter fun e=>decide (e.1=zao (zby sh r))).map (·.2))=((l.filter fun p=>(zbh sh p.1).all isB && fitB sh r p.1).map fun p=>(p.2:Int)):=by
   intro l
   induction l with
   | nil=>intro _;rfl
   | cons p l ih=>
     intro hm
     have ih:=ih fun q hq=>hm q (by simp [hq])
     have hk:=key p (hm p (by simp))
     rw [List.filterMap_cons,List.filter_cons]
     cases hb:(zbh sh p.1).all isB with
     | false=>
       simp only [Bool.false_eq_true,if_false,Bool.false_and]
       exact ih
     | true=>
       simp only [if_true,Bool.true_and]
       rw [List.filter_cons,hk hb]
       cases fitB sh r p.1 with
       | false=>simp only [Bool.false_eq_true,if_false];exact ih
       | true=>simp only [if_true,List.map_cons];rw [ih]
  exact hl _ fun _ h=>h
 have e2:(zbi sh rows).filter (fun z=>fitB sh r (zix rows z))=((rows.zipIdx.filter fun p=>!(zbh sh p.1).all isB && fitB sh r p.1).map fun p=>(p.2:Int)):=by
  unfold zbi
  have hl:∀ l:List (List Val × Nat),(∀ p∈l,p∈rows.zipIdx)→((l.filterMap fun p=>if (zbh sh p.1).all isB then none else some (p.2:Int)).filter fun z=>fitB sh r (zix rows z))=((l.filter fun p=>!(zbh sh p.1).all isB && fitB sh r p.1).map fun p=>(p.2:Int)):=by
   intro l
   induction l with
   | nil=>intro _;rfl
   | cons p l ih=>
     intro hm
     have ih:=ih fun q hq=>hm q (by simp [hq])
     have hro:zix rows (p.2:Int)=p.1:=by
      have:=List.mem_zipIdx' (hm p (by simp))
      unfold zix
      rw [Int.toNat_natCast,this.2]
      simp [this.1]
     rw [List.filterMap_cons,List.filter_cons]
     cases hb:(zbh sh p.1).all isB with
     | true=>
       simp only [if_true,Bool.not_true,Bool.false_and,Bool.false_eq_true,if_false]
       exact ih
     | false=>
       simp only [Bool.false_eq_true,if_false,Bool.not_false,Bool.true_and]
       rw [List.filter_cons,hro]
       cases fitB sh r p.1 with
       | false=>simp only [Bool.false_eq_true,if_false];exact ih
       | true=>simp only [if_true,List.map_cons];rw [ih]
  exact hl _ fun _ h=>h
 unfold zy6 fitN
 rw [e1,e2,List.map_map]
 show _=(rows.zipIdx.filter fun p=>fitB sh r p.1).map fun p=>(p.2:Int)
 have f1:(rows.zipIdx.filter fun p=>(zbh sh p.1).all isB && fitB sh r p.1)=(rows.zipIdx.filter fun p=>fitB sh r p.1).filter fun p=>(zbh sh p.1).all isB:=by rw [List.filter_filter]
 have f2:(rows.zipIdx.filter fun p=>!(zbh sh p.1).all isB && fitB sh r p.1)=(rows.zipIdx.filter fun p=>fitB sh r p.1).filter fun p=>!(zbh sh p.1).all isB:=by rw [List.filter_filter]
 have hs:(rows.zipIdx.filter fun p=>fitB sh r p.1).Pairwise (fun p q=>p.2≤q.2):=(z15 rows 0).sublist List.filter_sublist
 rw [f1,f2]
 generalize (rows.zipIdx.filter fun p=>fitB sh r p.1)=F at*
 have hperm:(F.filter (fun p=>(zbh sh p.1).all isB)++F.filter (fun p=>!(zbh sh p.1).all isB)).Perm F:=List.filter_append_perm _ F
 split
 ·rename_i h0
  have h0':F.filter (fun p=>!(zbh sh p.1).all isB)=[]:=List.map_eq_nil_iff.1 h0
  have:F.filter (fun p=>(zbh sh p.1).all isB)=F:=by
   rw [List.filter_eq_self]
   intro p hp
   have:=List.filter_eq_nil_iff.1 h0' p hp
   simpa using this
  rw [this]
 ·refine List.Perm.eq_of_pairwise (le:=fun x y=>leI x y=true) (fun a b _ _ h1 h2=>leI_an a b h1 h2) (List.pairwise_mergeSort leI_tr leI_to _) (leI_nat F hs) ((List.mergeSort_perm _ leI).trans ?_)
  rw [← List.map_append]
  exact hperm.map _
end Go.Proofs.YteclpnfckjfibaaGreatDoor

/- IT -/
namespace Go.Proofs
open Go.Shelf
namespace YteclpnfckjfibaaGreatDoor
open Go.RowKit
attribute [local go_sem] Oper.semAt_some
theorem zf1:∀ f,Fence.wide.fn f:=fun _=>trivial
section
variable {F:Fence} {n:Nat} {ops:Array Oper} {rest:List Oper} {o:Oper} {a:Act} {w:World} {Q:Exit→Act→World→Prop}
theorem zia (hF:∀ f,F.fn f) (v:Value) (w':World) (hw:Region.wanted o (yielded ops a.tmps)=true) (hd:∀ c,o.op≠.defer c) (hr:(execOp a.eval o).run Tryz.prog w=.ok (.value v) w')
 (h:wpListIn F n Tryz.prog ops Q rest (a.put o.dst v) w'):wpListIn F n Tryz.prog ops Q (o::rest) a w:=
 wpListIn_step fun K hK=>by
  rw [if_pos hw]
  exact ⟨fun f _=>hF f,by rw [Oper.semAt_plain F _ _ hd,hr];exact hK _ _ h⟩
theorem zql (hF:∀ f,F.fn f) (x:Operand) (g off:Nat) (A B:Value) (hr:w.rangeAt g off [A,B])
 (hw:Region.wanted o (yielded ops a.tmps)=true) (ho:o.op=.load 87 x) (hx:a.eval x=.pointer (some ⟨g,off,none⟩))
 (h:wpListIn F n Tryz.prog ops Q rest (a.put o.dst (.agg #[A,B])) w):wpListIn F n Tryz.prog ops Q (o::rest) a w:=
 zia hF _ _ hw (by rw [ho];intro c hc;cases hc) (by
  unfold execOp
  simp only [ho,hx,Instr.loadAt,Instr.sureAddr,Sem.run_bind,Sem.run_pure,Result.andThen_ok,run_loadVar_mid (P:=Tryz.prog) w g off 87 _ _ hr Tryz.underlying87 rfl zmf]) h
theorem ztc (hF:∀ f,F.fn f) (x:Operand) (g:Nat) (A B R M L:Value) (hg:w.heap[g]?=some (.cells #[A,B,R,M,L] 90))
 (hw:Region.wanted o (yielded ops a.tmps)=true) (ho:o.op=.load 90 x) (hx:a.eval x=.pointer (some ⟨g,0,none⟩))
 (h:wpListIn F n Tryz.prog ops Q rest (a.put o.dst (.agg #[A,B,R,M,L])) w):wpListIn F n Tryz.prog ops Q (o::rest) a w:=
 zia hF _ _ hw (by rw [ho];intro c hc;cases hc) (by
  unfold execOp
  simp only [ho,hx,Instr.loadAt,Instr.sureAddr,Sem.run_bind,Sem.run_pure,Result.andThen_ok,run_loadVar_row (P:=Tryz.prog) w g 90 90 _ (0,0) _ hg Tryz.underlying90 rfl zh7]) h
end
theorem zrn {α:Type} {J:List α→World→Prop} {B:Nat} (hJ:AbidesFrom B J) {pre:List α} {A C:World} (h:J pre A) (b:Below A.heap.size A C):J pre C:=
 hJ pre A C none h ⟨b.os,b.tape,b.output,b.size,fun k hk _=>b.block k hk⟩ (fun r e=>by cases e)
def KpO (N:Nat) (Ow:World→Nat→Prop) (A B:World):Prop:=
 A.heap.size≤B.heap.size∧(∀ k o,A.heap[k]?=some o→¬ Ow A k→(k < N∨o.isCells=true)→B.heap[k]?=some o)∧∀ k,k < A.heap.size→Ow B k→Ow A k
def OwN (N:Nat) (Ow:World→Nat→Prop):Prop:=∀ (A B:World) (k:Nat),Below N A B→Ow B k→Ow A k
section
variable {N:Nat} {Ow:World→Nat→Prop}
theorem ztd {A B C:World} (h:KpO N Ow A B) (k:KpO N Ow B C):KpO N Ow A C:=
 ⟨Nat.le_trans h.1 k.1,fun i o e q c=>k.2.1 i o (h.2.1 i o e q c) (fun x=>q (h.2.2 i (Array.getElem?_eq_some_iff.1 e).1 x)) c,fun i hi x=>h.2.2 i hi (k.2.2 i (Nat.lt_of_lt_of_le hi h.1) x)⟩
theorem kpO_b {w:World} (hN:N≤w.heap.size) (ho:OwN N Ow) (W:World) (l:Nat) (o o':Obj) (hl:w.heap.size≤l) (h:W.heap[l]?=some o) (hc:o.isCells=false) (_:o.isWalk=false):KpO N Ow W (W.putObj l o'):=
 have hb:Below N W (W.putObj l o'):=(Below.refl N W).grown (grownBy_putObj' W l o') (by have:=(Array.getElem?_eq_some_iff.1 h).1;omega) (fun k e=>by cases e;omega)
 ⟨hb.size,fun k p e _ c=>by
  have hk:k≠l:=by
   intro q
   subst q
   rw [h] at e
   cases e
   rcases c with c | c
   ·omega
   ·rw [hc] at c;cases c
  exact (World.putObj_heap_other hk).trans e,fun k _ x=>ho _ _ _ hb x⟩
theorem KpO.of_below {A B:World} (b:Below A.heap.size A B) (hN:N≤A.heap.size) (ho:OwN N Ow):KpO N Ow A B:=
 ⟨b.size,fun k _ e _ _=>(b.block k (Array.getElem?_eq_some_iff.1 e).1).trans e,fun _ _ x=>ho _ _ _ (b.mono hN) x⟩
theorem KpO.refl (A:World):KpO N Ow A A:=⟨Nat.le_refl _,fun _ _ e _ _=>e,fun _ _ x=>x⟩
theorem KpO.cells {A B:World} (h:KpO N Ow A B) {k:Nat} {c:Array Value} {t:TypeId} (e:A.heap[k]?=some (.cells c t)) (q:¬ Ow A k):B.heap[k]?=some (.cells c t):=h.2.1 k _ e q (.inr rfl)
theorem KpO.cell {A B:World} (h:KpO N Ow A B) {k o:Nat} {v:Value} (e:A.cell? ⟨k,o,none⟩=some v) (q:¬ Ow A k):B.cell? ⟨k,o,none⟩=some v:=by
 have hb:=World.block_lt_of_cell? A (a:=⟨k,o,none⟩) e
 cases hh:A.heap[k]? with
 | none=>rw [Array.getElem?_eq_none_iff] at hh;exact absurd hb (by simpa using hh)
 | some ob=>
   refine (World.cell?_of_block (w:=A) (a:=⟨k,o,none⟩) ?_).trans e
   show B.heap[k]?=A.heap[k]?
   rw [hh]
   refine h.2.1 k ob hh q (.inr ?_)
   cases ob with
   | cells c t=>rfl
   | _=>simp [World.cell?,hh] at e
end
abbrev RowN (rows:List (List Val)):={ i:Nat // i < rows.length }
structure CSet (w:World) (N:Nat) (Ow:World→Nat→Prop) (P:Nat→Prop) (sh:List (Nat × Nat)) (rows:List (List Val)) (A B R u:Value) (r:List Val) (us:Nat→Value):Prop where
 ow:OwN N Ow
 hN:N≤w.heap.size
 hP:∀ k,P k→k < N∧¬ Ow w k
 sh:ShIn w P sh A B
 rw_:zai rowE w P R rows
 u:zai valE w P u r
 us:∀ i (h:i < rows.length),∃ g off cap,R=.slice (some ⟨g,off,none⟩) rows.length cap∧P g∧w.cell? ⟨g,off+i,none⟩=some (us i)∧zai valE w P (us i) rows[i]∧rows[i].length≤2097152
theorem CSet.stay {w W:World} {N:Nat} {Ow:World→Nat→Prop} {P:Nat→Prop} {sh:List (Nat × Nat)} {rows:List (List Val)} {A B R u:Value} {r:List Val} {us:Nat→Value} (c:CSet w N Ow P sh rows A B R u r us) (h:KpO N Ow w W):zel P P w W:=fun k hk=>by
 have hl:k < w.heap.size:=Nat.lt_of_lt_of_le (c.hP k hk).1 c.hN
 refine ⟨hk,?_⟩
 rw [Array.getElem?_eq_getElem hl]
 exact h.2.1 k _ (Array.getElem?_eq_getElem hl) (c.hP k hk).2 (.inl (c.hP k hk).1)
theorem CSet.move {w W:World} {N:Nat} {Ow:World→Nat→Prop} {P:Nat→Prop} {sh:List (Nat × Nat)} {rows:List (List Val)} {A B R u:Value} {r:List Val} {us:Nat→Value} (c:CSet w N Ow P sh rows A B R u r us) (h:KpO N Ow w W):CSet W N Ow P sh rows A B R u r us:=
 have s:=c.stay h
 ⟨c.ow,Nat.le_trans c.hN h.1,fun k hk=>⟨(c.hP k hk).1,fun x=>(c.hP k hk).2 (h.2.2 k (Nat.lt_of_lt_of_le (c.hP k hk).1 c.hN) x)⟩,c.sh.stays s,c.rw_.stays s,c.u.stays s,fun i hi=>by
  obtain ⟨g,off,cap,e,hg,hc,hs,hl⟩:=c.us i hi
  exact ⟨g,off,cap,e,hg,s.cell hg _ hc,hs.stays s,hl⟩⟩
theorem CSet.old {w:World} {N:Nat} {Ow:World→Nat→Prop} {P:Nat→Prop} {sh:List (Nat × Nat)} {rows:List (List Val)} {A B R u:Value} {r:List Val} {us:Nat→Value} (c:CSet w N Ow P sh rows A B R u r us):zel P (Old w) w w:=fun k hk=>⟨Nat.lt_of_lt_of_le (c.hP k hk).1 c.hN,rfl⟩
section
variable {sh:List (Nat × Nat)} {rows:List (List Val)} {r:List Val}
def fitU (sh:List (Nat × Nat)) (r:List Val) (rows:List (List Val)) (k:Nat):List Nat:=((rows.zipIdx.take k).filter fun p=>fitB sh r p.1).map (·.2)
theorem zro {k:Nat} (h:k < rows.length):fitU sh r rows (k+1)=fitU sh r rows k++(if fitB sh r rows[k]=true then [k] else []):=by
 unfold fitU
 have hz:k < rows.zipIdx.length:=by simpa using h
 rw [List.take_succ_eq_append_getElem hz,List.filter_append,List.map_append,List.getElem_zipIdx]
 rw [List.filter_cons]
 simp only [List.filter_nil,Nat.zero_add]
 cases fitB sh r rows[k] <;> rfl
theorem zqm {k:Nat} (h:k < rows.length) (hj:fitB sh r rows[k]=true):fitU sh r rows (k+1)=fitU sh r rows k++[k]:=by rw [zro h,if_pos hj]
theorem zzk {k:Nat} (h:k < rows.length) (hj:fitB sh r rows[k]=false):fitU sh r rows (k+1)=fitU sh r rows k:=by rw [zro h,if_neg (by rw [hj];decide),List.append_nil]
theorem z16 {k:Nat} (h:rows.length≤k):fitU sh r rows k=fitN sh r rows:=by
 unfold fitU fitN
 rw [List.take_of_length_le (by simpa using h)]
theorem zur (k:Nat):fitU sh r rows k <+: fitN sh r rows:=((List.take_prefix k _).filter _).map _
theorem fitU_lt {k:Nat} (h:k < rows.length) (hj:fitB sh r rows[k]=true):(fitU sh r rows k).length < (fitN sh r rows).length:=by
 have h1:=(zur (sh:=sh) (r:=r) (rows:=rows) (k+1)).length_le
 rw [zqm h hj] at h1
 simp at h1
 omega
theorem fitN_lt:∀ i∈fitN sh r rows,i < rows.length:=fun i hi=>by
 unfold fitN at hi
 obtain ⟨p,hp,rfl⟩:=List.mem_map.1 hi
 exact (List.mem_zipIdx' (List.mem_filter.1 hp).1).1
theorem zus:(fitN sh r rows).length≤rows.length:=by
 unfold fitN
 rw [List.length_map]
 refine Nat.le_trans (List.length_filter_le _ _) ?_
 rw [List.length_zipIdx]
 exact Nat.le_refl _
end
def z31 {rows:List (List Val)} (N:Nat) (Ow:World→Nat→Prop) (J Jx:List (RowN rows)→World→Prop) (pre:List (RowN rows)) (x:RowN rows) (W1:World) (e:Ending) (W':World):Prop:=
 (e=.returned (.bool true)∧J (pre++[x]) W'∧KpO N Ow W1 W')∨(e=.returned (.bool false)∧Jx (pre++[x]) W')
def z17 {rows:List (List Val)} (sh:List (Nat × Nat)) (r:List Val) (J Jx:List (RowN rows)→World→Prop) (e:Ending) (W':World):Prop:=
 (∃ v,e=.returned v)∧((∃ xs:List (RowN rows),xs.map Subtype.val=fitN sh r rows∧J xs W')∨∃ pre:List (RowN rows),pre.map Subtype.val <+: fitN sh r rows∧Jx pre W')
def z18 {rows:List (List Val)} (N:Nat) (Ow:World→Nat→Prop) (J:List (RowN rows)→World→Prop) (W1:World) (L:List Nat) (wr:World):Prop:=KpO N Ow W1 wr∧∃ L':List (RowN rows),L'.map Subtype.val=L∧J L' wr
set_option maxHeartbeats 6400000 in
set_option maxRecDepth 20000 in
theorem lookAt (sh:List (Nat × Nat)) (rows:List (List Val)) (A B R L u:Value) (mb:Nat) (r:List Val) (us:Nat→Value) (W:World) (N:Nat) (Ow:World→Nat→Prop) (P:Nat→Prop) (c:CSet W N Ow P sh rows A B R u r us) (oN:∀ k,Ow W k→k < W.heap.size)
 (hin:∀ x∈rows,∀ p∈sh,p.1 < r.length∧p.2 < x.length) (hsn:sh.length≤2097152) (hrn:r.length≤2097152) (hn:rows.length≤2097152) (l:Nat) (J Jx:List (RowN rows)→World→Prop) (hJ:AbidesFrom W.heap.size J) (hJ0:J [] W)
 (hY:∀ m pre (x:RowN rows) W1,J pre W1→pre.length < (fitN sh r rows).length→YieldAt Fence.wide m Tryz.prog l #[us x.1] W1 (z31 N Ow J Jx pre x W1)):
 CallsIn Fence.wide 3 Tryz.prog 128 #[.agg #[A,B,R,.map (some mb),L],u,.func (.yield l) #[] #[]] W (z17 sh r J Jx):=by
 obtain ⟨pA,kA,pB,kB,rfl,rfl⟩:=c.sh.slice
 obtain ⟨pR,kR,rfl⟩:=c.rw_.slice
 obtain ⟨pu,ku,rfl⟩:=c.u.slice
 obtain ⟨W1,hW1⟩:∃ W1,W1=W.alloc (.cells #[.slice pA sh.length kA,.slice pB sh.length kB,.slice pR rows.length kR,.map (some mb),L] 90):=⟨_,rfl⟩
 have b1:Below W.heap.size W W1:=by rw [hW1];exact zav _ _
 have u1:W1.heap[W.heap.size]?=some (.cells #[.slice pA sh.length kA,.slice pB sh.length kB,.slice pR rows.length kR,.map (some mb),L] 90):=by rw [hW1];exact zaf _ _ rfl
 have k1:KpO N Ow W W1:=KpO.of_below b1 c.hN c.ow
 have q1:¬ Ow W1 W.heap.size:=fun x=>absurd (oN _ (c.ow _ _ _ (b1.mono c.hN) x)) (by omega)
 have inv0:Hid (z18 N Ow J W1 (fitU sh r rows 0) W1):=Lib.hid ⟨KpO.refl _,[],rfl,zrn hJ hJ0 b1⟩
 have HC:=Lib.hid (c.move k1)
 have HW:=Lib.hid hW1
 have HU:=Lib.hid (And.intro u1 q1)
 have HJ:=Lib.hid hJ
 have HY:=Lib.hid hY
 have HIN:=Lib.hid hin
 have c2:=zad u1 2 rfl
 clear hW1 b1 u1 k1 q1 hJ hJ0 hY hin c oN
 obtain ⟨nn,hnn⟩:∃ nn,nn=rows.length:=⟨_,rfl⟩
 have HN:=Lib.hid hnn
 clear hnn
 refine callsIn_of_wp Tryz.func128 rfl trivial ?_ rfl
 simp only [Tryz.ntmps128,List.size_toArray,List.length_cons,List.length_nil,Nat.reduceAdd,Nat.reduceSub,Array.replicate_succ,Array.replicate_zero,List.push_toArray,List.append_toArray,List.nil_append,List.cons_append]
 gi_upto_region 1 with fail
 rw [← HW.out,← HN.out]
 rw [← HN.out] at c2
 gi_wp2_with fail
 clear c2
 gi_loopw [11] (fun i wr=>∃ k:Nat,k≤nn∧i=.int .i64 k∧Hid (z18 N Ow J W1 (fitU sh r rows k) wr)) (fun i _=>nn - (intOf i).toNat)
 case atStart=>exact ⟨0,Nat.zero_le _,rfl,inv0⟩
 case round=>
  clear inv0
  obtain ⟨k,hk,rfl,HV⟩:=hrel
  by_cases hlt:(k:Int) < nn
  ·have hk1:k < rows.length:=by have:=HN.out;omega
   have hkp:=HV.out.1
   have cw:=HC.out.move hkp
   obtain ⟨gR,oR,cap,eR,hgR,hcell,hsu,hxl⟩:=cw.us k hk1
   injection eR with eR1 eR2 eR3
   subst eR1
   obtain ⟨pv,rl,kv,huk⟩:∃ pv rl kv,us k=.slice pv rl kv:=by
    obtain ⟨a,b,c⟩:=hsu.slice
    exact ⟨a,_,b,c⟩
   have HUK:=Lib.hid huk
   rw [huk] at hcell hsu
   have u1:=hkp.cells HU.out.1 HU.out.2
   have r01:wr.rangeAt W.heap.size 0 [.slice pA sh.length kA,.slice pB sh.length kB]:=zce u1 0 _ (fun j v hv=>by
    match j,hv with
    | 0,e | 1,e=>simpa using e
    | j+2,e=>simp at e)
   obtain ⟨q,hq⟩:∃ q,q=fitB sh r (rows[k]'hk1):=⟨_,rfl⟩
   have HF:Hid (Calls Tryz.prog 86 #[.agg #[.slice pA sh.length kA,.slice pB sh.length kB],.slice pu r.length ku,.slice pv rl kv] wr fun e w'=>e=.returned (.bool q)∧Below wr.heap.size wr w'):=Lib.hid (by rw [hq];exact fitAt sh _ _ _ _ r rows[k] wr (cw.sh.stays cw.old) (cw.u.stays cw.old) (hsu.stays cw.old) (fun p hp=>HIN.out _ (List.getElem_mem hk1) p hp) hsn hrn hxl)
   have HK1:=Lib.hid hk1
   have HCW:=Lib.hid cw
   clear hsu cw hkp u1 hgR hxl huk eR2 eR3
   have HJJ:=Lib.hid hq
   clear hq
   cases q with
   | false=>
     have hj:=HJJ.out.symm
     clear HJJ
     have HJJ:=Lib.hid hj
     clear hj
     gi_wp2_with (first
      |((with_reducible refine zql zf1 (.tmp 15) W.heap.size 0 _ _ r01 ?_ ?_ ?_ ?_);rfl;rfl;rfl)
      |(refine ⟨trivial,?_⟩;gi_at_call 86;(with_reducible refine (callsIn_wide.2 HF.out).mono ?_);rintro e w6 ⟨rfl,hb6⟩))
     have HV6:Hid (z18 N Ow J W1 (fitU sh r rows (k+1)) w6):=Lib.hid (by
      rw [zzk HK1.out HJJ.out]
      obtain ⟨hk0,L',hL',hJ'⟩:=HV.out
      exact ⟨ztd hk0 (KpO.of_below hb6 HCW.out.hN HCW.out.ow),L',hL',zrn HJ.out hJ' hb6⟩)
     clear hb6 r01 hcell
     refine ⟨fun f h=>(by cases h),?_⟩
     gi_wp2
     go_roundw
     case rel=>exact ⟨k+1,by omega,by go_num,HV6⟩
     case measure=>simp [intOf];omega
   | true=>
     have hj:=HJJ.out.symm
     clear HJJ
     have HJJ:=Lib.hid hj
     clear hj
     have HLEN:=Lib.hid (fitU_lt HK1.out HJJ.out)
     gi_wp2_with (first
      |((with_reducible refine zql zf1 (.tmp 15) W.heap.size 0 _ _ r01 ?_ ?_ ?_ ?_);rfl;rfl;rfl)
      |(refine ⟨trivial,?_⟩;gi_at_call 86;refine Hid.out ?_))
     refine Lib.hid ?_
     refine (callsIn_wide.2 HF.out).mono ?_
     rintro e w6 ⟨rfl,hb6⟩
     obtain ⟨hk0,L',hL',hJ'⟩:=HV.out
     obtain ⟨fn,tmps,assign,body,hy,hR⟩:=HY.out 2 L' ⟨k,HK1.out⟩ _ (zrn HJ.out hJ' hb6) (by have:=HLEN.out;rw [← hL',List.length_map] at this;exact this)
     try dsimp only at hy
     rw [HUK.out] at hy
     have HR:=Lib.hid hR
     have HK6:=Lib.hid (ztd hk0 (KpO.of_below hb6 HCW.out.hN HCW.out.ow))
     have HL':=Lib.hid hL'
     clear hb6 hR hL' hJ' hk0 r01 hcell
     gi_wp2_with fail
     refine HR.out.mono ?_
     rintro e W3 (⟨rfl,hJ3,hk3⟩ | ⟨rfl,hJx3⟩)
     ·have HV6:Hid (z18 N Ow J W1 (fitU sh r rows (k+1)) W3):=Lib.hid (by
       rw [zqm HK1.out HJJ.out]
       exact ⟨ztd HK6.out hk3,_,by rw [List.map_append,HL'.out];rfl,hJ3⟩)
      clear hJ3 hk3 hy
      gi_wp2
      go_roundw
      case rel=>exact ⟨k+1,by omega,by go_num,HV6⟩
      case measure=>simp [intOf];omega
     ·have HJ3:=Lib.hid hJx3
      have HPR:Hid ((L'++[(⟨k,HK1.out⟩:RowN rows)]).map Subtype.val <+: fitN sh r rows):=Lib.hid (by
       have:=zur (sh:=sh) (r:=r) (rows:=rows) (k+1)
       rw [zqm HK1.out HJJ.out] at this
       rw [List.map_append,HL'.out]
       exact this)
      clear hJx3 hy
      gi_wp2
      refine bodyPost_ret (results_none rfl _ _ _) rfl ?_
      exact ⟨⟨_,rfl⟩,.inr ⟨_,HPR.out,HJ3.out⟩⟩
  ·have hfin:∃ L':List (RowN rows),L'.map Subtype.val=fitN sh r rows∧J L' wr:=by
    rw [← z16 (k:=k) (by have:=HN.out;omega)]
    exact HV.out.2
   have HF:=Lib.hid hfin
   clear hfin HV
   gi_wp2
   go_end0
   exact ⟨⟨_,rfl⟩,.inl HF.out⟩
end YteclpnfckjfibaaGreatDoor
end Go.Proofs
