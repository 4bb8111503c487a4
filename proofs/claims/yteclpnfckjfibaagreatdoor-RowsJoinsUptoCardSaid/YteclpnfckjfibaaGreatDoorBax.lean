/- Texts of one kind, one behind the other: each says ahead of itself what it shows. -/
import Derived.Test.YteclpnfckjfibaaGreatDoorBav
import Derived.Test.YteclpnfckjfibaaGreatDoorBal
import Derived.Test.YteclpnfckjfibaaGreatDoorBam
import Derived.Test.YteclpnfckjfibaaGreatDoorBai
import Derived.Test.YteclpnfckjfibaaGreatDoorBar
import Derived.Test.YteclpnfckjfibaaGreatDoorBah
/- UN -/
namespace Go.Proofs.YteclpnfckjfibaaGreatDoor
open Go.RowKit
end Go.Proofs.YteclpnfckjfibaaGreatDoor

/- PJ -/
namespace Go.Proofs.YteclpnfckjfibaaGreatDoor
open Go.RowKit
def zdx (t:TabL) (vars:List ByteArray):TabL:=if (tabP t && zdl vars)=true then ⟨vars,zk9 t vars⟩ else ⟨[],[]⟩
set_option maxHeartbeats 6400000 in
set_option maxRecDepth 20000 in
theorem zwh (t:TabL) (vars:List ByteArray) (V R v:Value) (W:World) (hG:Gd W) (ht:tabE.rel W (Old W) [V,R] t) (hv:zaf za0 W (Old W) v vars) (hcap:capK v) (hvn:vars.length≤2097152):Calls Tryz.prog 24 #[.agg #[V,R],v] W (zb0 tabE (zdx t vars) W):=by
 have ht0:=ht
 obtain ⟨V',R',e,hvt,hrt,hcv,hcr,hlv,hlr⟩:=ht
 cases e
 obtain ⟨pV,kV,rfl⟩:=hvt.slice
 obtain ⟨qR,lR,rfl⟩:=hrt.slice
 obtain ⟨pU,kU,rfl⟩:=hv.slice
 obtain ⟨W1,hW1⟩:∃ W1,W1=(W.alloc (.cells #[.slice pV t.vars.length kV,.slice qR t.rows.length lR] 25)).alloc (.cells #[.slice none 0 0,.slice none 0 0] 25):=⟨_,rfl⟩
 have b1:Below W.heap.size W W1:=by rw [hW1];exact zc6 _ _ _
 have s1:W.heap.size+1 < W1.heap.size:=by rw [hW1];simp
 have u2:W1.heap[W.heap.size]?=some (.cells #[.slice pV t.vars.length kV,.slice qR t.rows.length lR] 25):=by rw [hW1];exact zaq _ (zah _ _ rfl)
 have u4:W1.heap[W.heap.size+1]?=some (.cells #[.slice none 0 0,.slice none 0 0] 25):=by rw [hW1];exact zah _ _ (by simp)
 have h1:=zcm t _ _ W1 (hG.below b1) (tabE.stays (zad b1) ht0)
 have h2:∀ W',Below W1.heap.size W1 W'→Calls Tryz.prog 57 #[.slice pU vars.length kU] W' fun e w'=>e=.returned (.bool (zdl vars))∧Below W'.heap.size W' w':=fun W' h=>by
  have h':=zab b1 h b1.size
  exact zo7 _ vars W' (hG.below h') (hv.stays (zad h')) hcap hvn
 have HOV:Hid (∀ W',Below W1.heap.size W1 W'→Calls Tryz.prog 71 #[.slice pU vars.length kU] W' (za8 za0 9 W' vars)):=Lib.hid fun W' h=>zk6 vars _ W' (hv.stays (zad (zab b1 h b1.size))) hvn
 have HPI:Hid (tabP t=true→∀ W',Below W1.heap.size W1 W'→Calls Tryz.prog 72 #[.agg #[.slice pV t.vars.length kV,.slice qR t.rows.length lR],.slice pU vars.length kU] W' (za8 rowE 43 W' (zk9 t vars))):=Lib.hid fun hp W' h=>by
  have h':=zab b1 h b1.size
  exact zxs t vars _ _ _ W' (tabE.stays (zad h') ht0) (zbm hp).1 (hv.stays (zad h')) hvn
 have hpn:(zk9 t vars).length=t.rows.length:=by unfold zk9;rw [List.length_map]
 unfold zdx
 generalize hpt:tabP t=pt at*
 generalize hpv:zdl vars=pv at*
 have H1:=Lib.hid h1
 have H2:=Lib.hid h2
 have HW:=Lib.hid hW1
 have HB1:=Lib.hid b1
 have HU:=Lib.hid (And.intro u2 u4)
 have HPN:=Lib.hid hpn
 clear h1 h2 ht0 hvt hrt hcv hcr hv hcap hG hW1 b1 hpt hpv hpn
 cases pt with
 | false=>
   simp only [Bool.false_and,Bool.false_eq_true,if_false]
   go_enter Tryz.func24,Tryz.ntmps24
   go_upto_region 1 with fail
   rw [← HW.out]
   go_upto_region 2 with (first
    |((with_reducible refine zag (.tmp 2) W.heap.size 25 25 [.slice pV t.vars.length kV,.slice qR t.rows.length lR] 2 _ u2 rfl Tryz.underlying25 rfl zae ?_ ?_ ?_ ?_);rfl;rfl;rfl)
    |(go_at_call 14;(with_reducible refine H1.out.mono ?_);rintro e w2 ⟨rfl,hb2⟩))
   have u42:=(hb2.block _ (zaa u4)).trans u4
   have B2:=Lib.hid (HB1.out.trans (hb2.mono HB1.out.size))
   clear hb2 u2 u4
   go_wp2_with (first
    |((with_reducible refine zas (.tmp 4) (.tmp 13) (W.heap.size+1) 25 25 _ [.slice none 0 0,.slice none 0 0] 2 u42 rfl ?_ ?_ ?_ ?_ zae rfl (zch rfl rfl) ?_);rfl;rfl;rfl;rfl;intro wX oX vX))
   exact bodyPost_ret (results_cell_row (p:=4) (ty:=25) Tryz.results24 _ _ (W.heap.size+1) 25 _ (0,0) _ rfl vX Tryz.underlying25 rfl zae) rfl ⟨_,[_,_],rfl,rfl,zf2 _ _,zam B2.out oX (by omega) B2.out.size⟩
 | true=>
   cases pv with
   | false=>
     simp only [Bool.and_false,Bool.false_eq_true,if_false]
     go_enter Tryz.func24,Tryz.ntmps24
     go_upto_region 1 with fail
     rw [← HW.out]
     go_upto_region 2 with (first
      |((with_reducible refine zag (.tmp 2) W.heap.size 25 25 [.slice pV t.vars.length kV,.slice qR t.rows.length lR] 2 _ u2 rfl Tryz.underlying25 rfl zae ?_ ?_ ?_ ?_);rfl;rfl;rfl)
      |(go_at_call 14;(with_reducible refine H1.out.mono ?_);rintro e w2 ⟨rfl,hb2⟩)
      |(go_at_call 57;(with_reducible refine (H2.out _ hb2).mono ?_);rintro e w3 ⟨rfl,hb3⟩))
     have b3:=zab hb2 hb3 hb2.size
     have u42:=(b3.block _ (zaa u4)).trans u4
     have B2:=Lib.hid (HB1.out.trans (b3.mono HB1.out.size))
     clear hb2 hb3 b3 u2 u4
     go_wp2_with (first
      |((with_reducible refine zas (.tmp 4) (.tmp 13) (W.heap.size+1) 25 25 _ [.slice none 0 0,.slice none 0 0] 2 u42 rfl ?_ ?_ ?_ ?_ zae rfl (zch rfl rfl) ?_);rfl;rfl;rfl;rfl;intro wX oX vX))
     exact bodyPost_ret (results_cell_row (p:=4) (ty:=25) Tryz.results24 _ _ (W.heap.size+1) 25 _ (0,0) _ rfl vX Tryz.underlying25 rfl zae) rfl ⟨_,[_,_],rfl,rfl,zf2 _ _,zam B2.out oX (by omega) B2.out.size⟩
   | true=>
     simp only [Bool.and_true,if_true]
     go_enter Tryz.func24,Tryz.ntmps24
     go_upto_region 1 with fail
     rw [← HW.out]
     go_upto_region 3 with (first
      |((with_reducible refine zag (.tmp 2) W.heap.size 25 25 [.slice pV t.vars.length kV,.slice qR t.rows.length lR] 2 _ u2 rfl Tryz.underlying25 rfl zae ?_ ?_ ?_ ?_);rfl;rfl;rfl)
      |(go_at_call 14;(with_reducible refine H1.out.mono ?_);rintro e w2 ⟨rfl,hb2⟩)
      |(go_at_call 57;(with_reducible refine (H2.out _ hb2).mono ?_);rintro e w3 ⟨rfl,hb3⟩))
     have b3:=zab hb2 hb3 hb2.size
     have u23:=(b3.block _ (zaa u2)).trans u2
     have B3:=Lib.hid b3
     clear hb2 hb3 b3 u2 u4
     refine wp_region_held_drew (S:=fun W'=>W'.heap[W.heap.size]?=some (.cells #[.slice pV t.vars.length kV,.slice qR t.rows.length lR] 25)) (by kernel_rfl) u23 (fun hh=>?_)
     have bq:=zab B3.out ((Below.refl _ _).drew (w:=w3)) B3.out.size
     have v4:w3.drew.heap[W.heap.size+1]?=some (.cells #[.slice none 0 0,.slice none 0 0] 25):=(bq.block _ (zaa HU.out.2)).trans HU.out.2
     clear u23
     generalize w3.drew=wD at*
     refine tg (i:=0) (.slice pU vars.length kU) rfl (hh) ?_
     refine tk (i:=2) (v:=.agg #[.slice pV t.vars.length kV,.slice qR t.rows.length lR]) rfl (yieldsIf_load_mid (by rfl) 25 (.tmp 2) rfl W.heap.size 0 rfl [.slice pV t.vars.length kV,.slice qR t.rows.length lR] _ (fun W h=>zb5 h 0 _ (fun j v hv=>by match j,hv with | 0,e | 1,e=>simpa using e | j+2,e=>simp at e)) Tryz.underlying25 rfl zae) (hh) ?_
     refine tg (i:=3) (.slice pU vars.length kU) rfl (hh) ?_
     refine tr 1 rfl (fun K hK=>?_)
     try rw [if_pos (by rfl)]
     go_simp
     refine (HOV.out _ bq).mono ?_
     rintro e0 w5 ⟨V5,xs5,rfl,ho5,hr5,hb5⟩
     obtain ⟨p5,k5,rfl⟩:=zar ho5
     have H5:=Lib.hid (And.intro (za8.slice ho5 hr5) (zcp ho5))
     have bqs:=bq.size
     replace hh:=(hb5.block _ (zaa hh)).trans hh
     replace v4:=(hb5.block _ (zaa v4)).trans v4
     replace bq:=zab bq hb5 bq.size
     have h5s:=hb5.size
     clear ho5 hr5 hb5
     refine hK.out _ _ (hh) (fun _=>?_)
     clear hK K
     try simp only [putS]
     refine tr 4 rfl (fun K hK=>?_)
     try rw [if_pos (by rfl)]
     go_simp
     refine (HPI.out (by simp) _ bq).mono ?_
     rintro e0 w6 ⟨V6,xs6,rfl,ho6,hr6,hb6⟩
     obtain ⟨p6,k6,rfl⟩:=zar ho6
     have H6:=Lib.hid (And.intro (za8.slice ho6 hr6) (And.intro (zcp ho6) hb6))
     replace hh:=(hb6.block _ (zaa hh)).trans hh
     replace v4:=(hb6.block _ (zaa v4)).trans v4
     have bq6:=bq.size
     replace bq:=zab bq hb6 bq.size
     have h6s:=hb6.size
     clear ho6 hr6 hb6
     refine hK.out _ _ (hh) (fun _=>?_)
     clear hK K
     try simp only [putS]
     refine tg (i:=5) (.agg #[.slice p5 vars.length k5,.slice p6 (zk9 t vars).length k6]) rfl (hh) ?_
     refine tr 6 rfl (fun K hK=>?_)
     try rw [if_pos (by rfl)]
     refine zcs (.tmp 4) (.tmp 19) (W.heap.size+1) 25 25 _ [.slice p5 vars.length k5,.slice p6 (zk9 t vars).length k6] 2 v4 rfl rfl rfl rfl zae rfl (zch rfl rfl) ?_
     intro w7 o7 v7
     replace hh:=(o7.block _ (zaa hh) (by omega)).trans hh
     refine hK.out _ _ (hh) (fun _=>?_)
     clear hK K
     try simp only [putS]
     refine wpAnyH_done (by kernel_rfl) ?_ _
     go_wp2_with fail
     have bw:=HB1.out.trans (bq.mono HB1.out.size)
     refine bodyPost_ret (results_cell_row (p:=4) (ty:=25) Tryz.results24 _ _ (W.heap.size+1) 25 _ (0,0) _ rfl v7 Tryz.underlying25 rfl zae) rfl ⟨_,[_,_],rfl,rfl,⟨_,_,rfl,H5.out.1.stays (fun g hg=>?_),H6.out.1.stays (fun g hg=>?_),H5.out.2,H6.out.2.1,hvn,by show (zk9 t vars).length≤2097152;rw [HPN.out];exact hlr⟩,zam bw o7 (by omega) bw.size⟩
     ·have a1:=hg.1
      have a2:=hg.2
      have a3:=o7.size
      exact ⟨⟨by omega,by omega⟩,(o7.block g (by omega) (by omega)).trans (H6.out.2.2.block g a2)⟩
     ·have a1:=hg.1
      have a2:=hg.2
      have a3:=o7.size
      exact ⟨⟨by omega,by omega⟩,o7.block g a2 (by omega)⟩
end Go.Proofs.YteclpnfckjfibaaGreatDoor

/- WD -/
namespace Go.Proofs.YteclpnfckjfibaaGreatDoor
open Go.RowKit
theorem zaf.rowAt70 {w:World} {P:Nat→Prop} {p:Option Addr} {n cap:Nat} {rows:List (List Val)} (h:zaf rowE w P (.slice p n cap) rows) (i:Nat) (hi:i < rows.length):∃ g off u,p=some ⟨g,off,none⟩∧n=rows.length∧w.cell? ⟨g,off+i,none⟩=some u∧zaf valE w P u rows[i]∧capK u∧rows[i].length≤2097152:=by
 obtain ⟨g,off,cap',c,e,_,hr,ha⟩:=h.at_ i hi
 injection e with e1 e2 e3
 obtain ⟨v,rfl,hs,hc,hl⟩:=hr
 refine ⟨g,off,v,e1,e2,?_,hs,hc,hl⟩
 have:=ha 0 _ rfl
 simpa [rowE] using this
end Go.Proofs.YteclpnfckjfibaaGreatDoor

/- DS -/
namespace Go.Proofs.YteclpnfckjfibaaGreatDoor
open Go.RowKit
end Go.Proofs.YteclpnfckjfibaaGreatDoor

/- DI -/
namespace Go.Proofs.YteclpnfckjfibaaGreatDoor
open Go.RowKit
end Go.Proofs.YteclpnfckjfibaaGreatDoor

/- SB -/
namespace Go.Proofs.YteclpnfckjfibaaGreatDoor
open Go.RowKit
structure BagI (W:World) (mb m:Nat) (c:List UInt8→Int) (wr:World):Prop where
 bel:Below W.heap.size W wr
 map:∃ n f,n≤m∧HMap wr Tryz.prog 9 mb n f∧∀ k:List UInt8,(f (.string k)).getD (.int .i64 0)=.int .i64 (c k)
theorem BagI.below {W wr w':World} {mb m:Nat} {c:List UInt8→Int} (h:BagI W mb m c wr) (b:Below wr.heap.size wr w'):BagI W mb m c w':=by
 obtain ⟨h1,n,f,h2,h3,h4⟩:=h
 exact ⟨h1.trans (b.mono h1.size),n,f,h2,h3.keep (b.block _ h3.lt),h4⟩
theorem BagI.put {W wr w':World} {mb m n:Nat} {c c':List UInt8→Int} {f:Lit→Option Value} {x:List UInt8} {v:Int} (hb:Below W.heap.size W wr) (hn:n≤m) (h4:∀ k:List UInt8,(f (.string k)).getD (.int .i64 0)=.int .i64 (c k)) (hmb:W.heap.size≤mb) (h:HMap w' Tryz.prog 9 mb (n+1) (updH f (.string x) (.int .i64 v))) (g:wr.grownBy w' (some mb))
 (hx:c' x=v) (ho:∀ k,k≠x→c' k=c k):BagI W mb (m+1) c' w':=by
 refine ⟨hb.grown g hb.size (fun i e=>by cases e;exact hmb),n+1,_,by omega,h,fun k=>?_⟩
 by_cases e:k=x
 ·subst e
  rw [zel,hx]
  rfl
 ·rw [zdo (fun q=>e (zhm _ _ q)),ho k e]
  exact h4 k
def cntA (a:List (List Val)) (j:Nat) (k:List UInt8):Int:=(((a.take j).map zao).count k:Nat)
theorem zg9 {a:List (List Val)} {j:Nat} {x:List Val} (hj:j < a.length) (hx:x=a.getD j []):cntA a (j+1) (zao x)=cntA a j (zao x)+1:=by
 have e:a[j]'hj=x:=by rw [hx,List.getD_eq_getElem?_getD,List.getElem?_eq_getElem hj];rfl
 unfold cntA
 rw [List.take_succ_eq_append_getElem hj,e,List.map_append,List.count_append]
 simp
theorem zhr {a:List (List Val)} {j:Nat} {x:List Val} (hj:j < a.length) (hx:x=a.getD j []) {k:List UInt8} (hk:k≠zao x):cntA a (j+1) k=cntA a j k:=by
 have e:a[j]'hj=x:=by rw [hx,List.getD_eq_getElem?_getD,List.getElem?_eq_getElem hj];rfl
 unfold cntA
 rw [List.take_succ_eq_append_getElem hj,e,List.map_append,List.count_append]
 have:List.count k [zao x]=0:=by rw [List.count_eq_zero];simpa using hk
 rw [List.map_cons,List.map_nil,this]
 simp
theorem znl (a:List (List Val)) (j:Nat) (k:List UInt8):0≤cntA a j k∧cntA a j k≤j:=by
 unfold cntA
 have:=List.count_le_length (a:=k) (l:=(a.take j).map zao)
 rw [List.length_map,List.length_take] at this
 omega
theorem bag_no {a b:List (List Val)} {j:Nat} (hj:j < b.length) {x:List Val} (hx:x=b.getD j []) (h:cntA a a.length (zao x) - cntA b j (zao x)=0):¬ (a.map zao).Perm (b.map zao):=fun p=>by
 have h1:=p.count_eq (zao x)
 have h2:=zg9 hj hx
 have h3:cntA b (j+1) (zao x)≤((b.map zao).count (zao x):Nat):=by
  unfold cntA
  have:((b.take (j+1)).map zao).count (zao x)≤(b.map zao).count (zao x):=((List.take_sublist (j+1) b).map zao).count_le _
  omega
 have h4:cntA a a.length (zao x)=((a.map zao).count (zao x):Nat):=by unfold cntA;rw [List.take_length]
 omega
theorem ze1 {α:Type} [BEq α] [LawfulBEq α]:(m l:List α)→m.length=l.length→(∀ k,m.count k≤l.count k)→l.Perm m
 | [],l,hl,_=>by
   obtain rfl:=List.length_eq_zero_iff.1 hl.symm
   exact List.Perm.refl _
 | x::m,l,hl,h=>by
   have hx:x∈l:=by
    have:=h x
    rw [List.count_cons_self] at this
    exact List.count_pos_iff.1 (by omega)
   have hp:=List.perm_cons_erase hx
   refine hp.trans (List.Perm.cons x (ze1 m (l.erase x) ?_ fun k=>?_))
   ·have:=hp.length_eq
    simp only [List.length_cons] at this hl
    omega
   ·have h1:=h k
    have h2:=hp.count_eq k
    rw [List.count_cons] at h1 h2
    omega
theorem bag_yes {a b:List (List Val)} (hl:a.length=b.length) (h:∀ k,cntA b b.length k≤cntA a a.length k):(a.map zao).Perm (b.map zao):=by
 refine ze1 _ _ (by rw [List.length_map,List.length_map,hl]) fun k=>?_
 have:=h k
 unfold cntA at this
 rw [List.take_length,List.take_length] at this
 omega
set_option maxHeartbeats 6400000 in
set_option maxRecDepth 20000 in
theorem zwi (a b:List (List Val)) (VA VB:Value) (W:World) (hG:Gd W) (ha:zaf rowE W (Old W) VA a) (hb:zaf rowE W (Old W) VB b) (hma:∀ r∈a,∀ v∈r,mayP v 0=true) (hmb:∀ r∈b,∀ v∈r,mayP v 0=true) (hwa:∀ r∈a,13*wAll r≤700000000) (hwb:∀ r∈b,13*wAll r≤700000000) (hna:a.length≤2097152) (hnb:b.length≤2097152):
 Calls Tryz.prog 88 #[VA,VB] W fun e w'=>e=.returned (.bool (decide ((a.map zao).Perm (b.map zao))))∧Below W.heap.size W w':=by
 obtain ⟨pA,kA,rfl⟩:=ha.slice
 obtain ⟨pB,kB,rfl⟩:=hb.slice
 have row:∀ (l:List (List Val)) (p:Option Addr) (n k:Nat),zaf rowE W (Old W) (.slice p n k) l→(∀ r∈l,∀ v∈r,mayP v 0=true)→(∀ r∈l,13*wAll r≤700000000)→∀ wr,Below W.heap.size W wr→∀ j,j < l.length→∃ g o pu nu ku x,p=some ⟨g,o,none⟩∧wr.cell? ⟨g,o+j,none⟩=some (.slice pu nu ku)∧x=l.getD j []∧(zao x).length≤900000000∧∀ w',Below wr.heap.size wr w'→Calls Tryz.prog 69 #[.slice pu nu ku] w' fun e w2=>e=.returned (.string (bsB (zao x)))∧Below w'.heap.size w' w2:=fun l p n k h hm hw wr hbl j hj=>by
  obtain ⟨g,o,u,e,_,hc,hs,_,hl⟩:=(h.stays (P':=Old W) (w':=wr) fun g hg=>⟨hg,hbl.block g hg⟩).rowAt70 j hj
  obtain ⟨pu,nu,ku,rfl⟩:∃ p n k,u=.slice p n k:=by
   obtain ⟨a,b,c⟩:=hs.slice
   exact ⟨a,_,b,c⟩
  have hx:l.getD j []=l[j]'hj:=by rw [List.getD_eq_getElem?_getD,List.getElem?_eq_getElem hj];rfl
  have hxm:l.getD j []∈l:=by rw [hx];exact List.getElem_mem hj
  have hw1:=hw _ hxm
  refine ⟨g,o,pu,nu,ku,l.getD j [],e,hc,rfl,by have:=zdm (l.getD j []);omega,fun w' hb'=>?_⟩
  have hbb:=zab hbl hb' hbl.size
  refine zhl _ _ w' (hG.below hbb) (zaf.stays (E:=valE) (P:=Old W) (w:=wr) (fun g hg=>⟨Nat.lt_of_lt_of_le hg hbb.size,hb'.block g (Nat.lt_of_lt_of_le hg hbl.size)⟩) (by rw [hx];exact hs)) (hm _ hxm) hw1 (by rw [hx];exact hl)
 have HRA:=Lib.hid (row a pA a.length kA ha hma hwa)
 have HRB:=Lib.hid (row b pB b.length kB hb hmb hwb)
 obtain ⟨ans,hans⟩:∃ ans,ans=decide ((a.map zao).Perm (b.map zao)):=⟨_,rfl⟩
 rw [← hans]
 have HANS:=Lib.hid hans
 have hmm:=@run_makeMap Tryz.prog
 clear row ha hb hma hmb hwa hwb hG hans
 have hm0:=HMap.made W Tryz.prog 9
 have bM:Below W.heap.size W (W.alloc (.map #[] 0)):=zaz _ _
 have st0:Hid (BagI W W.heap.size 0 (cntA a 0) (W.alloc (.map #[] 0))):=Lib.hid ⟨bM,0,_,Nat.le_refl _,hm0,fun k=>rfl⟩
 go_enter Tryz.func88,Tryz.ntmps88
 go_upto_region 2 with fail
 generalize W.alloc (.map #[] 0)=wM at*
 clear hmm hm0 bM
 go_wp2_with fail
 go_loopg [14] a.length (fun gg s14 wr=>∃ j:Nat,j+gg=a.length∧s14=.int .i64 j∧Hid (BagI W W.heap.size j (cntA a j) wr))
 case atStart=>exact ⟨0,by omega,rfl,st0⟩
 case round=>
  clear st0
  obtain ⟨j,hjg,rfl,HX⟩:=hrel
  by_cases hlt:(j:Int) < a.length
  ·have hj:j < a.length:=by omega
   obtain ⟨g,o,pu,nu,ku,x,rfl,ck,hx,hkl,hen⟩:=HRA.out wr HX.out.bel j hj
   have HEN:=Lib.hid hen
   have HXX:=Lib.hid hx
   have hkey:=keyB hkl
   have hlit:WideAt.IsKeyLit (.string (zao x)):=trivial
   clear hen hx hkl
   go_upto_region 5 with fail
   go_wp2_with (first
    |(go_at_call 69;(with_reducible refine (HEN.out _ (Below.refl _ _)).mono ?_);rintro e w3 ⟨rfl,hb3⟩;refine Hid.out ?_))
   refine Lib.hid ?_
   obtain ⟨hbl,n,f,hnl,hm,hf⟩:=HX.out.below hb3
   have hv:=hf (zao x)
   have hc:=znl a j (zao x)
   have HF:=Lib.hid (And.intro hbl (And.intro hnl hf))
   have hbnd:n < maxLen:=by unfold maxLen;omega
   clear hb3 hf hbl HX
   obtain ⟨cx,hcx⟩:∃ cx,cx=cntA a j (zao x):=⟨_,rfl⟩
   rw [← hcx] at hv hc
   have HCX:=Lib.hid hcx
   clear hcx
   go_wp2_with (first
    |((with_reducible refine zck ?_ (.tmp 18) (.tmp 20) 149 ?_ 9 3 (Go.Maps.string_keyed Tryz.underlying9) Tryz.underlying149 (Tryz.zeroValue3 _) W.heap.size n ?_ hm (.string (bsB (zao x))) (.string (zao x)) ?_ hkey hlit ?_);rfl;rfl;rfl;rfl;rw [hv])
    |((with_reducible refine zed ?_ (.tmp 18) (.tmp 20) (.tmp 22) 149 ?_ 9 3 (Go.Maps.string_keyed Tryz.underlying9) Tryz.underlying149 W.heap.size n ?_ hm hbnd (.string (bsB (zao x))) (.int .i64 (cx+1)) (.string (zao x)) ?_ ?_ hkey hlit ?_);rfl;rfl;rfl;rfl;rfl;intro w4 hm4 hg4))
   have HN:Hid (BagI W W.heap.size (j+1) (cntA a (j+1)) w4):=Lib.hid (BagI.put HF.out.1 HF.out.2.1 HF.out.2.2 (Nat.le_refl _) hm4 hg4 (by rw [zg9 hj HXX.out,← HCX.out]) fun k hk=>zhr hj HXX.out hk)
   clear hm4 hg4 hm ck
   go_wp2_with fail
   go_roundg (gk - 1)
   case measure=>omega
   case rel=>exact ⟨j+1,by omega,by go_num,HN⟩
  ·have e:j=a.length:=by omega
   have hX:=HX.out
   rw [e] at hX
   have HX2:=Lib.hid hX
   clear HX hX e
   go_wp2_with fail
   have st1:Hid (BagI W W.heap.size (a.length+0) (fun k=>cntA a a.length k - cntA b 0 k) wr∧∀ k,cntA b 0 k≤cntA a a.length k):=Lib.hid ⟨by
    have h0:(fun k=>cntA a a.length k - cntA b 0 k)=cntA a a.length:=by
     funext k
     show cntA a a.length k - cntA b 0 k=cntA a a.length k
     have:cntA b 0 k=0:=rfl
     omega
    rw [h0]
    exact HX2.out,fun k=>by
    have:cntA b 0 k=0:=rfl
    have:=(znl a a.length k).1
    omega⟩
   go_loopg [26] b.length (fun gg s26 wx=>∃ i:Nat,i+gg=b.length∧s26=.int .i64 i∧Hid (BagI W W.heap.size (a.length+i) (fun k=>cntA a a.length k - cntA b i k) wx∧∀ k,cntA b i k≤cntA a a.length k))
   case atStart=>exact ⟨0,by omega,rfl,st1⟩
   case round=>
    clear st1 HX2
    obtain ⟨i,hig,rfl,HY⟩:=hrel
    rename World=>wx
    by_cases hlt2:(i:Int) < b.length
    ·have hi:i < b.length:=by omega
     obtain ⟨g,o,pu,nu,ku,x,rfl,ck,hx,hkl,hen⟩:=HRB.out wx HY.out.1.bel i hi
     have HEN:=Lib.hid hen
     have HXX:=Lib.hid hx
     have hkey:=keyB hkl
     have hlit:WideAt.IsKeyLit (.string (zao x)):=trivial
     clear hen hx hkl
     go_wp2_with (first
      |(go_at_call 69;(with_reducible refine (HEN.out _ (Below.refl _ _)).mono ?_);rintro e w3 ⟨rfl,hb3⟩;refine Hid.out ?_))
     refine Lib.hid ?_
     obtain ⟨hbl,n,f,hnl,hm,hf⟩:=HY.out.1.below hb3
     have hv:=hf (zao x)
     have hle:=HY.out.2 (zao x)
     have hc:=znl a a.length (zao x)
     have hc2:=znl b i (zao x)
     have HF:=Lib.hid (And.intro hbl (And.intro hnl (And.intro hf HY.out.2)))
     have hbnd:n < maxLen:=by unfold maxLen;omega
     clear hb3 hf hbl HY
     obtain ⟨cx,hcx⟩:∃ cx,cx=cntA a a.length (zao x) - cntA b i (zao x):=⟨_,rfl⟩
     have hcx0:0≤cx:=by omega
     have hcx1:cx≤2097152:=by omega
     rw [← hcx] at hv
     have HCX:=Lib.hid hcx
     clear hcx hle hc hc2
     by_cases hz:cx=0
     ·subst hz
      have hno:ans=false:=by rw [HANS.out,decide_eq_false_iff_not];exact bag_no hi HXX.out HCX.out.symm
      have HNO:=Lib.hid hno
      clear hno
      go_wp2_with (first
       |((with_reducible refine zck ?_ (.tmp 32) (.tmp 33) 149 ?_ 9 3 (Go.Maps.string_keyed Tryz.underlying9) Tryz.underlying149 (Tryz.zeroValue3 _) W.heap.size n ?_ hm (.string (bsB (zao x))) (.string (zao x)) ?_ hkey hlit ?_);rfl;rfl;rfl;rfl;rw [hv]))
      go_ret
      exact ⟨by rw [HNO.out];rfl,HF.out.1⟩
     ·have hzb:(cx == 0)=false:=by rw [beq_eq_false_iff_ne];exact hz
      go_wp2_with (first
       |((with_reducible refine zck ?_ (.tmp 32) (.tmp 33) 149 ?_ 9 3 (Go.Maps.string_keyed Tryz.underlying9) Tryz.underlying149 (Tryz.zeroValue3 _) W.heap.size n ?_ hm (.string (bsB (zao x))) (.string (zao x)) ?_ hkey hlit ?_);rfl;rfl;rfl;rfl;rw [hv])
       |((with_reducible refine zck ?_ (.tmp 36) (.tmp 37) 149 ?_ 9 3 (Go.Maps.string_keyed Tryz.underlying9) Tryz.underlying149 (Tryz.zeroValue3 _) W.heap.size n ?_ hm (.string (bsB (zao x))) (.string (zao x)) ?_ hkey hlit ?_);rfl;rfl;rfl;rfl;rw [hv])
       |((with_reducible refine zed ?_ (.tmp 36) (.tmp 37) (.tmp 39) 149 ?_ 9 3 (Go.Maps.string_keyed Tryz.underlying9) Tryz.underlying149 W.heap.size n ?_ hm hbnd (.string (bsB (zao x))) (.int .i64 (cx - 1)) (.string (zao x)) ?_ ?_ hkey hlit ?_);rfl;rfl;rfl;rfl;rfl;intro w4 hm4 hg4))
      have HN:Hid (BagI W W.heap.size (a.length+(i+1)) (fun k=>cntA a a.length k - cntA b (i+1) k) w4∧∀ k,cntA b (i+1) k≤cntA a a.length k):=Lib.hid ⟨BagI.put HF.out.1 HF.out.2.1 HF.out.2.2.1 (Nat.le_refl _) hm4 hg4 (by
       show cntA a a.length (zao x) - cntA b (i+1) (zao x)=cx - 1
       rw [zg9 hi HXX.out,HCX.out]
       omega) fun k hk=>by
       show cntA a a.length k - cntA b (i+1) k=cntA a a.length k - cntA b i k
       rw [zhr hi HXX.out hk],fun k=>by
       by_cases e:k=zao x
       ·subst e
        rw [zg9 hi HXX.out]
        have:=HCX.out
        omega
       ·rw [zhr hi HXX.out e]
        exact HF.out.2.2.2 k⟩
      clear hm4 hg4 hm ck
      go_wp2_with fail
      go_roundg (gk - 1)
      case measure=>omega
      case rel=>exact ⟨i+1,by omega,by go_num,HN⟩
    ·have e:i=b.length:=by omega
     have hY:=HY.out
     rw [e] at hY
     have HY2:=Lib.hid hY
     have HB2:=Lib.hid HY.out.1.bel
     clear HY hY e
     by_cases hl:a.length=b.length
     ·have hyes:ans=true:=by rw [HANS.out,decide_eq_true_iff];exact bag_yes hl HY2.out.2
      have HYES:=Lib.hid hyes
      clear hyes
      go_wp2_with fail
      go_ret
      exact ⟨by rw [HYES.out];first | rfl | simp [hl],HB2.out⟩
     ·have hno:ans=false:=by
       rw [HANS.out,decide_eq_false_iff_not]
       intro p
       have:=p.length_eq
       rw [List.length_map,List.length_map] at this
       exact hl this
      have HNO:=Lib.hid hno
      have q:((a.length:Int) == b.length)=false:=by rw [beq_eq_false_iff_ne];omega
      clear hno
      go_wp2_with fail
      go_ret
      exact ⟨by rw [HNO.out];first | rfl | simp [q],HB2.out⟩
end Go.Proofs.YteclpnfckjfibaaGreatDoor

/- EQ -/
namespace Go.Proofs.YteclpnfckjfibaaGreatDoor
open Go.RowKit
set_option maxHeartbeats 3200000 in
set_option maxRecDepth 20000 in
theorem equal87 (l1 l2:List ByteArray) (V1 V2:Value) (w:World) (h1:zaf za0 w (Old w) V1 l1) (h2:zaf za0 w (Old w) V2 l2) (hn1:l1.length≤2097152) (hn2:l2.length≤2097152):Calls Tryz.prog 87 #[V1,V2] w fun e w'=>e=.returned (.bool (decide (l1=l2)))∧Below w.heap.size w w':=by
 obtain ⟨p1,k1,rfl⟩:=h1.slice
 obtain ⟨p2,k2,rfl⟩:=h2.slice
 obtain ⟨n,hn⟩:∃ n,n=l1.length:=⟨_,rfl⟩
 obtain ⟨m,hm⟩:∃ m,m=l2.length:=⟨_,rfl⟩
 obtain ⟨ans,hans⟩:∃ ans,ans=decide (l1=l2):=⟨_,rfl⟩
 rw [← hans,← hn,← hm]
 rw [← hn] at hn1
 rw [← hm] at hn2
 have HN:=Lib.hid hn
 have HM:=Lib.hid hm
 have HA:=Lib.hid hans
 have H1:=Lib.hid h1
 have H2:=Lib.hid h2
 clear h1 h2 hn hm hans
 by_cases hnm:n=m
 ·subst hnm
  go_enter Tryz.func87,Tryz.ntmps87
  go_wp2_with fail
  go_loopg [13] n (fun gg s13 wr=>∃ j:Nat,j+gg=n∧s13=.int .i64 j∧Hid (Below w.heap.size w wr)∧Hid (∀ i (a:i < l1.length) (b:i < l2.length),i < j→l1[i]=l2[i]))
  case atStart=>exact ⟨0,by omega,rfl,Lib.hid (Below.refl _ _),Lib.hid (fun i _ _ h=>absurd h (by omega))⟩
  case round=>
   obtain ⟨j,hjg,rfl,HB,HE⟩:=hrel
   by_cases hlt:(j:Int) < n
   ·have hj1:j < l1.length:=by have:=HN.out;omega
    have hj2:j < l2.length:=by have:=HM.out;omega
    obtain ⟨g1,o1,c1,d1,e1,_,hr1,ha1⟩:=(H1.out.stays (zad HB.out)).at_ j hj1
    obtain ⟨g2,o2,c2,d2,e2,_,hr2,ha2⟩:=(H2.out.stays (zad HB.out)).at_ j hj2
    injection e1 with e11 e12 e13
    injection e2 with e21 e22 e23
    subst e11
    subst e21
    obtain ⟨x,hx⟩:∃ x,x=l1[j]'hj1:=⟨_,rfl⟩
    obtain ⟨y,hy⟩:∃ y,y=l2[j]'hj2:=⟨_,rfl⟩
    have cx:wr.cell? ⟨g1,o1+j,none⟩=some (.string x):=by
     obtain ⟨rfl,_⟩:=hr1
     have:=ha1 0 _ rfl
     rw [hx]
     simpa [za0] using this
    have cy:wr.cell? ⟨g2,o2+j,none⟩=some (.string y):=by
     obtain ⟨rfl,_⟩:=hr2
     have:=ha2 0 _ rfl
     rw [hy]
     simpa [za0] using this
    have HXY:=Lib.hid (And.intro hx hy)
    clear hr1 hr2 ha1 ha2 hx hy e12 e13 e22 e23
    go_upto_region 6 with fail
    by_cases q:x=y
    ·subst q
     refine wp_region_held_drew (S:=fun W'=>W'.cell? ⟨g1,o1+j,none⟩=some (.string x)∧W'.cell? ⟨g2,o2+j,none⟩=some (.string x)) (by kernel_rfl) ⟨cx,cy⟩ (fun hh=>?_)
     have bq:Below w.heap.size w wr.drew:=HB.out.drew
     have HB2:=Lib.hid bq
     clear cx cy bq
     generalize wr.drew=wD at*
     refine tg (i:=0) (.slice (some ⟨g1,o1,none⟩) n k1) rfl (hh) ?_
     refine tg (i:=1) (.int .i64 (j:Int)) rfl (hh) ?_
     refine tg (i:=4) (.slice (some ⟨g2,o2,none⟩) n k2) rfl (hh) ?_
     refine tg (i:=5) (.int .i64 (j:Int)) rfl (hh) ?_
     refine tg (i:=2) (.pointer (some ⟨g1,o1+j,none⟩)) rfl (hh) ?_
     refine tg (i:=6) (.pointer (some ⟨g2,o2+j,none⟩)) rfl (hh) ?_
     refine tk (i:=3) (v:=.string x) rfl (Or.inl ⟨by rfl,fun W' h=>by have c0:=h.1;go_simp⟩) (hh) ?_
     refine tk (i:=7) (v:=.string x) rfl (Or.inl ⟨by rfl,fun W' h=>by have c0:=h.2;go_simp⟩) (hh) ?_
     refine tg (i:=8) (.bool false) rfl (hh) ?_
     refine wpAnyH_done (by kernel_rfl) ?_ _
     have HE2:Hid (∀ i (a:i < l1.length) (b:i < l2.length),i < j+1→l1[i]=l2[i]):=Lib.hid fun i a b h=>by
      by_cases e:i=j
      ·subst e;exact HXY.out.1.symm.trans HXY.out.2
      ·exact HE.out i a b (by omega)
     clear hh
     go_wp2_with fail
     go_roundg (gk - 1)
     case measure=>omega
     case rel=>exact ⟨j+1,by omega,by go_num,HB2,HE2⟩
    ·have q2:(x.toList == y.toList)=false:=zqk q
     refine wp_region_held_drew (S:=fun W'=>W'.cell? ⟨g1,o1+j,none⟩=some (.string x)∧W'.cell? ⟨g2,o2+j,none⟩=some (.string y)) (by kernel_rfl) ⟨cx,cy⟩ (fun hh=>?_)
     have bq:Below w.heap.size w wr.drew:=HB.out.drew
     have HB2:=Lib.hid bq
     have HQ:=Lib.hid q
     clear cx cy bq q
     generalize wr.drew=wD at*
     refine tg (i:=0) (.slice (some ⟨g1,o1,none⟩) n k1) rfl (hh) ?_
     refine tg (i:=1) (.int .i64 (j:Int)) rfl (hh) ?_
     refine tg (i:=4) (.slice (some ⟨g2,o2,none⟩) n k2) rfl (hh) ?_
     refine tg (i:=5) (.int .i64 (j:Int)) rfl (hh) ?_
     refine tg (i:=2) (.pointer (some ⟨g1,o1+j,none⟩)) rfl (hh) ?_
     refine tg (i:=6) (.pointer (some ⟨g2,o2+j,none⟩)) rfl (hh) ?_
     refine tk (i:=3) (v:=.string x) rfl (Or.inl ⟨by rfl,fun W' h=>by have c0:=h.1;go_simp⟩) (hh) ?_
     refine tk (i:=7) (v:=.string y) rfl (Or.inl ⟨by rfl,fun W' h=>by have c0:=h.2;go_simp⟩) (hh) ?_
     refine tg (i:=8) (.bool true) rfl (hh) ?_
     refine wpAnyH_done (by kernel_rfl) ?_ _
     have hne:ans=false:=by
      rw [HA.out,decide_eq_false_iff_not]
      intro e
      refine HQ.out ?_
      rw [HXY.out.1,HXY.out.2]
      subst e
      rfl
     have HAN:=Lib.hid hne
     clear hne hh
     go_wp2_with fail
     go_ret
     exact ⟨by rw [HAN.out];rfl,HB2.out⟩
   ·have hall:ans=true:=by
     rw [HA.out,decide_eq_true_iff]
     refine List.ext_getElem (by rw [← HN.out,← HM.out]) fun i a b=>HE.out i a b (by have:=HN.out;omega)
    have HAN:=Lib.hid hall
    clear hall
    go_wp2_with fail
    go_ret
    exact ⟨by rw [HAN.out];rfl,HB.out⟩
 ·have hne:ans=false:=by
   rw [HA.out,decide_eq_false_iff_not]
   intro e
   exact hnm (by rw [HN.out,HM.out,e])
  have HAN:=Lib.hid hne
  have q:((n:Int) == m)=false:=by rw [beq_eq_false_iff_ne];omega
  clear hne
  go_enter Tryz.func87,Tryz.ntmps87
  go_wp2_with fail
  go_ret
  exact ⟨by rw [HAN.out];rfl,Below.refl _ _⟩
end Go.Proofs.YteclpnfckjfibaaGreatDoor

/- SM -/
namespace Go.Proofs.YteclpnfckjfibaaGreatDoor
open Go.RowKit
def zh9 (a b:TabL):Bool:=((tabP a && tabP b) && decide (a.vars=b.vars)) && decide ((a.rows.map zao).Perm (b.rows.map zao))
set_option maxHeartbeats 6400000 in
set_option maxRecDepth 20000 in
theorem zln (a b:TabL) (VA RA VB RB:Value) (W:World) (hG:Gd W) (ha:tabE.rel W (Old W) [VA,RA] a) (hb:tabE.rel W (Old W) [VB,RB] b) (hwa:∀ r∈a.rows,13*wAll r≤700000000) (hwb:∀ r∈b.rows,13*wAll r≤700000000):Calls Tryz.prog 35 #[.agg #[VA,RA],.agg #[VB,RB]] W fun e w'=>e=.returned (.bool (zh9 a b))∧Below W.heap.size W w':=by
 have ha0:=ha
 have hb0:=hb
 obtain ⟨V',R',e,hva,hra,hcva,hcra,hlva,hlra⟩:=ha
 cases e
 obtain ⟨V',R',e,hvb,hrb,hcvb,hcrb,hlvb,hlrb⟩:=hb
 cases e
 obtain ⟨pA,kA,rfl⟩:=hva.slice
 obtain ⟨qA,lA,rfl⟩:=hra.slice
 obtain ⟨pB,kB,rfl⟩:=hvb.slice
 obtain ⟨qB,lB,rfl⟩:=hrb.slice
 obtain ⟨W1,hW1⟩:∃ W1,W1=(W.alloc (.cells #[.slice pA a.vars.length kA,.slice qA a.rows.length lA] 25)).alloc (.cells #[.slice pB b.vars.length kB,.slice qB b.rows.length lB] 25):=⟨_,rfl⟩
 have b1:Below W.heap.size W W1:=by rw [hW1];exact zc6 _ _ _
 have u2:W1.heap[W.heap.size]?=some (.cells #[.slice pA a.vars.length kA,.slice qA a.rows.length lA] 25):=by rw [hW1];exact zaq _ (zah _ _ rfl)
 have u3:W1.heap[W.heap.size+1]?=some (.cells #[.slice pB b.vars.length kB,.slice qB b.rows.length lB] 25):=by rw [hW1];exact zah _ _ (by simp)
 have H1:Hid (Calls Tryz.prog 14 #[.agg #[.slice pA a.vars.length kA,.slice qA a.rows.length lA]] W1 fun e w'=>e=.returned (.bool (tabP a))∧Below W1.heap.size W1 w'):=Lib.hid (zcm a _ _ W1 (hG.below b1) (tabE.stays (zad b1) ha0))
 have H2:Hid (∀ W',Below W1.heap.size W1 W'→Calls Tryz.prog 14 #[.agg #[.slice pB b.vars.length kB,.slice qB b.rows.length lB]] W' fun e w'=>e=.returned (.bool (tabP b))∧Below W'.heap.size W' w'):=Lib.hid fun W' h=>zcm b _ _ W' (hG.below (zab b1 h b1.size)) (tabE.stays (zad (zab b1 h b1.size)) hb0)
 have H3:Hid (∀ W',Below W1.heap.size W1 W'→Calls Tryz.prog 87 #[.slice pA a.vars.length kA,.slice pB b.vars.length kB] W' fun e w'=>e=.returned (.bool (decide (a.vars=b.vars)))∧Below W'.heap.size W' w'):=Lib.hid fun W' h=>by
  have h':=zab b1 h b1.size
  exact equal87 a.vars b.vars _ _ W' (hva.stays (zad h')) (hvb.stays (zad h')) hlva hlvb
 have H4:Hid (tabP a=true→tabP b=true→∀ W',Below W1.heap.size W1 W'→Calls Tryz.prog 88 #[.slice qA a.rows.length lA,.slice qB b.rows.length lB] W' fun e w'=>e=.returned (.bool (decide ((a.rows.map zao).Perm (b.rows.map zao))))∧Below W'.heap.size W' w'):=Lib.hid fun h1 h2 W' h=>by
  have h':=zab b1 h b1.size
  exact zwi a.rows b.rows _ _ W' (hG.below h') (hra.stays (zad h')) (hrb.stays (zad h')) (zbm h1).2 (zbm h2).2 hwa hwb hlra hlrb
 have HW:=Lib.hid hW1
 have HB1:=Lib.hid b1
 have HU:=Lib.hid (And.intro u2 u3)
 unfold zh9
 generalize hpa:tabP a=pa at*
 generalize hpb:tabP b=pb at*
 generalize hdv:decide (a.vars=b.vars)=dv at*
 generalize hdp:decide ((a.rows.map zao).Perm (b.rows.map zao))=dp at*
 clear ha0 hb0 hva hra hcva hcra hvb hrb hcvb hcrb hG hW1 b1 u3 hpa hpb hdv hdp hwa hwb
 cases pa with
 | false=>
   try simp only [Bool.false_and,Bool.and_false,Bool.true_and,Bool.and_true]
   go_enter Tryz.func35,Tryz.ntmps35
   go_upto_region 1 with fail
   rw [← HW.out]
   go_wp2_with (first
    |((with_reducible refine zag (.tmp 2) W.heap.size 25 25 [.slice pA a.vars.length kA,.slice qA a.rows.length lA] 2 _ u2 rfl Tryz.underlying25 rfl zae ?_ ?_ ?_ ?_);rfl;rfl;rfl)
    |((with_reducible refine zal ?_ (.tmp 3) (W.heap.size+1) 25 25 [.slice pB b.vars.length kB,.slice qB b.rows.length lB] 2 _ u3b rfl Tryz.underlying25 rfl zae ?_ ?_ ?_);rfl;rfl;rfl)
    |(go_at_call 14;(with_reducible refine H1.out.mono ?_);rintro e w2 ⟨rfl,hb2⟩;have u3b:=(hb2.block _ (zaa HU.out.2)).trans HU.out.2)
    |(go_at_call 14;(with_reducible refine (H2.out _ hb2).mono ?_);rintro e w3 ⟨rfl,hb3⟩;have b3:=zab hb2 hb3 hb2.size;have c2:=zac ((b3.block _ (zaa HU.out.1)).trans HU.out.1) 0 rfl;have c3:=zac ((b3.block _ (zaa HU.out.2)).trans HU.out.2) 0 rfl)
    |(go_at_call 87;(with_reducible refine (H3.out _ b3).mono ?_);rintro e w4 ⟨rfl,hb4⟩;have b4:=zab b3 hb4 b3.size;have d2:=zac ((b4.block _ (zaa HU.out.1)).trans HU.out.1) 1 rfl;have d3:=zac ((b4.block _ (zaa HU.out.2)).trans HU.out.2) 1 rfl)
    |(go_at_call 88;(with_reducible refine (H4.out (by simp) (by simp) _ b4).mono ?_);rintro e w5 ⟨rfl,hb5⟩))
   go_ret
   exact ⟨by first | rfl | simp,HB1.out.trans ((hb2).mono HB1.out.size)⟩
 | true=>
   cases pb with
   | false=>
     try simp only [Bool.false_and,Bool.and_false,Bool.true_and,Bool.and_true]
     go_enter Tryz.func35,Tryz.ntmps35
     go_upto_region 1 with fail
     rw [← HW.out]
     go_wp2_with (first
      |((with_reducible refine zag (.tmp 2) W.heap.size 25 25 [.slice pA a.vars.length kA,.slice qA a.rows.length lA] 2 _ u2 rfl Tryz.underlying25 rfl zae ?_ ?_ ?_ ?_);rfl;rfl;rfl)
      |((with_reducible refine zal ?_ (.tmp 3) (W.heap.size+1) 25 25 [.slice pB b.vars.length kB,.slice qB b.rows.length lB] 2 _ u3b rfl Tryz.underlying25 rfl zae ?_ ?_ ?_);rfl;rfl;rfl)
      |(go_at_call 14;(with_reducible refine H1.out.mono ?_);rintro e w2 ⟨rfl,hb2⟩;have u3b:=(hb2.block _ (zaa HU.out.2)).trans HU.out.2)
      |(go_at_call 14;(with_reducible refine (H2.out _ hb2).mono ?_);rintro e w3 ⟨rfl,hb3⟩;have b3:=zab hb2 hb3 hb2.size;have c2:=zac ((b3.block _ (zaa HU.out.1)).trans HU.out.1) 0 rfl;have c3:=zac ((b3.block _ (zaa HU.out.2)).trans HU.out.2) 0 rfl)
      |(go_at_call 87;(with_reducible refine (H3.out _ b3).mono ?_);rintro e w4 ⟨rfl,hb4⟩;have b4:=zab b3 hb4 b3.size;have d2:=zac ((b4.block _ (zaa HU.out.1)).trans HU.out.1) 1 rfl;have d3:=zac ((b4.block _ (zaa HU.out.2)).trans HU.out.2) 1 rfl)
      |(go_at_call 88;(with_reducible refine (H4.out (by simp) (by simp) _ b4).mono ?_);rintro e w5 ⟨rfl,hb5⟩))
     go_ret
     exact ⟨by first | rfl | simp,HB1.out.trans ((zab hb2 hb3 hb2.size).mono HB1.out.size)⟩
   | true=>
     cases dv with
     | false=>
       try simp only [Bool.false_and,Bool.and_false,Bool.true_and,Bool.and_true]
       go_enter Tryz.func35,Tryz.ntmps35
       go_upto_region 1 with fail
       rw [← HW.out]
       go_wp2_with (first
        |((with_reducible refine zag (.tmp 2) W.heap.size 25 25 [.slice pA a.vars.length kA,.slice qA a.rows.length lA] 2 _ u2 rfl Tryz.underlying25 rfl zae ?_ ?_ ?_ ?_);rfl;rfl;rfl)
        |((with_reducible refine zal ?_ (.tmp 3) (W.heap.size+1) 25 25 [.slice pB b.vars.length kB,.slice qB b.rows.length lB] 2 _ u3b rfl Tryz.underlying25 rfl zae ?_ ?_ ?_);rfl;rfl;rfl)
        |(go_at_call 14;(with_reducible refine H1.out.mono ?_);rintro e w2 ⟨rfl,hb2⟩;have u3b:=(hb2.block _ (zaa HU.out.2)).trans HU.out.2)
        |(go_at_call 14;(with_reducible refine (H2.out _ hb2).mono ?_);rintro e w3 ⟨rfl,hb3⟩;have b3:=zab hb2 hb3 hb2.size;have c2:=zac ((b3.block _ (zaa HU.out.1)).trans HU.out.1) 0 rfl;have c3:=zac ((b3.block _ (zaa HU.out.2)).trans HU.out.2) 0 rfl)
        |(go_at_call 87;(with_reducible refine (H3.out _ b3).mono ?_);rintro e w4 ⟨rfl,hb4⟩;have b4:=zab b3 hb4 b3.size;have d2:=zac ((b4.block _ (zaa HU.out.1)).trans HU.out.1) 1 rfl;have d3:=zac ((b4.block _ (zaa HU.out.2)).trans HU.out.2) 1 rfl)
        |(go_at_call 88;(with_reducible refine (H4.out (by simp) (by simp) _ b4).mono ?_);rintro e w5 ⟨rfl,hb5⟩))
       go_ret
       exact ⟨by first | rfl | simp,HB1.out.trans ((zab b3 hb4 b3.size).mono HB1.out.size)⟩
     | true=>
       cases dp with
       | false=>
         try simp only [Bool.false_and,Bool.and_false,Bool.true_and,Bool.and_true]
         go_enter Tryz.func35,Tryz.ntmps35
         go_upto_region 1 with fail
         rw [← HW.out]
         go_wp2_with (first
          |((with_reducible refine zag (.tmp 2) W.heap.size 25 25 [.slice pA a.vars.length kA,.slice qA a.rows.length lA] 2 _ u2 rfl Tryz.underlying25 rfl zae ?_ ?_ ?_ ?_);rfl;rfl;rfl)
          |((with_reducible refine zal ?_ (.tmp 3) (W.heap.size+1) 25 25 [.slice pB b.vars.length kB,.slice qB b.rows.length lB] 2 _ u3b rfl Tryz.underlying25 rfl zae ?_ ?_ ?_);rfl;rfl;rfl)
          |(go_at_call 14;(with_reducible refine H1.out.mono ?_);rintro e w2 ⟨rfl,hb2⟩;have u3b:=(hb2.block _ (zaa HU.out.2)).trans HU.out.2)
          |(go_at_call 14;(with_reducible refine (H2.out _ hb2).mono ?_);rintro e w3 ⟨rfl,hb3⟩;have b3:=zab hb2 hb3 hb2.size;have c2:=zac ((b3.block _ (zaa HU.out.1)).trans HU.out.1) 0 rfl;have c3:=zac ((b3.block _ (zaa HU.out.2)).trans HU.out.2) 0 rfl)
          |(go_at_call 87;(with_reducible refine (H3.out _ b3).mono ?_);rintro e w4 ⟨rfl,hb4⟩;have b4:=zab b3 hb4 b3.size;have d2:=zac ((b4.block _ (zaa HU.out.1)).trans HU.out.1) 1 rfl;have d3:=zac ((b4.block _ (zaa HU.out.2)).trans HU.out.2) 1 rfl)
          |(go_at_call 88;(with_reducible refine (H4.out (by simp) (by simp) _ b4).mono ?_);rintro e w5 ⟨rfl,hb5⟩))
         go_ret
         exact ⟨by first | rfl | simp,HB1.out.trans ((zab b4 hb5 b4.size).mono HB1.out.size)⟩
       | true=>
         try simp only [Bool.false_and,Bool.and_false,Bool.true_and,Bool.and_true]
         go_enter Tryz.func35,Tryz.ntmps35
         go_upto_region 1 with fail
         rw [← HW.out]
         go_wp2_with (first
          |((with_reducible refine zag (.tmp 2) W.heap.size 25 25 [.slice pA a.vars.length kA,.slice qA a.rows.length lA] 2 _ u2 rfl Tryz.underlying25 rfl zae ?_ ?_ ?_ ?_);rfl;rfl;rfl)
          |((with_reducible refine zal ?_ (.tmp 3) (W.heap.size+1) 25 25 [.slice pB b.vars.length kB,.slice qB b.rows.length lB] 2 _ u3b rfl Tryz.underlying25 rfl zae ?_ ?_ ?_);rfl;rfl;rfl)
          |(go_at_call 14;(with_reducible refine H1.out.mono ?_);rintro e w2 ⟨rfl,hb2⟩;have u3b:=(hb2.block _ (zaa HU.out.2)).trans HU.out.2)
          |(go_at_call 14;(with_reducible refine (H2.out _ hb2).mono ?_);rintro e w3 ⟨rfl,hb3⟩;have b3:=zab hb2 hb3 hb2.size;have c2:=zac ((b3.block _ (zaa HU.out.1)).trans HU.out.1) 0 rfl;have c3:=zac ((b3.block _ (zaa HU.out.2)).trans HU.out.2) 0 rfl)
          |(go_at_call 87;(with_reducible refine (H3.out _ b3).mono ?_);rintro e w4 ⟨rfl,hb4⟩;have b4:=zab b3 hb4 b3.size;have d2:=zac ((b4.block _ (zaa HU.out.1)).trans HU.out.1) 1 rfl;have d3:=zac ((b4.block _ (zaa HU.out.2)).trans HU.out.2) 1 rfl)
          |(go_at_call 88;(with_reducible refine (H4.out (by simp) (by simp) _ b4).mono ?_);rintro e w5 ⟨rfl,hb5⟩))
         go_ret
         exact ⟨by first | rfl | simp,HB1.out.trans ((zab b4 hb5 b4.size).mono HB1.out.size)⟩
end Go.Proofs.YteclpnfckjfibaaGreatDoor
