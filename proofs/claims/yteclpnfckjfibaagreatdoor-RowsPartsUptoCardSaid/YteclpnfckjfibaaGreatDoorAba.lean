/- Texts of one kind, one behind the other: each says ahead of itself what it shows. -/
import Derived.Test.YteclpnfckjfibaaGreatDoorAaz
import Derived.Test.YteclpnfckjfibaaGreatDoorAar
import Derived.Test.YteclpnfckjfibaaGreatDoorAae
import Derived.Test.YteclpnfckjfibaaGreatDoorRows
import Derived.ProofKit
import Derived.OpenShut
import Derived.Carry
/- MQ -/
namespace Go.Proofs.YteclpnfckjfibaaGreatDoor
open Go.RowKit
theorem tabP_is (t:TabL):tabP t=(decide (t.vars.length≤64) && zen t.vars && t.rows.all (rowP t.vars.length)):=by
 unfold tabP zdg zen
 rw [← Bool.and_assoc]
theorem ztz {n:Nat} {l:List (List Val)} {j:Nat} (hj:j < l.length) (h:rowP n l[j]=false):l.all (rowP n)=false:=by
 rw [List.all_eq_false]
 exact ⟨_,List.getElem_mem hj,by rw [h];simp⟩
theorem zwu {n:Nat} {l:List (List Val)} {j:Nat} (hj:j < l.length) (h:(l.take j).all (rowP n)=true) (h2:rowP n l[j]=true):(l.take (j+1)).all (rowP n)=true:=by
 rw [List.take_succ_eq_append_getElem hj,List.all_append,h]
 simp [h2]
theorem zt0 {r:List Val} {j:Nat} (hj:j < r.length) (h:(r.take j).all (mayP · 0)=true) (h2:mayP r[j] 0=true):(r.take (j+1)).all (mayP · 0)=true:=by
 rw [List.take_succ_eq_append_getElem hj,List.all_append,h]
 simp [h2]
theorem zt1 {n:Nat} {r:List Val} (h:¬ r.length=n):rowP n r=false:=by
 unfold rowP
 rw [decide_eq_false h]
 rfl
theorem zrj {n:Nat} {r:List Val} {j:Nat} (hj:j < r.length) (h:mayP r[j] 0=false):rowP n r=false:=by
 unfold rowP
 rw [Bool.and_eq_false_iff]
 right
 rw [List.all_eq_false]
 exact ⟨_,List.getElem_mem hj,by rw [h];simp⟩
theorem row_yes {n:Nat} {r:List Val} (h:r.length=n) (h2:(r.take n).all (mayP · 0)=true):rowP n r=true:=by
 unfold rowP
 rw [decide_eq_true h,← h,List.take_length] at*
 rw [h2]
 rfl
theorem refMayV (v:Val) (c:List Value) (P:Nat→Prop) (w:World) (h:zdn w P c v):Calls Tryz.prog 53 #[.agg c.toArray] w fun e w'=>e=.returned (.bool (mayP v 0))∧Below w.heap.size w w':=by
 obtain ⟨k,b,n,t,x,q⟩:=v
 obtain ⟨L,rfl,hf,hq⟩:=h
 obtain ⟨p,cap,rfl⟩:=zb1 (zbf.held q hq)
 exact refMay k b n t x q p cap w hf (zbf.held q hq)
set_option maxHeartbeats 6400000 in
set_option maxRecDepth 20000 in
theorem zp9 (tb:TabL) (V R:Value) (W0:World) (h:tabE.rel W0 (Old W0) [V,R] tb):Calls Tryz.prog 13 #[.agg #[V,R]] W0 fun e w'=>e=.returned (.bool (tabP tb))∧Below W0.heap.size W0 w':=by
 obtain ⟨V',R',e,hv,hr,hcv,hcr,hlv,hlr⟩:=h
 cases e
 obtain ⟨pV,kV,rfl⟩:=hv.slice
 obtain ⟨pR,kR,rfl⟩:=hr.slice
 obtain ⟨W1,hW1⟩:∃ W1,W1=W0.alloc (.cells #[.slice pV tb.vars.length kV,.slice pR tb.rows.length kR] 25):=⟨_,rfl⟩
 have bw:Below W0.heap.size W0 W1:=by rw [hW1];exact zau _ _
 obtain ⟨g0,hg0⟩:∃ g0,g0=W0.heap.size:=⟨_,rfl⟩
 have u1:W1.heap[g0]?=some (.cells #[.slice pV tb.vars.length kV,.slice pR tb.rows.length kR] 25):=by rw [hW1,hg0];exact zag _ _ rfl
 have HU:=Lib.hid (zri _ tb.vars W1 (hv.stays (zad bw)) hcv hlv)
 have HR:=Lib.hid (hr.stays (zad bw))
 obtain ⟨n,hn⟩:∃ n,n=tb.vars.length:=⟨_,rfl⟩
 obtain ⟨m,hm⟩:∃ m,m=tb.rows.length:=⟨_,rfl⟩
 obtain ⟨r,hrr⟩:∃ r,r=tabP tb:=⟨_,rfl⟩
 have hP:=tabP_is tb
 rw [← hrr] at hP ⊢
 rw [← hn] at hlv u1 hW1 HU hP ⊢
 rw [← hm] at hlr u1 hW1 HR ⊢
 have HP:=Lib.hid hP
 have HM:=Lib.hid hm
 have HW:=Lib.hid hW1
 have HG0:=Lib.hid hg0
 have HBW:=Lib.hid bw
 have c0:W1.cell? ⟨g0,0,none⟩=some (.slice pV n kV):=zac u1 0 rfl
 clear hv hr hcv hcr hrr hP hm hW1 bw hn hg0
 obtain ⟨s1,hs1⟩:∃ s1,s1=zen tb.vars:=⟨_,rfl⟩
 rw [← hs1] at HU HP
 clear hs1
 by_cases hle:n≤64
 ·have h64:decide ((64:Int) < n)=false:=decide_eq_false (by omega)
  have HP2:Hid (r=(s1 && tb.rows.all (rowP n))):=Lib.hid (by rw [HP.out,decide_eq_true hle];rfl)
  clear HP
  cases s1 with
  | false=>
    obtain rfl:r=false:=by rw [HP2.out];rfl
    go_enter Tryz.func13,Tryz.ntmps13
    go_upto_region 1 with fail
    rw [← HW.out]
    rw [← HG0.out]
    go_wp2_with (first |(go_at_call 17;(with_reducible refine HU.out.mono ?_);rintro e w1 ⟨rfl,hb1⟩))
    go_ret
    exact ⟨rfl,zab HBW.out hb1 HBW.out.size⟩
  | true=>
    go_enter Tryz.func13,Tryz.ntmps13
    go_upto_region 1 with fail
    rw [← HW.out]
    rw [← HG0.out]
    go_upto_region 3 with (first |(go_at_call 17;(with_reducible refine HU.out.mono ?_);rintro e w1 ⟨rfl,hb1⟩))
    have HU1:=Lib.hid ((hb1.block _ (zaa u1)).trans u1)
    have HR1:=Lib.hid (HR.out.stays (zad hb1))
    have HB1:=Lib.hid (zab HBW.out hb1 HBW.out.size)
    clear HR HU HW u1 c0 hb1
    go_wp2_with fail
    go_loopg [3] m (fun gg s3 wr=>∃ j:Nat,j+gg=m∧s3=.int .i64 j∧Hid ((tb.rows.take j).all (rowP n)=true)∧Hid (Below w1.heap.size w1 wr))
    case atStart=>exact ⟨0,by omega,rfl,Lib.hid (by simp),Lib.hid (Below.refl _ _)⟩
    case round=>
     obtain ⟨j,hjg,rfl,HA,HB⟩:=hrel
     have HUr:=Lib.hid ((HB.out.block _ (zaa HU1.out)).trans HU1.out)
     have c0:wr.cell? ⟨g0,0,none⟩=some (.slice pV n kV):=zac HUr.out 0 rfl
     have c1:wr.cell? ⟨g0,1,none⟩=some (.slice pR m kR):=zac HUr.out 1 rfl
     by_cases hj:(j:Int) < m
     ·have hj1:j < tb.rows.length:=by have:=HM.out;omega
      obtain ⟨g,off,cap',c,e0,hg,hrl,hra⟩:=(HR1.out.stays (zad HB.out)).at_ j hj1
      injection e0 with e1 e2 e3
      subst e1 e3
      obtain ⟨row,hrow⟩:∃ row,row=tb.rows[j]:=⟨_,rfl⟩
      rw [← hrow] at hrl
      obtain ⟨u,rfl,hu,hcu,hlu⟩:=hrl
      obtain ⟨pu,ku,rfl⟩:=hu.slice
      have cj:wr.cell? ⟨g,off+j,none⟩=some (.slice pu row.length ku):=by
       have:=hra 0 _ rfl
       simpa [rowE] using this
      have HUU:=Lib.hid hu
      have HN:Hid (rowP n row=false→r=false):=Lib.hid fun h=>by
       rw [HP2.out,Bool.true_and]
       exact ztz hj1 (by rw [← hrow];exact h)
      have HY:Hid (rowP n row=true→(tb.rows.take (j+1)).all (rowP n)=true):=Lib.hid fun h=>zwu hj1 HA.out (by rw [← hrow];exact h)
      clear hra hg hu hcu hrow e2 HA
      obtain ⟨lr,hlr2⟩:∃ lr,lr=row.length:=⟨_,rfl⟩
      rw [← hlr2] at cj hlu HUU
      have HLR:=Lib.hid hlr2
      clear hlr2
      have hB:=HB.out
      clear HB
      by_cases heq:lr=n
      ·subst heq
       go_upto_region 6 with fail
       have hUr:=HUr.out
       refine wp_region_held_drew (S:=fun W'=>W'.heap[g0]?=some (.cells #[.slice pV lr kV,.slice (some ⟨g,off,none⟩) m kR] 25)∧W'.cell? ⟨g,off+j,none⟩=some (.slice pu lr ku)) (by kernel_rfl) ⟨hUr,cj⟩ (fun hh=>?_)
       replace cj:wr.drew.cell? ⟨g,off+j,none⟩=_:=cj
       have hUr:wr.drew.heap[g0]?=some (.cells #[.slice pV lr kV,.slice (some ⟨g,off,none⟩) m kR] 25)∧wr.drew.cell? ⟨g,off+j,none⟩=some (.slice pu lr ku):=hh
       clear hh
       replace hB:=hB.drew
       have bq:Below wr.heap.size wr wr.drew:=(Below.refl _ _).drew
       clear c0 c1
       generalize wr.drew=wD at*
       refine tg (i:=0) (.pointer (some ⟨g0,1,none⟩)) rfl (hUr) ?_
       refine tg (i:=2) (.int .i64 (j:Int)) rfl (hUr) ?_
       refine tg (i:=6) (.pointer (some ⟨g0,0,none⟩)) rfl (hUr) ?_
       refine tk (i:=1) (v:=.slice (some ⟨g,off,none⟩) m kR) rfl (Or.inl ⟨by rfl,fun W' h=>by have c1:=zac h.1 1 rfl;go_simp⟩) (hUr) ?_
       refine tk (i:=7) (v:=.slice pV lr kV) rfl (Or.inl ⟨by rfl,fun W' h=>by have c0:=zac h.1 0 rfl;go_simp⟩) (hUr) ?_
       refine tg (i:=3) (.pointer (some ⟨g,off+j,none⟩)) rfl (hUr) ?_
       refine tg (i:=8) (.int .i64 (lr:Int)) rfl (hUr) ?_
       refine tk (i:=4) (v:=.slice pu lr ku) rfl (Or.inl ⟨by rfl,fun W' h=>by have cj:=h.2;go_simp⟩) (hUr) ?_
       refine tg (i:=5) (.int .i64 (lr:Int)) rfl (hUr) ?_
       refine tg (i:=9) (.bool false) rfl (hUr) ?_
       refine wpAnyH_done (by kernel_rfl) ?_ _
       have HUD:=Lib.hid hUr
       have HBD:=Lib.hid hB
       have HUU2:=Lib.hid (HUU.out.stays (zad bq))
       clear cj hB bq hUr HUU HUr
       go_wp2_with fail
       go_loopg [4] lr (fun gg s4 wx=>∃ k:Nat,k+gg=lr∧s4=.int .i64 k∧Hid ((row.take k).all (mayP · 0)=true)∧Hid (Below wD.heap.size wD wx))
       case atStart=>exact ⟨0,by omega,rfl,Lib.hid (by simp),Lib.hid (Below.refl _ _)⟩
       case round=>
        obtain ⟨k,hkg,rfl,HA,HB⟩:=hrel
        have c0:wr.cell? ⟨g0,0,none⟩=some (.slice pV lr kV):=zac ((HB.out.block _ (zaa HUD.out.1)).trans HUD.out.1) 0 rfl
        have c1:wr.cell? ⟨g0,1,none⟩=some (.slice (some ⟨g,off,none⟩) m kR):=zac ((HB.out.block _ (zaa HUD.out.1)).trans HUD.out.1) 1 rfl
        have cj:wr.cell? ⟨g,off+j,none⟩=some (.slice pu lr ku):=zbj HUD.out.2 HB.out
        by_cases hk:(k:Int) < lr
        ·have hk1:k < row.length:=by have:=HLR.out;omega
         obtain ⟨g2,off2,cap2,c,e0,hg2,hrl2,hra2⟩:=(HUU2.out.stays (zad HB.out)).at_ k hk1
         injection e0 with e1 e2 e3
         subst e1 e3
         obtain ⟨v,hv⟩:∃ v,v=row[k]:=⟨_,rfl⟩
         rw [← hv] at hrl2
         have HMV:=Lib.hid (refMayV v c _ wr hrl2)
         have hrange:wr.rangeAt g2 (off2+k*6) c:=hra2
         have hc6:c.length=6:=valE.len hrl2
         obtain ⟨s,hs⟩:∃ s,s=mayP v 0:=⟨_,rfl⟩
         rw [← hs] at HMV
         have HN2:Hid (s=false→r=false):=Lib.hid fun h=>HN.out (zrj hk1 (by rw [← hv,← hs];exact h))
         have HY2:Hid (s=true→(row.take (k+1)).all (mayP · 0)=true):=Lib.hid fun h=>zt0 hk1 HA.out (by rw [← hv,← hs];exact h)
         clear hra2 hg2 hrl2 e2 HA hv hs
         cases s with
         | false=>
           obtain rfl:r=false:=HN2.out rfl
           go_wp2_with (first
            |((with_reducible refine za3 (.tmp 45) g2 (off2+k*6) 48 c 6 _ hrange hc6 Tryz.underlying48 rfl zam ?_ ?_ ?_ ?_);rfl;rfl;rfl)
            |(go_at_call 53;(with_reducible refine HMV.out.mono ?_);rintro e w5 ⟨rfl,hb5⟩))
           go_ret
           have b2:=HBD.out.trans (HB.out.mono HBD.out.size)
           exact ⟨rfl,HB1.out.trans ((b2.trans (hb5.mono b2.size)).mono HB1.out.size)⟩
         | true=>
           have HY3:=Lib.hid (HY2.out rfl)
           go_wp2_with (first
            |((with_reducible refine za3 (.tmp 45) g2 (off2+k*6) 48 c 6 _ hrange hc6 Tryz.underlying48 rfl zam ?_ ?_ ?_ ?_);rfl;rfl;rfl)
            |(go_at_call 53;(with_reducible refine HMV.out.mono ?_);rintro e w5 ⟨rfl,hb5⟩))
           go_roundg (gk - 1)
           case measure=>omega
           case rel=>exact ⟨k+1,by omega,by go_num,HY3,Lib.hid (HB.out.trans (hb5.mono HB.out.size))⟩
        ·have HRY:=Lib.hid (HY.out (row_yes HLR.out.symm (by
          have h:=HA.out
          rw [show k=lr by omega] at h
          exact h)))
         clear HN HY
         go_wp2_with fail
         go_roundg (m - j - 1)
         case measure=>omega
         case rel=>exact ⟨j+1,by omega,by go_num,HRY,Lib.hid (HBD.out.trans (HB.out.mono HBD.out.size))⟩
      ·obtain rfl:r=false:=HN.out (zt1 (by rw [← HLR.out];exact heq))
       have hne:((lr:Int) == n)=false:=by rw [beq_eq_false_iff_ne];omega
       have hne2:((lr:Int) != n)=true:=congrArg not hne
       go_upto_region 6 with fail
       have hUr:=HUr.out
       refine wp_region_held_drew (S:=fun W'=>W'.heap[g0]?=some (.cells #[.slice pV n kV,.slice (some ⟨g,off,none⟩) m kR] 25)∧W'.cell? ⟨g,off+j,none⟩=some (.slice pu lr ku)) (by kernel_rfl) ⟨hUr,cj⟩ (fun hh=>?_)
       replace cj:wr.drew.cell? ⟨g,off+j,none⟩=_:=cj
       have hUr:wr.drew.heap[g0]?=some (.cells #[.slice pV n kV,.slice (some ⟨g,off,none⟩) m kR] 25)∧wr.drew.cell? ⟨g,off+j,none⟩=some (.slice pu lr ku):=hh
       clear hh
       replace hB:=hB.drew
       have bq:Below wr.heap.size wr wr.drew:=(Below.refl _ _).drew
       clear c0 c1
       generalize wr.drew=wD at*
       refine tg (i:=0) (.pointer (some ⟨g0,1,none⟩)) rfl (hUr) ?_
       refine tg (i:=2) (.int .i64 (j:Int)) rfl (hUr) ?_
       refine tg (i:=6) (.pointer (some ⟨g0,0,none⟩)) rfl (hUr) ?_
       refine tk (i:=1) (v:=.slice (some ⟨g,off,none⟩) m kR) rfl (Or.inl ⟨by rfl,fun W' h=>by have c1:=zac h.1 1 rfl;go_simp⟩) (hUr) ?_
       refine tk (i:=7) (v:=.slice pV n kV) rfl (Or.inl ⟨by rfl,fun W' h=>by have c0:=zac h.1 0 rfl;go_simp⟩) (hUr) ?_
       refine tg (i:=3) (.pointer (some ⟨g,off+j,none⟩)) rfl (hUr) ?_
       refine tg (i:=8) (.int .i64 (n:Int)) rfl (hUr) ?_
       refine tk (i:=4) (v:=.slice pu lr ku) rfl (Or.inl ⟨by rfl,fun W' h=>by have cj:=h.2;go_simp⟩) (hUr) ?_
       refine tg (i:=5) (.int .i64 (lr:Int)) rfl (hUr) ?_
       refine tg (i:=9) (.bool true) rfl (hUr) ?_
       refine wpAnyH_done (by kernel_rfl) ?_ _
       go_wp2_with fail
       go_ret
       exact ⟨rfl,HB1.out.trans (hB.mono HB1.out.size)⟩
     ·have HZ:Hid (r=true):=Lib.hid (by
       have h:=HA.out
       rw [List.take_of_length_le (by have:=HM.out;omega)] at h
       rw [HP2.out,h]
       rfl)
      go_wp2_with fail
      go_ret
      exact ⟨by rw [HZ.out];rfl,HB1.out.trans (HB.out.mono HB1.out.size)⟩
 ·have h64:decide ((64:Int) < n)=true:=decide_eq_true (by omega)
  obtain rfl:r=false:=by rw [HP.out,decide_eq_false hle];rfl
  go_enter Tryz.func13,Tryz.ntmps13
  go_upto_region 1 with fail
  rw [← HW.out]
  rw [← HG0.out]
  go_wp2_with fail
  go_ret
  exact ⟨rfl,HBW.out⟩
end Go.Proofs.YteclpnfckjfibaaGreatDoor

/- LQ -/
namespace Go.Proofs.YteclpnfckjfibaaGreatDoor
open Go.RowKit
theorem zbe {w:World} {g:Nat} {c:Array Value} {t:TypeId} (h:w.heap[g]?=some (.cells c t)) (pre post:List Value) {xs:List Value} (e:c=(pre++xs++post).toArray):w.rangeAt g pre.length xs:=
 zb7 h _ _ fun j u hu=>by
  subst e
  rw [List.getElem?_toArray,List.append_assoc,List.getElem?_append_right (by omega),show pre.length+j - pre.length=j by omega,List.getElem?_append_left (List.getElem?_eq_some_iff.1 hu).1]
  exact hu
structure zrk (W:World) (a b:TabL) (VA RA VB RB:Value):Prop where
 ha:tabE.rel W (Old W) [VA,RA] a
 hb:tabE.rel W (Old W) [VB,RB] b
 wa:∀ r∈a.rows,wAll r≤2097152
 wb:∀ r∈b.rows,wAll r≤2097152
theorem zrk.below {W W':World} {a b:TabL} {VA RA VB RB:Value} (h:zrk W a b VA RA VB RB) (k:Below W.heap.size W W'):zrk W' a b VA RA VB RB:=⟨tabE.stays (zad k) h.ha,tabE.stays (zad k) h.hb,h.wa,h.wb⟩
set_option maxHeartbeats 6400000 in
set_option maxRecDepth 20000 in
theorem lightAt (a b:TabL) (VA RA VB RB VV NN:Value) (lang:Int) (W:World) (h:zrk W a b VA RA VB RB):Calls Tryz.prog 10 #[.agg #[VA,RA,VB,RB,VV,.int .i64 lang,NN]] W fun e w'=>e=.returned (.bool (zho a b))∧Below W.heap.size W w':=by
 obtain ⟨V',R',e,hva,hra,hcva,hcra,hlva,hlra⟩:=h.ha
 cases e
 obtain ⟨V',R',e,hvb,hrb,hcvb,hcrb,hlvb,hlrb⟩:=h.hb
 cases e
 obtain ⟨pA,kA,rfl⟩:=hva.slice
 obtain ⟨qA,lA,rfl⟩:=hra.slice
 obtain ⟨pB,kB,rfl⟩:=hvb.slice
 obtain ⟨qB,lB,rfl⟩:=hrb.slice
 obtain ⟨W1,hW1⟩:∃ W1,W1=W.alloc (.cells #[.slice pA a.vars.length kA,.slice qA a.rows.length lA,.slice pB b.vars.length kB,.slice qB b.rows.length lB,VV,.int .i64 lang,NN] 28):=⟨_,rfl⟩
 have b1:Below W.heap.size W W1:=by rw [hW1];exact zau _ _
 obtain ⟨g0,hg0⟩:∃ g0,g0=W.heap.size:=⟨_,rfl⟩
 have u1:W1.heap[g0]?=some (.cells #[.slice pA a.vars.length kA,.slice qA a.rows.length lA,.slice pB b.vars.length kB,.slice qB b.rows.length lB,VV,.int .i64 lang,NN] 28):=by rw [hW1,hg0];exact zag _ _ rfl
 have HA:=Lib.hid (zm2 _ a.rows W1 (hra.stays (zad b1)) hlra)
 have HB:Hid (∀ w',Below W1.heap.size W1 w'→Calls Tryz.prog 48 #[.slice qB b.rows.length lB] w' fun e w2=>e=.returned (.int .i64 (zbv b.rows 0))∧Below w'.heap.size w' w2):=Lib.hid fun w' k=>zm2 _ b.rows w' (hrb.stays (zad (zab b1 k b1.size))) hlrb
 have HW:=Lib.hid hW1
 have HG0:=Lib.hid hg0
 have HB1:=Lib.hid b1
 obtain ⟨r,hr⟩:∃ r,r=zho a b:=⟨_,rfl⟩
 have hr2:=hr
 unfold zho at hr2
 rw [← hr]
 have HR:=Lib.hid hr2
 have a1:=zac u1 1 rfl
 clear hva hra hvb hrb hcva hcra hcvb hcrb hW1 b1 hr hr2 h hg0
 generalize zbv a.rows 0=z1 at*
 generalize zbv b.rows 0=z2 at*
 generalize a.rows.length=n1 at*
 generalize b.rows.length=n2 at*
 generalize a.vars.length=m1 at*
 generalize b.vars.length=m2 at*
 by_cases h0:z1≤3000
 ·by_cases h1:z2≤3000
  ·by_cases h2:n1≤60
   ·by_cases h3:n2≤60
    ·by_cases h4:m1≤100
     ·by_cases h5:m2≤100
      ·obtain rfl:r=true:=by rw [HR.out,decide_eq_true (h0:(z1≤3000)),decide_eq_true (h1:(z2≤3000)),decide_eq_true (h2:(n1≤60)),decide_eq_true (h3:(n2≤60)),decide_eq_true (h4:(m1≤100)),decide_eq_true (h5:(m2≤100))];rfl
       clear HR
       have x0:decide (z1≤3000)=true:=decide_eq_true (by omega)
       have x1:decide (z2≤3000)=true:=decide_eq_true (by omega)
       have x2:decide ((n1:Int)≤60)=true:=decide_eq_true (by omega)
       have x3:decide ((n2:Int)≤60)=true:=decide_eq_true (by omega)
       have x4:decide ((m1:Int)≤100)=true:=decide_eq_true (by omega)
       have x5:decide ((m2:Int)≤100)=true:=decide_eq_true (by omega)
       go_enter Tryz.func10,Tryz.ntmps10
       go_upto_region 1 with fail
       rw [← HW.out,← HG0.out]
       go_wp2_with (first
        |(go_at_call 48;(with_reducible refine HA.out.mono ?_);rintro e w1 ⟨rfl,hb1⟩;have v1:=(hb1.block _ (zaa u1)).trans u1;have a3:=zac v1 3 rfl)
        |(go_at_call 48;(with_reducible refine (HB.out _ hb1).mono ?_);rintro e w2 ⟨rfl,hb2⟩;have v2:=(hb2.block _ (zaa v1)).trans v1;have d1:=zac v2 1 rfl;have d3:=zac v2 3 rfl;have d0:=zac v2 0 rfl;have d2:=zac v2 2 rfl))
       go_ret
       exact ⟨rfl,HB1.out.trans ((hb1.trans (hb2.mono hb1.size)).mono HB1.out.size)⟩
      ·obtain rfl:r=false:=by rw [HR.out,decide_eq_true (h0:(z1≤3000)),decide_eq_true (h1:(z2≤3000)),decide_eq_true (h2:(n1≤60)),decide_eq_true (h3:(n2≤60)),decide_eq_true (h4:(m1≤100)),decide_eq_false (h5:¬ (m2≤100))];rfl
       clear HR
       have x0:decide (z1≤3000)=true:=decide_eq_true (by omega)
       have x1:decide (z2≤3000)=true:=decide_eq_true (by omega)
       have x2:decide ((n1:Int)≤60)=true:=decide_eq_true (by omega)
       have x3:decide ((n2:Int)≤60)=true:=decide_eq_true (by omega)
       have x4:decide ((m1:Int)≤100)=true:=decide_eq_true (by omega)
       have x5:decide ((m2:Int)≤100)=false:=decide_eq_false (by omega)
       go_enter Tryz.func10,Tryz.ntmps10
       go_upto_region 1 with fail
       rw [← HW.out,← HG0.out]
       go_wp2_with (first
        |(go_at_call 48;(with_reducible refine HA.out.mono ?_);rintro e w1 ⟨rfl,hb1⟩;have v1:=(hb1.block _ (zaa u1)).trans u1;have a3:=zac v1 3 rfl)
        |(go_at_call 48;(with_reducible refine (HB.out _ hb1).mono ?_);rintro e w2 ⟨rfl,hb2⟩;have v2:=(hb2.block _ (zaa v1)).trans v1;have d1:=zac v2 1 rfl;have d3:=zac v2 3 rfl;have d0:=zac v2 0 rfl;have d2:=zac v2 2 rfl))
       go_ret
       exact ⟨rfl,HB1.out.trans ((hb1.trans (hb2.mono hb1.size)).mono HB1.out.size)⟩
     ·obtain rfl:r=false:=by rw [HR.out,decide_eq_true (h0:(z1≤3000)),decide_eq_true (h1:(z2≤3000)),decide_eq_true (h2:(n1≤60)),decide_eq_true (h3:(n2≤60)),decide_eq_false (h4:¬ (m1≤100))];rfl
      clear HR
      have x0:decide (z1≤3000)=true:=decide_eq_true (by omega)
      have x1:decide (z2≤3000)=true:=decide_eq_true (by omega)
      have x2:decide ((n1:Int)≤60)=true:=decide_eq_true (by omega)
      have x3:decide ((n2:Int)≤60)=true:=decide_eq_true (by omega)
      have x4:decide ((m1:Int)≤100)=false:=decide_eq_false (by omega)
      go_enter Tryz.func10,Tryz.ntmps10
      go_upto_region 1 with fail
      rw [← HW.out,← HG0.out]
      go_wp2_with (first
       |(go_at_call 48;(with_reducible refine HA.out.mono ?_);rintro e w1 ⟨rfl,hb1⟩;have v1:=(hb1.block _ (zaa u1)).trans u1;have a3:=zac v1 3 rfl)
       |(go_at_call 48;(with_reducible refine (HB.out _ hb1).mono ?_);rintro e w2 ⟨rfl,hb2⟩;have v2:=(hb2.block _ (zaa v1)).trans v1;have d1:=zac v2 1 rfl;have d3:=zac v2 3 rfl;have d0:=zac v2 0 rfl;have d2:=zac v2 2 rfl))
      go_ret
      exact ⟨rfl,HB1.out.trans ((hb1.trans (hb2.mono hb1.size)).mono HB1.out.size)⟩
    ·obtain rfl:r=false:=by rw [HR.out,decide_eq_true (h0:(z1≤3000)),decide_eq_true (h1:(z2≤3000)),decide_eq_true (h2:(n1≤60)),decide_eq_false (h3:¬ (n2≤60))];rfl
     clear HR
     have x0:decide (z1≤3000)=true:=decide_eq_true (by omega)
     have x1:decide (z2≤3000)=true:=decide_eq_true (by omega)
     have x2:decide ((n1:Int)≤60)=true:=decide_eq_true (by omega)
     have x3:decide ((n2:Int)≤60)=false:=decide_eq_false (by omega)
     go_enter Tryz.func10,Tryz.ntmps10
     go_upto_region 1 with fail
     rw [← HW.out,← HG0.out]
     go_wp2_with (first
      |(go_at_call 48;(with_reducible refine HA.out.mono ?_);rintro e w1 ⟨rfl,hb1⟩;have v1:=(hb1.block _ (zaa u1)).trans u1;have a3:=zac v1 3 rfl)
      |(go_at_call 48;(with_reducible refine (HB.out _ hb1).mono ?_);rintro e w2 ⟨rfl,hb2⟩;have v2:=(hb2.block _ (zaa v1)).trans v1;have d1:=zac v2 1 rfl;have d3:=zac v2 3 rfl;have d0:=zac v2 0 rfl;have d2:=zac v2 2 rfl))
     go_ret
     exact ⟨rfl,HB1.out.trans ((hb1.trans (hb2.mono hb1.size)).mono HB1.out.size)⟩
   ·obtain rfl:r=false:=by rw [HR.out,decide_eq_true (h0:(z1≤3000)),decide_eq_true (h1:(z2≤3000)),decide_eq_false (h2:¬ (n1≤60))];rfl
    clear HR
    have x0:decide (z1≤3000)=true:=decide_eq_true (by omega)
    have x1:decide (z2≤3000)=true:=decide_eq_true (by omega)
    have x2:decide ((n1:Int)≤60)=false:=decide_eq_false (by omega)
    go_enter Tryz.func10,Tryz.ntmps10
    go_upto_region 1 with fail
    rw [← HW.out,← HG0.out]
    go_wp2_with (first
     |(go_at_call 48;(with_reducible refine HA.out.mono ?_);rintro e w1 ⟨rfl,hb1⟩;have v1:=(hb1.block _ (zaa u1)).trans u1;have a3:=zac v1 3 rfl)
     |(go_at_call 48;(with_reducible refine (HB.out _ hb1).mono ?_);rintro e w2 ⟨rfl,hb2⟩;have v2:=(hb2.block _ (zaa v1)).trans v1;have d1:=zac v2 1 rfl;have d3:=zac v2 3 rfl;have d0:=zac v2 0 rfl;have d2:=zac v2 2 rfl))
    go_ret
    exact ⟨rfl,HB1.out.trans ((hb1.trans (hb2.mono hb1.size)).mono HB1.out.size)⟩
  ·obtain rfl:r=false:=by rw [HR.out,decide_eq_true (h0:(z1≤3000)),decide_eq_false (h1:¬ (z2≤3000))];rfl
   clear HR
   have x0:decide (z1≤3000)=true:=decide_eq_true (by omega)
   have x1:decide (z2≤3000)=false:=decide_eq_false (by omega)
   go_enter Tryz.func10,Tryz.ntmps10
   go_upto_region 1 with fail
   rw [← HW.out,← HG0.out]
   go_wp2_with (first
    |(go_at_call 48;(with_reducible refine HA.out.mono ?_);rintro e w1 ⟨rfl,hb1⟩;have v1:=(hb1.block _ (zaa u1)).trans u1;have a3:=zac v1 3 rfl)
    |(go_at_call 48;(with_reducible refine (HB.out _ hb1).mono ?_);rintro e w2 ⟨rfl,hb2⟩;have v2:=(hb2.block _ (zaa v1)).trans v1;have d1:=zac v2 1 rfl;have d3:=zac v2 3 rfl;have d0:=zac v2 0 rfl;have d2:=zac v2 2 rfl))
   go_ret
   exact ⟨rfl,HB1.out.trans ((hb1.trans (hb2.mono hb1.size)).mono HB1.out.size)⟩
 ·obtain rfl:r=false:=by rw [HR.out,decide_eq_false (h0:¬ (z1≤3000))];rfl
  clear HR
  have x0:decide (z1≤3000)=false:=decide_eq_false (by omega)
  go_enter Tryz.func10,Tryz.ntmps10
  go_upto_region 1 with fail
  rw [← HW.out,← HG0.out]
  go_wp2_with (first
   |(go_at_call 48;(with_reducible refine HA.out.mono ?_);rintro e w1 ⟨rfl,hb1⟩;have v1:=(hb1.block _ (zaa u1)).trans u1;have a3:=zac v1 3 rfl)
   |(go_at_call 48;(with_reducible refine (HB.out _ hb1).mono ?_);rintro e w2 ⟨rfl,hb2⟩;have v2:=(hb2.block _ (zaa v1)).trans v1;have d1:=zac v2 1 rfl;have d3:=zac v2 3 rfl;have d0:=zac v2 0 rfl;have d2:=zac v2 2 rfl))
  go_ret
  exact ⟨rfl,HB1.out.trans (hb1.mono HB1.out.size)⟩
def mayB (a b:TabL):Bool:=zho a b && tabP a && tabP b && decide (a.vars.length+b.vars.length≤64) && decide (a.rows.length*b.rows.length≤900)
theorem zwv {a b:TabL} (h:mayB a b=true) (ha:∀ r∈a.rows,wAll r≤2097152) (hb:∀ r∈b.rows,wAll r≤2097152):
 tabP a=true∧tabP b=true∧a.vars.length+b.vars.length≤64∧a.rows.length*b.rows.length≤900∧zbw a.rows∧zbw b.rows∧a.rows.length≤60∧b.rows.length≤60:=by
 unfold mayB at h
 simp only [Bool.and_eq_true,decide_eq_true_eq] at h
 obtain ⟨⟨⟨⟨h1,h2⟩,h3⟩,h4⟩,h5⟩:=h
 have h6:=zge h1 ha hb
 exact ⟨h2,h3,h4,h5,h6.1,h6.2.1,h6.2.2.1,h6.2.2.2⟩
theorem zef:(Tryz.prog.info? 28).map (·.size)=some 7:=by kernel_rfl
set_option maxHeartbeats 6400000 in
set_option maxRecDepth 20000 in
theorem mayAt (a b:TabL) (VA RA VB RB VV NN:Value) (lang:Int) (W:World) (h:zrk W a b VA RA VB RB) (hV:VV.oneCell'=true) (hN:NN.oneCell'=true):Calls Tryz.prog 37 #[.agg #[VA,RA,VB,RB,VV,.int .i64 lang,NN]] W fun e w'=>e=.returned (.bool (mayB a b))∧Below W.heap.size W w':=by
 have HL:Hid (∀ w',Below W.heap.size W w'→Calls Tryz.prog 10 #[.agg #[VA,RA,VB,RB,VV,.int .i64 lang,NN]] w' fun e w2=>e=.returned (.bool (zho a b))∧Below w'.heap.size w' w2):=Lib.hid fun w' k=>lightAt a b _ _ _ _ _ _ lang w' (h.below k)
 have HMA:Hid (∀ w',Below W.heap.size W w'→Calls Tryz.prog 13 #[.agg #[VA,RA]] w' fun e w2=>e=.returned (.bool (tabP a))∧Below w'.heap.size w' w2):=Lib.hid fun w' k=>zp9 a _ _ w' (h.below k).ha
 have HMB:Hid (∀ w',Below W.heap.size W w'→Calls Tryz.prog 13 #[.agg #[VB,RB]] w' fun e w2=>e=.returned (.bool (tabP b))∧Below w'.heap.size w' w2):=Lib.hid fun w' k=>zp9 b _ _ w' (h.below k).hb
 have HS:Hid (zho a b=true→a.rows.length≤60∧b.rows.length≤60):=Lib.hid fun q=>⟨(zge q h.wa h.wb).2.2.1,(zge q h.wa h.wb).2.2.2⟩
 obtain ⟨V',R',e,hva,hra,hcva,hcra,hlva,hlra⟩:=h.ha
 cases e
 obtain ⟨V',R',e,hvb,hrb,hcvb,hcrb,hlvb,hlrb⟩:=h.hb
 cases e
 obtain ⟨pA,kA,rfl⟩:=hva.slice
 obtain ⟨qA,lA,rfl⟩:=hra.slice
 obtain ⟨pB,kB,rfl⟩:=hvb.slice
 obtain ⟨qB,lB,rfl⟩:=hrb.slice
 obtain ⟨W1,hW1⟩:∃ W1,W1=W.alloc (.cells #[.slice pA a.vars.length kA,.slice qA a.rows.length lA,.slice pB b.vars.length kB,.slice qB b.rows.length lB,VV,.int .i64 lang,NN] 28):=⟨_,rfl⟩
 have b1:Below W.heap.size W W1:=by rw [hW1];exact zau _ _
 obtain ⟨g0,hg0⟩:∃ g0,g0=W.heap.size:=⟨_,rfl⟩
 have u1:W1.heap[g0]?=some (.cells #[.slice pA a.vars.length kA,.slice qA a.rows.length lA,.slice pB b.vars.length kB,.slice qB b.rows.length lB,VV,.int .i64 lang,NN] 28):=by rw [hW1,hg0];exact zag _ _ rfl
 have HW:=Lib.hid hW1
 have HG0:=Lib.hid hg0
 have hbw:=b1
 obtain ⟨r,hr⟩:∃ r,r=mayB a b:=⟨_,rfl⟩
 have hr2:=hr
 unfold mayB at hr2
 rw [← hr]
 have HR:=Lib.hid hr2
 clear hva hra hvb hrb hcva hcra hcvb hcrb hW1 b1 hr hr2 h hg0
 generalize zho a b=c0 at*
 generalize tabP a=c1 at*
 generalize tabP b=c2 at*
 generalize a.rows.length=n1 at*
 generalize b.rows.length=n2 at*
 generalize a.vars.length=m1 at*
 generalize b.vars.length=m2 at*
 cases c0 with
 | false=>
   obtain rfl:r=false:=by rw [HR.out];rfl
   clear HR HS
   go_enter Tryz.func37,Tryz.ntmps37
   go_upto_region 1 with fail
   rw [← HW.out,← HG0.out]
   go_wp2_with (first
    |((with_reducible refine zaf (.tmp 1) g0 28 28 [.slice pA m1 kA,.slice qA n1 lA,.slice pB m2 kB,.slice qB n2 lB,VV,.int .i64 lang,NN] 7 _ u1 rfl Tryz.underlying28 rfl zef ?_ ?_ ?_ ?_);rfl;rfl;rfl)
    |(go_at_call 10;(with_reducible refine (HL.out _ hbw).mono ?_);rintro e w1 ⟨rfl,hb1⟩;replace u1:=(hb1.block _ (zaa u1)).trans u1;replace hbw:=zab hbw hb1 hbw.size;clear hb1;have r1:w1.rangeAt g0 0 [.slice pA m1 kA,.slice qA n1 lA]:=zbe u1 [] [.slice pB m2 kB,.slice qB n2 lB,VV,.int .i64 lang,NN] rfl)
    |((with_reducible refine zbb ?_ (.tmp 6) g0 0 25 [.slice pA m1 kA,.slice qA n1 lA] 2 _ r1 rfl Tryz.underlying25 rfl zae ?_ ?_ ?_);rfl;rfl;rfl)
    |(go_at_call 13;(with_reducible refine (HMA.out _ hbw).mono ?_);rintro e w2 ⟨rfl,hb2⟩;replace u1:=(hb2.block _ (zaa u1)).trans u1;replace hbw:=zab hbw hb2 hbw.size;clear hb2 r1;have r2:w2.rangeAt g0 2 [.slice pB m2 kB,.slice qB n2 lB]:=zbe u1 [.slice pA m1 kA,.slice qA n1 lA] [VV,.int .i64 lang,NN] rfl)
    |((with_reducible refine zbb ?_ (.tmp 11) g0 2 25 [.slice pB m2 kB,.slice qB n2 lB] 2 _ r2 rfl Tryz.underlying25 rfl zae ?_ ?_ ?_);rfl;rfl;rfl)
    |(go_at_call 13;(with_reducible refine (HMB.out _ hbw).mono ?_);rintro e w3 ⟨rfl,hb3⟩;replace u1:=(hb3.block _ (zaa u1)).trans u1;replace hbw:=zab hbw hb3 hbw.size;clear hb3 r2;have d0:=zac u1 0 rfl;have d1:=zac u1 1 rfl;have d2:=zac u1 2 rfl;have d3:=zac u1 3 rfl))
   go_ret
   exact ⟨rfl,hbw⟩
 | true=>
   cases c1 with
   | false=>
     obtain rfl:r=false:=by rw [HR.out];rfl
     clear HR HS
     go_enter Tryz.func37,Tryz.ntmps37
     go_upto_region 1 with fail
     rw [← HW.out,← HG0.out]
     go_wp2_with (first
      |((with_reducible refine zaf (.tmp 1) g0 28 28 [.slice pA m1 kA,.slice qA n1 lA,.slice pB m2 kB,.slice qB n2 lB,VV,.int .i64 lang,NN] 7 _ u1 rfl Tryz.underlying28 rfl zef ?_ ?_ ?_ ?_);rfl;rfl;rfl)
      |(go_at_call 10;(with_reducible refine (HL.out _ hbw).mono ?_);rintro e w1 ⟨rfl,hb1⟩;replace u1:=(hb1.block _ (zaa u1)).trans u1;replace hbw:=zab hbw hb1 hbw.size;clear hb1;have r1:w1.rangeAt g0 0 [.slice pA m1 kA,.slice qA n1 lA]:=zbe u1 [] [.slice pB m2 kB,.slice qB n2 lB,VV,.int .i64 lang,NN] rfl)
      |((with_reducible refine zbb ?_ (.tmp 6) g0 0 25 [.slice pA m1 kA,.slice qA n1 lA] 2 _ r1 rfl Tryz.underlying25 rfl zae ?_ ?_ ?_);rfl;rfl;rfl)
      |(go_at_call 13;(with_reducible refine (HMA.out _ hbw).mono ?_);rintro e w2 ⟨rfl,hb2⟩;replace u1:=(hb2.block _ (zaa u1)).trans u1;replace hbw:=zab hbw hb2 hbw.size;clear hb2 r1;have r2:w2.rangeAt g0 2 [.slice pB m2 kB,.slice qB n2 lB]:=zbe u1 [.slice pA m1 kA,.slice qA n1 lA] [VV,.int .i64 lang,NN] rfl)
      |((with_reducible refine zbb ?_ (.tmp 11) g0 2 25 [.slice pB m2 kB,.slice qB n2 lB] 2 _ r2 rfl Tryz.underlying25 rfl zae ?_ ?_ ?_);rfl;rfl;rfl)
      |(go_at_call 13;(with_reducible refine (HMB.out _ hbw).mono ?_);rintro e w3 ⟨rfl,hb3⟩;replace u1:=(hb3.block _ (zaa u1)).trans u1;replace hbw:=zab hbw hb3 hbw.size;clear hb3 r2;have d0:=zac u1 0 rfl;have d1:=zac u1 1 rfl;have d2:=zac u1 2 rfl;have d3:=zac u1 3 rfl))
     go_ret
     exact ⟨rfl,hbw⟩
   | true=>
     cases c2 with
     | false=>
       obtain rfl:r=false:=by rw [HR.out];rfl
       clear HR HS
       go_enter Tryz.func37,Tryz.ntmps37
       go_upto_region 1 with fail
       rw [← HW.out,← HG0.out]
       go_wp2_with (first
        |((with_reducible refine zaf (.tmp 1) g0 28 28 [.slice pA m1 kA,.slice qA n1 lA,.slice pB m2 kB,.slice qB n2 lB,VV,.int .i64 lang,NN] 7 _ u1 rfl Tryz.underlying28 rfl zef ?_ ?_ ?_ ?_);rfl;rfl;rfl)
        |(go_at_call 10;(with_reducible refine (HL.out _ hbw).mono ?_);rintro e w1 ⟨rfl,hb1⟩;replace u1:=(hb1.block _ (zaa u1)).trans u1;replace hbw:=zab hbw hb1 hbw.size;clear hb1;have r1:w1.rangeAt g0 0 [.slice pA m1 kA,.slice qA n1 lA]:=zbe u1 [] [.slice pB m2 kB,.slice qB n2 lB,VV,.int .i64 lang,NN] rfl)
        |((with_reducible refine zbb ?_ (.tmp 6) g0 0 25 [.slice pA m1 kA,.slice qA n1 lA] 2 _ r1 rfl Tryz.underlying25 rfl zae ?_ ?_ ?_);rfl;rfl;rfl)
        |(go_at_call 13;(with_reducible refine (HMA.out _ hbw).mono ?_);rintro e w2 ⟨rfl,hb2⟩;replace u1:=(hb2.block _ (zaa u1)).trans u1;replace hbw:=zab hbw hb2 hbw.size;clear hb2 r1;have r2:w2.rangeAt g0 2 [.slice pB m2 kB,.slice qB n2 lB]:=zbe u1 [.slice pA m1 kA,.slice qA n1 lA] [VV,.int .i64 lang,NN] rfl)
        |((with_reducible refine zbb ?_ (.tmp 11) g0 2 25 [.slice pB m2 kB,.slice qB n2 lB] 2 _ r2 rfl Tryz.underlying25 rfl zae ?_ ?_ ?_);rfl;rfl;rfl)
        |(go_at_call 13;(with_reducible refine (HMB.out _ hbw).mono ?_);rintro e w3 ⟨rfl,hb3⟩;replace u1:=(hb3.block _ (zaa u1)).trans u1;replace hbw:=zab hbw hb3 hbw.size;clear hb3 r2;have d0:=zac u1 0 rfl;have d1:=zac u1 1 rfl;have d2:=zac u1 2 rfl;have d3:=zac u1 3 rfl))
       go_ret
       exact ⟨rfl,hbw⟩
     | true=>
       obtain ⟨s1,s2⟩:=HS.out rfl
       by_cases h3:m1+m2≤64
       ·by_cases h4:n1*n2≤900
        ·obtain rfl:r=true:=by rw [HR.out,decide_eq_true h3,decide_eq_true h4];rfl
         clear HR HS
         have x3:decide ((m1:Int)+m2≤64)=true:=decide_eq_true (by omega)
         obtain ⟨q,hq⟩:∃ q,(n1:Int)*n2=q:=⟨_,rfl⟩
         have q1:q≤3600:=by
          rw [← hq]
          have:=Nat.mul_le_mul s1 s2
          have e:((n1*n2:Nat):Int)=(n1:Int)*n2:=Int.natCast_mul _ _
          omega
         have q0:0≤q:=by rw [← hq];exact Int.mul_nonneg (by omega) (by omega)
         have x4:decide (q≤900)=true:=decide_eq_true (by
          have e:((n1*n2:Nat):Int)=(n1:Int)*n2:=Int.natCast_mul _ _
          omega)
         go_enter Tryz.func37,Tryz.ntmps37
         go_upto_region 1 with fail
         rw [← HW.out,← HG0.out]
         go_wp2_with (first
          |((with_reducible refine zaf (.tmp 1) g0 28 28 [.slice pA m1 kA,.slice qA n1 lA,.slice pB m2 kB,.slice qB n2 lB,VV,.int .i64 lang,NN] 7 _ u1 rfl Tryz.underlying28 rfl zef ?_ ?_ ?_ ?_);rfl;rfl;rfl)
          |(go_at_call 10;(with_reducible refine (HL.out _ hbw).mono ?_);rintro e w1 ⟨rfl,hb1⟩;replace u1:=(hb1.block _ (zaa u1)).trans u1;replace hbw:=zab hbw hb1 hbw.size;clear hb1;have r1:w1.rangeAt g0 0 [.slice pA m1 kA,.slice qA n1 lA]:=zbe u1 [] [.slice pB m2 kB,.slice qB n2 lB,VV,.int .i64 lang,NN] rfl)
          |((with_reducible refine zbb ?_ (.tmp 6) g0 0 25 [.slice pA m1 kA,.slice qA n1 lA] 2 _ r1 rfl Tryz.underlying25 rfl zae ?_ ?_ ?_);rfl;rfl;rfl)
          |(go_at_call 13;(with_reducible refine (HMA.out _ hbw).mono ?_);rintro e w2 ⟨rfl,hb2⟩;replace u1:=(hb2.block _ (zaa u1)).trans u1;replace hbw:=zab hbw hb2 hbw.size;clear hb2 r1;have r2:w2.rangeAt g0 2 [.slice pB m2 kB,.slice qB n2 lB]:=zbe u1 [.slice pA m1 kA,.slice qA n1 lA] [VV,.int .i64 lang,NN] rfl)
          |((with_reducible refine zbb ?_ (.tmp 11) g0 2 25 [.slice pB m2 kB,.slice qB n2 lB] 2 _ r2 rfl Tryz.underlying25 rfl zae ?_ ?_ ?_);rfl;rfl;rfl)
          |(go_at_call 13;(with_reducible refine (HMB.out _ hbw).mono ?_);rintro e w3 ⟨rfl,hb3⟩;replace u1:=(hb3.block _ (zaa u1)).trans u1;replace hbw:=zab hbw hb3 hbw.size;clear hb3 r2;have d0:=zac u1 0 rfl;have d1:=zac u1 1 rfl;have d2:=zac u1 2 rfl;have d3:=zac u1 3 rfl))
         go_ret
         exact ⟨rfl,hbw⟩
        ·obtain rfl:r=false:=by rw [HR.out,decide_eq_true h3,decide_eq_false h4];rfl
         clear HR HS
         have x3:decide ((m1:Int)+m2≤64)=true:=decide_eq_true (by omega)
         obtain ⟨q,hq⟩:∃ q,(n1:Int)*n2=q:=⟨_,rfl⟩
         have q1:q≤3600:=by
          rw [← hq]
          have:=Nat.mul_le_mul s1 s2
          have e:((n1*n2:Nat):Int)=(n1:Int)*n2:=Int.natCast_mul _ _
          omega
         have q0:0≤q:=by rw [← hq];exact Int.mul_nonneg (by omega) (by omega)
         have x4:decide (q≤900)=false:=decide_eq_false (by
          have e:((n1*n2:Nat):Int)=(n1:Int)*n2:=Int.natCast_mul _ _
          omega)
         go_enter Tryz.func37,Tryz.ntmps37
         go_upto_region 1 with fail
         rw [← HW.out,← HG0.out]
         go_wp2_with (first
          |((with_reducible refine zaf (.tmp 1) g0 28 28 [.slice pA m1 kA,.slice qA n1 lA,.slice pB m2 kB,.slice qB n2 lB,VV,.int .i64 lang,NN] 7 _ u1 rfl Tryz.underlying28 rfl zef ?_ ?_ ?_ ?_);rfl;rfl;rfl)
          |(go_at_call 10;(with_reducible refine (HL.out _ hbw).mono ?_);rintro e w1 ⟨rfl,hb1⟩;replace u1:=(hb1.block _ (zaa u1)).trans u1;replace hbw:=zab hbw hb1 hbw.size;clear hb1;have r1:w1.rangeAt g0 0 [.slice pA m1 kA,.slice qA n1 lA]:=zbe u1 [] [.slice pB m2 kB,.slice qB n2 lB,VV,.int .i64 lang,NN] rfl)
          |((with_reducible refine zbb ?_ (.tmp 6) g0 0 25 [.slice pA m1 kA,.slice qA n1 lA] 2 _ r1 rfl Tryz.underlying25 rfl zae ?_ ?_ ?_);rfl;rfl;rfl)
          |(go_at_call 13;(with_reducible refine (HMA.out _ hbw).mono ?_);rintro e w2 ⟨rfl,hb2⟩;replace u1:=(hb2.block _ (zaa u1)).trans u1;replace hbw:=zab hbw hb2 hbw.size;clear hb2 r1;have r2:w2.rangeAt g0 2 [.slice pB m2 kB,.slice qB n2 lB]:=zbe u1 [.slice pA m1 kA,.slice qA n1 lA] [VV,.int .i64 lang,NN] rfl)
          |((with_reducible refine zbb ?_ (.tmp 11) g0 2 25 [.slice pB m2 kB,.slice qB n2 lB] 2 _ r2 rfl Tryz.underlying25 rfl zae ?_ ?_ ?_);rfl;rfl;rfl)
          |(go_at_call 13;(with_reducible refine (HMB.out _ hbw).mono ?_);rintro e w3 ⟨rfl,hb3⟩;replace u1:=(hb3.block _ (zaa u1)).trans u1;replace hbw:=zab hbw hb3 hbw.size;clear hb3 r2;have d0:=zac u1 0 rfl;have d1:=zac u1 1 rfl;have d2:=zac u1 2 rfl;have d3:=zac u1 3 rfl))
         go_ret
         exact ⟨rfl,hbw⟩
       ·obtain rfl:r=false:=by rw [HR.out,decide_eq_false h3];rfl
        clear HR HS
        have x3:decide ((m1:Int)+m2≤64)=false:=decide_eq_false (by omega)
        go_enter Tryz.func37,Tryz.ntmps37
        go_upto_region 1 with fail
        rw [← HW.out,← HG0.out]
        go_wp2_with (first
         |((with_reducible refine zaf (.tmp 1) g0 28 28 [.slice pA m1 kA,.slice qA n1 lA,.slice pB m2 kB,.slice qB n2 lB,VV,.int .i64 lang,NN] 7 _ u1 rfl Tryz.underlying28 rfl zef ?_ ?_ ?_ ?_);rfl;rfl;rfl)
         |(go_at_call 10;(with_reducible refine (HL.out _ hbw).mono ?_);rintro e w1 ⟨rfl,hb1⟩;replace u1:=(hb1.block _ (zaa u1)).trans u1;replace hbw:=zab hbw hb1 hbw.size;clear hb1;have r1:w1.rangeAt g0 0 [.slice pA m1 kA,.slice qA n1 lA]:=zbe u1 [] [.slice pB m2 kB,.slice qB n2 lB,VV,.int .i64 lang,NN] rfl)
         |((with_reducible refine zbb ?_ (.tmp 6) g0 0 25 [.slice pA m1 kA,.slice qA n1 lA] 2 _ r1 rfl Tryz.underlying25 rfl zae ?_ ?_ ?_);rfl;rfl;rfl)
         |(go_at_call 13;(with_reducible refine (HMA.out _ hbw).mono ?_);rintro e w2 ⟨rfl,hb2⟩;replace u1:=(hb2.block _ (zaa u1)).trans u1;replace hbw:=zab hbw hb2 hbw.size;clear hb2 r1;have r2:w2.rangeAt g0 2 [.slice pB m2 kB,.slice qB n2 lB]:=zbe u1 [.slice pA m1 kA,.slice qA n1 lA] [VV,.int .i64 lang,NN] rfl)
         |((with_reducible refine zbb ?_ (.tmp 11) g0 2 25 [.slice pB m2 kB,.slice qB n2 lB] 2 _ r2 rfl Tryz.underlying25 rfl zae ?_ ?_ ?_);rfl;rfl;rfl)
         |(go_at_call 13;(with_reducible refine (HMB.out _ hbw).mono ?_);rintro e w3 ⟨rfl,hb3⟩;replace u1:=(hb3.block _ (zaa u1)).trans u1;replace hbw:=zab hbw hb3 hbw.size;clear hb3 r2;have d0:=zac u1 0 rfl;have d1:=zac u1 1 rfl;have d2:=zac u1 2 rfl;have d3:=zac u1 3 rfl))
        go_ret
        exact ⟨rfl,hbw⟩
end Go.Proofs.YteclpnfckjfibaaGreatDoor

/- R1 -/
namespace Go.Proofs.YteclpnfckjfibaaGreatDoor
open Go.RowKit Go.ChangeShapes
variable {H:Type} {enc:TypeId × Value→H}
theorem zm3 {w:World} {a:Addr} {m:Nat} {cs:List Value} (h:w.cells? 0 a m=some cs):cs.length=m∧∀ j,j < m→w.cell? (a.add j)=cs[j]?:=by
 unfold World.cells? at h
 rw [if_pos (Nat.zero_le _)] at h
 have hl:=mapM_some_length h
 rw [List.length_range] at hl
 refine ⟨hl,fun j hj=>?_⟩
 exact mapM_some_get h j j (by rw [List.getElem?_range hj])
theorem zhp (g off i:Nat):(Addr.mk g off none).add i=⟨g,off+i,none⟩:=by unfold Addr.add;split <;> simp_all
theorem list6 {α:Type} {l:List α} (h:l.length=6):∃ a b c d e f,l=[a,b,c,d,e,f]:=by
 match l,h with
 | [a,b,c,d,e,f],_=>exact ⟨a,b,c,d,e,f,rfl⟩
theorem zn2 {d:DataW H}:{l:List (DataW H)}→d∈l→Rows.uptoBulk d≤Rows.uptoBulkAll l
 | [],h=>absurd h (by simp)
 | e::r,h=>by
   unfold Rows.uptoBulkAll
   rcases List.mem_cons.1 h with h | h
   ·rw [h];omega
   ·have:=zn2 h;omega
theorem zys (d:DataW H):1≤Rows.uptoBulk d:=by
 cases d with
 | lit l=>cases l <;> simp [Rows.uptoBulk]
 | _=>simp [Rows.uptoBulk]
theorem zn3:(l:List (DataW H))→l.length≤Rows.uptoBulkAll l
 | []=>by simp
 | e::r=>by
   unfold Rows.uptoBulkAll
   have:=zn3 r
   have:=zys e
   simp only [List.length_cons]
   omega
theorem i64_wf {m:Int} (h:(Lit.int .i64 m).wf=true):-9223372036854775808≤m∧m≤9223372036854775807:=by
 have:=bounds_i64 h
 omega
end Go.Proofs.YteclpnfckjfibaaGreatDoor
