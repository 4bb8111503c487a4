/- Texts of one kind, one behind the other: each says ahead of itself what it shows. -/
import Derived.Test.YtcfmenkigolnoaaGreatDoorVax
import Derived.Test.YtcfmenkigolnoaaGreatDoorVaq
import Derived.Test.YtcfmenkigolnoaaGreatDoorVaw
import Derived.Test.YtcfmenkigolnoaaGreatDoorVah
import Derived.Deep.MidRow
/- GMR -/
namespace Go.Proofs.YtcfmenkigolnoaaGreatDoor
open Go.RowKit
def zos (l:List za2) (ky:ByteArray):Val:=((l.find? fun p=>decide (bl p.key=bl ky)).map za2.v).getD zrt
theorem zk3 {l:List za2} {ky:ByteArray} {j:Nat} (hj:j < l.length) (h:l[j].key=ky) (hb:∀ i (h:i < l.length),i < j→l[i].key≠ky):zos l ky=l[j].v:=by
 have:l.find? (fun p=>decide (bl p.key=bl ky))=some l[j]:=by
  rw [List.find?_eq_some_iff_getElem]
  refine ⟨by simp [h],j,hj,rfl,fun i hi=>?_⟩
  simpa using fun e=>hb i (by omega) hi (zir e)
 unfold zos
 rw [this]
 rfl
theorem zk4 {l:List za2} {ky:ByteArray} (h:∀ i (h:i < l.length),l[i].key≠ky):zos l ky=zrt:=by
 have:l.find? (fun p=>decide (bl p.key=bl ky))=none:=by
  rw [List.find?_eq_none]
  intro p hp
  obtain ⟨i,hi,rfl⟩:=List.getElem_of_mem hp
  simpa using fun e=>h i hi (zir e)
 unfold zos
 rw [this]
 rfl
def zfm (ns:List zaq) (es:List zas) (k n:Int):List za2:=if k=6 then (zdn ns n).props else if k=7 then (zdo es n).props else []
set_option maxHeartbeats 12800000 in
set_option maxRecDepth 20000 in
theorem zwh (ns:List zaq) (es:List zas) (V U:Value) (k n:Int) (b t x L:Value) (ky:ByteArray) (W:World) (hN:zaj zay W (Old W) V ns) (hE:zaj za0 W (Old W) U es) (hn1:ns.length≤2097152) (hn2:es.length≤2097152):
 Calls Tryz.prog 29 #[.agg #[V,U],.agg #[.int .i64 k,b,.int .i64 n,t,x,L],.string ky] W (zr0 W (zos (zfm ns es k n) ky)):=by
 obtain ⟨p1,c1,rfl⟩:=hN.slice
 obtain ⟨p2,c2,rfl⟩:=hE.slice
 obtain ⟨n1,hl1⟩:∃ n,n=ns.length:=⟨_,rfl⟩
 obtain ⟨n2,hl2⟩:∃ n,n=es.length:=⟨_,rfl⟩
 rw [← hl1,← hl2]
 rw [← hl1] at hN hn1
 rw [← hl2] at hE hn2
 have hz1:∀ u∈[Value.int .i64 0,.bool false,.int .i64 0,.string ⟨#[]⟩,.string ⟨#[]⟩,.slice none 0 0],u.oneCell'=true:=by simp [Value.oneCell']
 obtain ⟨W0,hW0⟩:∃ W0,W0=((W.alloc (.cells #[.slice p1 n1 c1,.slice p2 n2 c2] 25)).alloc (.cells #[.int .i64 k,b,.int .i64 n,t,x,L] 60)).alloc (.cells #[.int .i64 0,.bool false,.int .i64 0,.string ⟨#[]⟩,.string ⟨#[]⟩,.slice none 0 0] 60):=⟨_,rfl⟩
 have b0:Below W.heap.size W W0:=by rw [hW0];exact below3 _ _ _ _
 have u1:W0.heap[W.heap.size]?=some (.cells #[.slice p1 n1 c1,.slice p2 n2 c2] 25 (0,0)):=by rw [hW0];exact zat _ (zat _ (zae _ _ rfl))
 have u2:W0.heap[W.heap.size+1]?=some (.cells #[.int .i64 k,b,.int .i64 n,t,x,L] 60 (0,0)):=by rw [hW0];exact zat _ (zae _ _ (by simp))
 have u3:W0.heap[W.heap.size+2]?=some (.cells #[.int .i64 0,.bool false,.int .i64 0,.string ⟨#[]⟩,.string ⟨#[]⟩,.slice none 0 0] 60 (0,0)):=by rw [hW0];exact zae _ _ (by simp)
 have H0:=Lib.hid hW0
 have HN:=Lib.hid (zoo ns (.slice p1 n1 c1) (.slice p2 n2 c2) n W0 (Old W) (fun i hi=>Nat.lt_of_lt_of_le hi b0.size) (hN.stays fun i hi=>⟨hi,b0.block i hi⟩) ⟨_,_,_,rfl⟩ (by omega))
 have HE:=Lib.hid (zop es (.slice p1 n1 c1) (.slice p2 n2 c2) n W0 (Old W) (fun i hi=>Nat.lt_of_lt_of_le hi b0.size) (hE.stays fun i hi=>⟨hi,b0.block i hi⟩) ⟨_,_,_,rfl⟩ (by omega))
 have HB0:=Lib.hid b0
 have HU:=Lib.hid (And.intro u2 u3)
 have k0:=zac u2 0 rfl
 have k2:=zac u2 2 rfl
 clear hW0 hN hE hl1 hl2 b0 u2 u3
 by_cases hk6:k=6
 ·subst hk6
  have HPI:Hid (zfm ns es 6 n=(zdn ns n).props):=Lib.hid rfl
  obtain ⟨nd,hnd⟩:∃ nd,nd=zdn ns n:=⟨_,rfl⟩
  rw [← hnd] at HPI
  rw [HPI.out]
  have HN2:Hid (Calls Tryz.prog 18 #[.agg #[.slice p1 n1 c1,.slice p2 n2 c2],.int .i64 n] W0 fun e w'=>∃ c v,e=.returned (.tuple #[.agg c.toArray,v])∧zay.rel w' (Old W) c nd∧Below W0.heap.size W0 w'):=Lib.hid (HN.out.mono (by
   rintro e w ⟨c,rfl,h1,h2⟩
   exact ⟨c,_,rfl,by rw [hnd];exact h1,h2⟩))
  clear hnd HN HE
  go_enter Tryz.func29,Tryz.ntmps29
  go_upto_region 1 with fail
  rw [← H0.out]
  go_upto_region 8 with (first
   |((with_reducible refine zai (.tmp 3) W.heap.size 25 25 [.slice p1 n1 c1,.slice p2 n2 c2] 2 _ u1 rfl Tryz.underlying25 rfl zbh ?_ ?_ ?_ ?_);rfl;rfl;rfl)
   |(go_at_call 18;(with_reducible refine HN2.out.mono ?_);rintro e w3 ⟨c,bv,rfl,hc,hb3⟩
     have hlen:c.length=3:=zay.len hc;have hone:=zay.one hc
     obtain ⟨lv,pv,rfl,hwf,hq1,hq2,hsl,hsp⟩:=hc
     have v2:=(hb3.block _ (zaa HU.out.1)).trans HU.out.1)
   |((with_reducible refine zag (.tmp 8) (.tmp 21) w3.heap.size 38 38 _ [.int .i64 nd.id,lv,pv] 3 (zae _ _ rfl) hlen ?_ ?_ ?_ ?_ zam rfl hone ?_);rfl;rfl;rfl;rfl;intro wX oX hx
     have bX0:Below w3.heap.size w3 wX:=zaf (zar w3 _) oX (Nat.le_refl _) (by simp)
     have d2:=zac hx 2 rfl
     have k0':=zac ((bX0.block _ (zaa v2)).trans v2) 0 rfl))
  have bX:Below W0.heap.size W0 wX:=zab hb3 bX0 hb3.size
  have HS:Hid (zaj za8 wX (Old W) pv nd.props):=Lib.hid (hsp.stays fun i hi=>⟨hi,bX0.block i (Nat.lt_of_lt_of_le hi (Nat.le_trans HB0.out.size hb3.size))⟩)
  obtain ⟨l,hl⟩:∃ l,l=nd.props:=⟨_,rfl⟩
  rw [← hl] at HS hq2
  have HPL:=Lib.hid hl
  clear k0 k2 u1 hlen hone hwf hq1 hsl hsp v2 oX hx bX0 d2 k0' HN2 hb3 hl HPI
  have u3:=(bX.block _ (zaa HU.out.2)).trans HU.out.2
  have HB:=Lib.hid (zab HB0.out bX HB0.out.size)
  have hz:=zaa u3
  obtain ⟨p,cap,rfl⟩:=HS.out.slice
  obtain ⟨m,hm⟩:∃ m,m=l.length:=⟨_,rfl⟩
  rw [← hm] at HS hq2 ⊢
  have HM:=Lib.hid hm
  clear bX hm
  go_wp2_with fail
  go_loopg [12] m (fun gg s12 wr=>∃ j:Nat,j+gg=m∧s12=.int .i64 j∧Hid (∀ i (h:i < l.length),i < j→l[i].key≠ky)∧wX=wr)
  case atStart=>exact ⟨0,by omega,rfl,Lib.hid (fun i _ h=>absurd h (by omega)),rfl⟩
  case round=>
   obtain ⟨j,hjg,rfl,HA,rfl⟩:=hrel
   by_cases hj:(j:Int) < m
   ·have hj1:j < l.length:=by have:=HM.out;omega
    obtain ⟨g,o,cp1,c,e1,hg1,hr1,hra⟩:=HS.out.at_ j hj1
    injection e1 with e11 e12 e13
    subst e11
    obtain ⟨cv,rfl,hks,hv⟩:=hr1
    obtain ⟨key,hkey⟩:∃ key,key=l[j].key:=⟨_,rfl⟩
    rw [← hkey] at hra
    have HKY:=Lib.hid hkey
    have d0:wX.cell? ⟨g,o+j*7,none⟩=some (.string key):=hra 0 _ rfl
    have rv:wX.rangeAt g (o+j*7+1) cv:=zdz hra
    have hlv:cv.length=6:=valE.len hv
    have hov:=valE.one hv
    have HV:=Lib.hid hv
    clear hra e12 e13 hkey hv
    by_cases q:key=ky
    ·subst q
     have HAT:=Lib.hid (zk3 hj1 HKY.out.symm HA.out)
     go_wp2_with (first
      |((with_reducible refine zap (.tmp 53) g (o+j*7+1) 60 cv 6 _ rv hlv Tryz.underlying60 rfl za1 ?_ ?_ ?_ ?_);rfl;rfl;rfl)
      |((with_reducible refine zag (.tmp 6) (.tmp 54) (W.heap.size+2) 60 60 _ cv 6 u3 hlv ?_ ?_ ?_ ?_ za1 rfl hov ?_);rfl;rfl;rfl;rfl;intro wY oY u5))
     have hsz:=oY.size
     refine bodyPost_ret (results_cell_row (p:=6) (ty:=60) Tryz.results29 _ _ (W.heap.size+2) 60 cv.toArray (0,0) _ rfl u5 Tryz.underlying60 rfl (by rw [za1];simp [hlv])) rfl ?_
     unfold zr0
     rw [← HPL.out,HAT.out]
     exact ⟨cv,rfl,valE.stays (fun i hi=>⟨Nat.lt_of_lt_of_le hi (Nat.le_trans HB.out.size hsz),oY.block i (Nat.lt_of_lt_of_le hi HB.out.size) (fun e=>by have:i < W.heap.size:=hi;omega)⟩) HV.out,zaf HB.out oY (by omega) HB.out.size⟩
    ·have q2:(key.toList == ky.toList)=false:=zi2 q
     have HA2:Hid (∀ i (h:i < l.length),i < j+1→l[i].key≠ky):=Lib.hid fun i h1 h2=>by
      by_cases e:i=j
      ·subst e
       rw [← HKY.out]
       exact q
      ·exact HA.out i h1 (by omega)
     clear q rv hov
     go_wp2_with fail
     go_roundg (gk - 1)
     case measure=>omega
     case rel=>exact ⟨j+1,by omega,by go_num,HA2,rfl⟩
   ·have HAT:=Lib.hid (zk4 fun i h=>HA.out i h (by have:=HM.out;omega))
    go_wp2_with (first
     |((with_reducible refine zag (.tmp 6) (.tmp 55) (W.heap.size+2) 60 60 _ [.int .i64 0,.bool false,.int .i64 0,.string ⟨#[]⟩,.string ⟨#[]⟩,.slice none 0 0] 6 u3 rfl ?_ ?_ ?_ ?_ za1 rfl hz1 ?_);rfl;rfl;rfl;rfl;intro wY oY u5))
    refine bodyPost_ret (results_cell_row (p:=6) (ty:=60) Tryz.results29 _ _ (W.heap.size+2) 60 _ (0,0) _ rfl u5 Tryz.underlying60 rfl za1) rfl ?_
    unfold zr0
    rw [← HPL.out,HAT.out]
    exact ⟨[.int .i64 0,.bool false,.int .i64 0,.string ⟨#[]⟩,.string ⟨#[]⟩,.slice none 0 0],rfl,⟨_,rfl,zgh,⟨_,_,rfl⟩⟩,zaf HB.out oY (by omega) HB.out.size⟩
 ·by_cases hk7:k=7
  ·subst hk7
   have HPI:Hid (zfm ns es 7 n=(zdo es n).props):=Lib.hid rfl
   obtain ⟨nd,hnd⟩:∃ nd,nd=zdo es n:=⟨_,rfl⟩
   rw [← hnd] at HPI
   rw [HPI.out]
   have HN2:Hid (Calls Tryz.prog 20 #[.agg #[.slice p1 n1 c1,.slice p2 n2 c2],.int .i64 n] W0 fun e w'=>∃ c v,e=.returned (.tuple #[.agg c.toArray,v])∧za0.rel w' (Old W) c nd∧Below W0.heap.size W0 w'):=Lib.hid (HE.out.mono (by
    rintro e w ⟨c,rfl,h1,h2⟩
    exact ⟨c,_,rfl,by rw [hnd];exact h1,h2⟩))
   clear hnd HN HE hk6
   go_enter Tryz.func29,Tryz.ntmps29
   go_upto_region 1 with fail
   rw [← H0.out]
   go_upto_region 8 with (first
    |((with_reducible refine zai (.tmp 3) W.heap.size 25 25 [.slice p1 n1 c1,.slice p2 n2 c2] 2 _ u1 rfl Tryz.underlying25 rfl zbh ?_ ?_ ?_ ?_);rfl;rfl;rfl)
    |(go_at_call 20;(with_reducible refine HN2.out.mono ?_);rintro e w3 ⟨c,bv,rfl,hc,hb3⟩
      have hlen:c.length=5:=za0.len hc;have hone:=za0.one hc
      obtain ⟨pv,rfl,hwf,hq1,hq2,hsp⟩:=hc)
    |((with_reducible refine zag (.tmp 10) (.tmp 33) w3.heap.size 41 41 _ [.int .i64 nd.id,.int .i64 nd.src,.int .i64 nd.dst,.string nd.type,pv] 5 (zae _ _ rfl) hlen ?_ ?_ ?_ ?_ zak rfl hone ?_);rfl;rfl;rfl;rfl;intro wX oX hx
      have bX0:Below w3.heap.size w3 wX:=zaf (zar w3 _) oX (Nat.le_refl _) (by simp)
      have d2:=zac hx 4 rfl))
   have bX:Below W0.heap.size W0 wX:=zab hb3 bX0 hb3.size
   have HS:Hid (zaj za8 wX (Old W) pv nd.props):=Lib.hid (hsp.stays fun i hi=>⟨hi,bX0.block i (Nat.lt_of_lt_of_le hi (Nat.le_trans HB0.out.size hb3.size))⟩)
   obtain ⟨l,hl⟩:∃ l,l=nd.props:=⟨_,rfl⟩
   rw [← hl] at HS hq2
   have HPL:=Lib.hid hl
   clear k0 k2 u1 hlen hone hwf hq1 hsp oX hx bX0 d2 HN2 hb3 hl HPI
   have u3:=(bX.block _ (zaa HU.out.2)).trans HU.out.2
   have HB:=Lib.hid (zab HB0.out bX HB0.out.size)
   have hz:=zaa u3
   obtain ⟨p,cap,rfl⟩:=HS.out.slice
   obtain ⟨m,hm⟩:∃ m,m=l.length:=⟨_,rfl⟩
   rw [← hm] at HS hq2 ⊢
   have HM:=Lib.hid hm
   clear bX hm
   go_wp2_with fail
   go_loopg [12] m (fun gg s12 wr=>∃ j:Nat,j+gg=m∧s12=.int .i64 j∧Hid (∀ i (h:i < l.length),i < j→l[i].key≠ky)∧wX=wr)
   case atStart=>exact ⟨0,by omega,rfl,Lib.hid (fun i _ h=>absurd h (by omega)),rfl⟩
   case round=>
    obtain ⟨j,hjg,rfl,HA,rfl⟩:=hrel
    by_cases hj:(j:Int) < m
    ·have hj1:j < l.length:=by have:=HM.out;omega
     obtain ⟨g,o,cp1,c,e1,hg1,hr1,hra⟩:=HS.out.at_ j hj1
     injection e1 with e11 e12 e13
     subst e11
     obtain ⟨cv,rfl,hks,hv⟩:=hr1
     obtain ⟨key,hkey⟩:∃ key,key=l[j].key:=⟨_,rfl⟩
     rw [← hkey] at hra
     have HKY:=Lib.hid hkey
     have d0:wX.cell? ⟨g,o+j*7,none⟩=some (.string key):=hra 0 _ rfl
     have rv:wX.rangeAt g (o+j*7+1) cv:=zdz hra
     have hlv:cv.length=6:=valE.len hv
     have hov:=valE.one hv
     have HV:=Lib.hid hv
     clear hra e12 e13 hkey hv
     by_cases q:key=ky
     ·subst q
      have HAT:=Lib.hid (zk3 hj1 HKY.out.symm HA.out)
      go_wp2_with (first
       |((with_reducible refine zap (.tmp 53) g (o+j*7+1) 60 cv 6 _ rv hlv Tryz.underlying60 rfl za1 ?_ ?_ ?_ ?_);rfl;rfl;rfl)
       |((with_reducible refine zag (.tmp 6) (.tmp 54) (W.heap.size+2) 60 60 _ cv 6 u3 hlv ?_ ?_ ?_ ?_ za1 rfl hov ?_);rfl;rfl;rfl;rfl;intro wY oY u5))
      have hsz:=oY.size
      refine bodyPost_ret (results_cell_row (p:=6) (ty:=60) Tryz.results29 _ _ (W.heap.size+2) 60 cv.toArray (0,0) _ rfl u5 Tryz.underlying60 rfl (by rw [za1];simp [hlv])) rfl ?_
      unfold zr0
      rw [← HPL.out,HAT.out]
      exact ⟨cv,rfl,valE.stays (fun i hi=>⟨Nat.lt_of_lt_of_le hi (Nat.le_trans HB.out.size hsz),oY.block i (Nat.lt_of_lt_of_le hi HB.out.size) (fun e=>by have:i < W.heap.size:=hi;omega)⟩) HV.out,zaf HB.out oY (by omega) HB.out.size⟩
     ·have q2:(key.toList == ky.toList)=false:=zi2 q
      have HA2:Hid (∀ i (h:i < l.length),i < j+1→l[i].key≠ky):=Lib.hid fun i h1 h2=>by
       by_cases e:i=j
       ·subst e
        rw [← HKY.out]
        exact q
       ·exact HA.out i h1 (by omega)
      clear q rv hov
      go_wp2_with fail
      go_roundg (gk - 1)
      case measure=>omega
      case rel=>exact ⟨j+1,by omega,by go_num,HA2,rfl⟩
    ·have HAT:=Lib.hid (zk4 fun i h=>HA.out i h (by have:=HM.out;omega))
     go_wp2_with (first
      |((with_reducible refine zag (.tmp 6) (.tmp 55) (W.heap.size+2) 60 60 _ [.int .i64 0,.bool false,.int .i64 0,.string ⟨#[]⟩,.string ⟨#[]⟩,.slice none 0 0] 6 u3 rfl ?_ ?_ ?_ ?_ za1 rfl hz1 ?_);rfl;rfl;rfl;rfl;intro wY oY u5))
     refine bodyPost_ret (results_cell_row (p:=6) (ty:=60) Tryz.results29 _ _ (W.heap.size+2) 60 _ (0,0) _ rfl u5 Tryz.underlying60 rfl za1) rfl ?_
     unfold zr0
     rw [← HPL.out,HAT.out]
     exact ⟨[.int .i64 0,.bool false,.int .i64 0,.string ⟨#[]⟩,.string ⟨#[]⟩,.slice none 0 0],rfl,⟨_,rfl,zgh,⟨_,_,rfl⟩⟩,zaf HB.out oY (by omega) HB.out.size⟩
  ·have hpi:zfm ns es k n=[]:=by unfold zfm;rw [if_neg hk6,if_neg hk7]
   have e6:(k == 6)=false:=by simpa using hk6
   have e7:(k == 7)=false:=by simpa using hk7
   rw [hpi,show zos [] ky=zrt from rfl]
   have u3:=HU.out.2
   clear hpi hk6 hk7 HN HE k2 u1
   go_enter Tryz.func29,Tryz.ntmps29
   go_upto_region 1 with fail
   rw [← H0.out]
   go_upto_region 8 with fail
   obtain ⟨wX,hwX⟩:∃ wX,wX=W0:=⟨_,rfl⟩
   rw [← hwX] at u3 k0 ⊢
   have HB:=Lib.hid (show Below W.heap.size W wX by rw [hwX];exact HB0.out)
   have hz:=zaa u3
   clear hwX k0
   go_wp2_with fail
   go_loopg [12] 0 (fun gg s12 wr=>gg=0∧s12=.int .i64 0∧wX=wr)
   case atStart=>exact ⟨rfl,rfl,rfl⟩
   case round=>
    obtain ⟨_,rfl,rfl⟩:=hrel
    go_wp2_with (first
     |((with_reducible refine zag (.tmp 6) (.tmp 55) (W.heap.size+2) 60 60 _ [.int .i64 0,.bool false,.int .i64 0,.string ⟨#[]⟩,.string ⟨#[]⟩,.slice none 0 0] 6 u3 rfl ?_ ?_ ?_ ?_ za1 rfl hz1 ?_);rfl;rfl;rfl;rfl;intro wY oY u5))
    exact bodyPost_ret (results_cell_row (p:=6) (ty:=60) Tryz.results29 _ _ (W.heap.size+2) 60 _ (0,0) _ rfl u5 Tryz.underlying60 rfl za1) rfl
     ⟨[.int .i64 0,.bool false,.int .i64 0,.string ⟨#[]⟩,.string ⟨#[]⟩,.slice none 0 0],rfl,⟨_,rfl,zgh,⟨_,_,rfl⟩⟩,zaf HB.out oY (by omega) HB.out.size⟩
end Go.Proofs.YtcfmenkigolnoaaGreatDoor

/- GEP -/
namespace Go.Proofs.YtcfmenkigolnoaaGreatDoor
open Go.RowKit
theorem zfn (g:zaw) (i:Int):i∈zez g↔i∈g.nodes.map zaq.id:=List.mem_mergeSort
theorem zet (g:zaw) (i:Int):i∈zd9 g↔i∈g.edges.map zas.id:=List.mem_mergeSort
section
variable {g:zaw} (hg:zep g)
include hg
theorem zeu (i:Int) (hi:i∈zez g):(zi3 g i).id=i:=by
 obtain ⟨a,ha,rfl⟩:=List.mem_map.1 ((zfn g i).1 hi)
 rw [zfg hg.dn ha]
 rfl
theorem zev (i:Int) (hi:i∈zd9 g):(zfz g i).id=i:=by
 obtain ⟨a,ha,rfl⟩:=List.mem_map.1 ((zet g i).1 hi)
 rw [zeo hg.de ha]
 rfl
theorem zsd:(za3 g).nodes.map zaq.id=zez g:=by
 unfold za3
 rw [List.map_map]
 exact (List.map_congr_left fun i hi=>zeu hg i hi).trans (List.map_id _)
theorem zse:(za3 g).edges.map zas.id=zd9 g:=by
 unfold za3
 rw [List.map_map]
 exact (List.map_congr_left fun i hi=>zev hg i hi).trans (List.map_id _)
theorem zwi (i:Int) (hi:i∈zd9 g):zhn g.edges i=(zfz g i).type:=by
 obtain ⟨a,ha,rfl⟩:=List.mem_map.1 ((zet g i).1 hi)
 rw [zeo hg.de ha,znu hg.de ha]
 rfl
theorem zwj (hw:∀ a∈g.edges,(Lit.int .i64 a.src).wf=true∧(Lit.int .i64 a.dst).wf=true) (w:Way) (i:Int) (hi:i∈zd9 g):zi0 g.edges w i=decide (w.1∈zdk (zfz g i).src (zfz g i).dst):=by
 obtain ⟨a,ha,rfl⟩:=List.mem_map.1 ((zet g i).1 hi)
 unfold zi0
 rw [zeo hg.de ha,zey hg.de ha]
 refine decide_eq_decide.2 ⟨fun h=>?_,fun h=>?_⟩
 ·obtain ⟨p,hp,e⟩:=List.mem_map.1 h
  have q:=zql (zh4 (hw a ha).1 (hw a ha).2 p hp)
  rw [e] at q
  rw [q]
  exact hp
 ·refine List.mem_map.2 ⟨w.1,h,?_⟩
  have q:=zql (zh4 (hw a ha).1 (hw a ha).2 w.1 h)
  exact Subtype.ext q
end
theorem zyg (s d n:Int):(n,(1:Int))∈zdk s d↔s=n:=by
 unfold zdk
 by_cases h:d=s <;> simp [h] <;> exact eq_comm
theorem ways_in (s d n:Int):(n,(-1:Int))∈zdk s d↔d=n:=by
 unfold zdk
 by_cases h:d=s <;> simp [h] <;> exact eq_comm
theorem zwk (s d n:Int):(n,(0:Int))∈zdk s d↔s=n∨d=n:=by
 unfold zdk
 by_cases h:d=s
 ·simp [h]
  exact eq_comm
 ·simp [h]
  constructor
  ·rintro (h | h)
   ·exact .inl h.symm
   ·exact .inr h.symm
  ·rintro (h | h)
   ·exact .inl h.symm
   ·exact .inr h.symm
end Go.Proofs.YtcfmenkigolnoaaGreatDoor

/- GEC -/
namespace Go.Proofs.YtcfmenkigolnoaaGreatDoor
open Go.RowKit
section
variable {g:zaw} (hg:zep g) (hw:∀ a∈g.edges,(Lit.int .i64 a.src).wf=true∧(Lit.int .i64 a.dst).wf=true)
include hg hw
end
end Go.Proofs.YtcfmenkigolnoaaGreatDoor

/- GMS -/
namespace Go.Proofs.YtcfmenkigolnoaaGreatDoor
open Go.RowKit
theorem zjj {α:Type} {id:α→Int} {f:Int→α}:{L:List Int}→(hf:∀ i∈L,id (f i)=i)→(x:Int)→(L.map f).find? (fun a=>decide (id a=x))=if x∈L then some (f x) else none
 | [],_,x=>by simp
 | a::L,hf,x=>by
   have h1:=hf a (by simp)
   have h2:=zjj (L:=L) (fun i hi=>hf i (List.mem_cons_of_mem _ hi)) x
   rw [List.map_cons,List.find?_cons,h1]
   by_cases q:a=x
   ·subst q
    simp
   ·rw [decide_eq_false q,h2]
    have e:x∈a::L↔x∈L:=by
     rw [List.mem_cons]
     exact ⟨fun h=>h.resolve_left (fun h=>q h.symm),.inr⟩
    by_cases m:x∈L
    ·rw [if_pos m,if_pos (e.2 m)]
    ·rw [if_neg m,if_neg fun h=>m (e.1 h)]
theorem zjk {α:Type} {id:α→Int} {f:Int→α} {L:List Int} (hf:∀ i∈L,id (f i)=i) (p:α→Bool) (q:Int→Bool) (hpq:∀ i∈L,p (f i)=q i):((L.map f).filter p).map id=L.filter q:=by
 rw [List.filter_map,List.map_map,List.filter_congr (q:=q) (fun i hi=>by simpa using hpq i hi)]
 conv=>rhs;rw [← List.map_id (L.filter q)]
 exact List.map_congr_left fun i hi=>hf i ((List.mem_filter.1 hi).1)
theorem zyh {l:List za2} {ky:ByteArray} {r:Val} (hd:(l.map fun p=>bl p.key).Nodup) (h:(∃ p∈l,p.key=ky∧r=p.v)∨((∀ p∈l,p.key≠ky)∧r=zrt)):zos l ky=r:=by
 rcases h with ⟨p,hp,hk,rfl⟩ | ⟨h,rfl⟩
 ·obtain ⟨j,hj,rfl⟩:=List.getElem_of_mem hp
  refine zk3 hj hk fun i hi hij e=>?_
  have e2:l[i]=l[j]:=zva hd (List.getElem_mem hi) (List.getElem_mem hj) (by rw [e,hk])
  have h3:(l.map fun p=>bl p.key)[i]'(by rw [List.length_map];exact hi)=(l.map fun p=>bl p.key)[j]'(by rw [List.length_map];exact hj):=by rw [List.getElem_map,List.getElem_map,e2]
  have:=(List.getElem_inj hd).1 h3
  omega
 ·exact zk4 fun i hi=>h _ (List.getElem_mem hi)
section
variable {g:zaw} (hg:zep g)
include hg
theorem zq4 (x:Int):zdn (za3 g).nodes x=zf0 g x:=by
 unfold zdn
 rw [show (za3 g).nodes=(zez g).map (zi3 g) from rfl,zjj (fun i hi=>zeu hg i hi)]
 by_cases hx:x∈zez g
 ·rw [if_pos hx]
  obtain ⟨a,ha,rfl⟩:=List.mem_map.1 ((zfn g x).1 hx)
  unfold zf0
  rw [zef hg.dn ha,zfg hg.dn ha]
  rfl
 ·rw [if_neg hx]
  unfold zf0
  rw [zdu fun h=>hx ((zfn g x).2 h)]
  rfl
theorem zq5 (x:Int):zdo (za3 g).edges x=zf1 g x:=by
 unfold zdo
 rw [show (za3 g).edges=(zd9 g).map (zfz g) from rfl,zjj (fun i hi=>zev hg i hi)]
 by_cases hx:x∈zd9 g
 ·rw [if_pos hx]
  obtain ⟨a,ha,rfl⟩:=List.mem_map.1 ((zet g x).1 hx)
  unfold zf1
  rw [zef hg.de ha,zeo hg.de ha]
  rfl
 ·rw [if_neg hx]
  unfold zf1
  rw [zdu fun h=>hx ((zet g x).2 h)]
  rfl
theorem zyi (x:Int):decide (x∈(za3 g).nodes.map zaq.id)=decide (x∈g.nodes.map zaq.id):=by
 rw [zsd hg]
 exact decide_eq_decide.2 (zfn g x)
theorem zyj (x:Int):decide (x∈(za3 g).edges.map zas.id)=decide (x∈g.edges.map zas.id):=by
 rw [zse hg]
 exact decide_eq_decide.2 (zet g x)
theorem zpx (ls:List ByteArray):labL (za3 g).nodes ls=zcp g ls:=by
 unfold labL zcp
 refine zjk (fun i hi=>zeu hg i hi) _ _ fun i hi=>?_
 obtain ⟨a,ha,rfl⟩:=List.mem_map.1 ((zfn g i).1 hi)
 unfold ze4 zff
 rw [zfg hg.dn ha,zex hg.dn ha]
 rfl
theorem zq6 (hw:∀ a∈g.edges,(Lit.int .i64 a.src).wf=true∧(Lit.int .i64 a.dst).wf=true) (x d:Int) (ts:List ByteArray) (h:(Lit.int .i64 x).wf=true∧(Lit.int .i64 d).wf=true):hopL (za3 g).edges x d ts=zgn g ⟨(x,d),h⟩ ts:=by
 unfold hopL zgn
 rw [List.filter_filter]
 refine zjk (fun i hi=>zev hg i hi) _ _ fun i hi=>?_
 rw [zwj hg hw _ i hi]
 unfold hopB zjt
 rw [zwi hg i hi,show ts.isEmpty=decide (ts.length=0) by cases ts <;> rfl,Bool.and_comm]
 congr 1
 unfold ze5
 rw [Bool.eq_iff_iff]
 simp only [Bool.or_eq_true,Bool.and_eq_true,decide_eq_true_eq]
 by_cases d1:d=1
 ·subst d1
  rw [zyg]
  simp
 by_cases d2:d=-1
 ·subst d2
  rw [ways_in]
  simp
 by_cases d3:d=0
 ·subst d3
  rw [zwk]
  simp
 ·constructor
  ·rintro ((⟨h,_⟩ | ⟨h,_⟩) | ⟨h,_⟩)
   ·exact absurd h d1
   ·exact absurd h d2
   ·exact absurd h d3
  ·intro h
   exfalso
   simp [zdk] at h
   omega
theorem zyk {k n:Int} {ky:ByteArray} {r:Val} (h:zqn g k n ky r):zos (zfm (za3 g).nodes (za3 g).edges k n) ky=r:=by
 obtain ⟨l,hl,hr⟩:=h
 have e:zfm (za3 g).nodes (za3 g).edges k n=l∧(l.map fun p=>bl p.key).Nodup:=by
  unfold zfm
  unfold zeh at hl
  rw [zq4 hg,zq5 hg]
  by_cases h6:k=6
  ·rw [if_pos h6] at hl ⊢
   rcases hl with ⟨b,hb,rfl,hp⟩ | ⟨h1,rfl⟩
   ·have hk:=(zcn (hg.nkeys b hb)).2.1
    refine ⟨?_,(hp.1.map _).nodup_iff.2 hk⟩
    unfold zf0
    rw [zef hg.dn hb,hp.eq hk]
    rfl
   ·refine ⟨?_,List.nodup_nil⟩
    unfold zf0
    rw [zdu fun h=>by obtain ⟨a,ha,e⟩:=List.mem_map.1 h;exact h1 a ha e]
    rfl
  ·rw [if_neg h6] at hl ⊢
   by_cases h7:k=7
   ·rw [if_pos h7] at hl ⊢
    rcases hl with ⟨b,hb,rfl,hp⟩ | ⟨h1,rfl⟩
    ·have hk:=(zcn ((hg.ekeys b hb).1)).2.1
     refine ⟨?_,(hp.1.map _).nodup_iff.2 hk⟩
     unfold zf1
     rw [zef hg.de hb,hp.eq hk]
     rfl
    ·refine ⟨?_,List.nodup_nil⟩
     unfold zf1
     rw [zdu fun h=>by obtain ⟨a,ha,e⟩:=List.mem_map.1 h;exact h1 a ha e]
     rfl
   ·rw [if_neg h7] at hl ⊢
    subst hl
    exact ⟨rfl,List.nodup_nil⟩
 rw [e.1]
 exact zyh e.2 hr
end
end Go.Proofs.YtcfmenkigolnoaaGreatDoor

/- GMT -/
namespace Go.Proofs.YtcfmenkigolnoaaGreatDoor
open Go.RowKit
def InsT (L0 L:List ByteArray) (i k:Nat):Prop:=∃ A x B R,L=A++x::(B++R)∧A.length=k∧A.length+B.length=i∧(A++B).Pairwise (fun a b=>leT a b=true)∧(∀ b∈B,leT x b=true)∧L.Perm L0
theorem InsT.start {L0 L:List ByteArray} {i:Nat} (hi:i < L.length) (hp:L.Perm L0) (hs:(L.take i).Pairwise (fun a b=>leT a b=true)):InsT L0 L i i:=by
 refine ⟨L.take i,L[i],[],L.drop (i+1),?_,by rw [List.length_take];omega,by rw [List.length_take,List.length_nil];omega,by rw [List.append_nil];exact hs,by simp,hp⟩
 rw [List.nil_append,← List.drop_eq_getElem_cons hi,List.take_append_drop]
theorem InsT.at_ {L0 L:List ByteArray} {i k:Nat} (h:InsT L0 L i k):k < L.length∧k≤i∧i < L.length:=by
 obtain ⟨A,x,B,R,rfl,h1,h2,_⟩:=h
 simp only [List.length_append,List.length_cons]
 omega
theorem InsT.step {L0 L:List ByteArray} {i m:Nat} {x y:ByteArray} (h:InsT L0 L i (m+1)) (hx:L[m+1]?=some x) (hy:L[m]?=some y) (hlt:bl x < bl y):InsT L0 ((L.set (m+1) y).set m x) i m:=by
 obtain ⟨A,x1,B,R,rfl,h1,h2,h3,h4,h5⟩:=h
 rcases List.eq_nil_or_concat A with rfl | ⟨A',y1,rfl⟩
 ·simp at h1
 ·rw [List.concat_eq_append] at*
  have hm:A'.length=m:=by simpa using h1
  subst hm
  have ex:x1=x:=by simpa [List.getElem?_append] using hx
  have ey:y1=y:=by simpa [List.getElem?_append] using hy
  subst ex ey
  refine ⟨A',x1,y1::B,R,?_,rfl,by simp at h2 ⊢;omega,by simpa using h3,?_,?_⟩
  ·simp [List.set_append]
  ·intro b hb
   rcases List.mem_cons.1 hb with rfl | hb
   ·simp only [leT,leB,decide_eq_true_eq]
    exact List.le_of_lt hlt
   ·exact h4 b hb
  ·have e:((A'++[y1]++x1::(B++R)).set (A'.length+1) y1).set A'.length x1=A'++x1::(y1::B++R):=by simp [List.set_append]
   rw [e]
   refine List.Perm.trans ?_ h5
   have:A'++[y1]++x1::(B++R)=A'++y1::x1::(B++R):=by simp
   rw [this]
   exact (List.Perm.swap _ _ _).append_left A'
theorem InsT.stop {L0 L:List ByteArray} {i k:Nat} (h:InsT L0 L i k) (hk:k=0∨∃ x y,L[k]?=some x∧L[k - 1]?=some y∧¬ bl x < bl y):L.Perm L0∧(L.take (i+1)).Pairwise (fun a b=>leT a b=true):=by
 obtain ⟨A,x1,B,R,rfl,h1,h2,h3,h4,h5⟩:=h
 refine ⟨h5,?_⟩
 have e:(A++x1::(B++R)).take (i+1)=A++x1::B:=by
  rw [show A++x1::(B++R)=(A++x1::B)++R by simp]
  exact List.take_left' (by simp;omega)
 rw [e]
 rw [List.pairwise_append] at h3 ⊢
 obtain ⟨s1,s2,s3⟩:=h3
 refine ⟨s1,List.pairwise_cons.2 ⟨h4,s2⟩,fun a ha b hb=>?_⟩
 rcases List.mem_cons.1 hb with rfl | hb
 ·rcases hk with rfl | ⟨x,y,hx,hy,hxy⟩
  ·rw [List.length_eq_zero_iff.1 h1] at ha
   simp at ha
  ·rcases List.eq_nil_or_concat A with rfl | ⟨A',y1,rfl⟩
   ·simp at ha
   ·rw [List.concat_eq_append] at*
    have hm:k=A'.length+1:=by simpa using h1.symm
    subst hm
    have ex:b=x:=by simpa [List.getElem?_append] using hx
    have ey:y1=y:=by simpa [List.getElem?_append] using hy
    subst ex ey
    have hyx:leT y1 b=true:=by
     simp only [leT,leB,decide_eq_true_eq]
     exact List.not_lt.1 hxy
    rcases List.mem_append.1 ha with ha | ha
    ·have:=(List.pairwise_append.1 s1).2.2 a ha y1 (by simp)
     exact zhi _ _ _ this hyx
    ·rw [List.mem_singleton.1 ha]
     exact hyx
 ·exact s3 a ha b hb
theorem zwl {L L0:List ByteArray} (hp:L.Perm L0) (hs:L.Pairwise (fun a b=>leT a b=true)):L=sortS L0:=by
 have h:L.map bl=(L0.map bl).mergeSort leB:=by
  refine List.Perm.eq_of_pairwise (le:=fun x y=>leB x y=true) (fun a b _ _ h1 h2=>zj4 a b h1 h2) ?_ (List.pairwise_mergeSort zhi zj3 _) ((hp.map bl).trans (List.mergeSort_perm _ leB).symm)
  rw [List.pairwise_map]
  exact hs
 unfold sortS
 rw [← h,List.map_map]
 conv=>lhs;rw [← List.map_id L]
 exact List.map_congr_left fun x _=>(ziq x).symm
def zde (w:World) (g:Nat) (L:List ByteArray) (T:List Value):Prop:=w.heap[g]?=some (.cells (L.map Value.string++T).toArray 9 (0,0))
theorem zde.cell {w:World} {g:Nat} {L:List ByteArray} {T:List Value} (h:zde w g L T) {k:Nat} {x:ByteArray} (hx:L[k]?=some x):w.cell? ⟨g,k,none⟩=some (.string x):=by
 refine zac h k ?_
 have hk:=(List.getElem?_eq_some_iff.1 hx).1
 rw [List.getElem?_toArray,List.getElem?_append_left (by rw [List.length_map];exact hk),List.getElem?_map,hx]
 rfl
theorem zde.set {w:World} {g:Nat} {L:List ByteArray} {T:List Value} (h:zde w g L T) (k:Nat) (x:ByteArray) (hk:k < L.length):zde (w.setCell ⟨g,k,none⟩ (.string x)) g (L.set k x) T:=by
 have h2:=zbe h k (.string x)
 unfold zde
 rw [h2]
 congr 2
 rw [List.setIfInBounds_toArray,List.set_append_left _ _ (by rw [List.length_map];exact hk),List.map_set]
set_option maxHeartbeats 6400000 in
set_option maxRecDepth 20000 in
theorem zot (L0:List ByteArray) (T:List Value) (g cap:Nat) (W:World) (h:zde W g L0 T) (hn:L0.length≤2097152) (h0:1≤L0.length):
 Calls Tryz.prog 43 #[.slice (some ⟨g,0,none⟩) L0.length cap] W fun e w'=>e=.returned (.tuple #[])∧zde w' g (sortS L0) T∧Only g W w':=by
 obtain ⟨n,hl⟩:∃ n,n=L0.length:=⟨_,rfl⟩
 rw [← hl] at hn h0 ⊢
 have HL:=Lib.hid hl
 have HT:=Lib.hid h
 clear h hl
 go_enter Tryz.func43,Tryz.ntmps43
 go_wp2_with fail
 go_loopg [2] n (fun gg s2 wr=>∃ i:Nat,i+gg=n+1∧1≤i∧s2=.int .i64 i∧∃ L,Hid (zde wr g L T∧L.Perm L0∧(L.take i).Pairwise (fun a b=>leT a b=true))∧Hid (Only g W wr))
 case atStart=>exact ⟨1,by omega,by omega,rfl,L0,Lib.hid ⟨HT.out,List.Perm.refl _,by
  match L0 with
  | []=>simp
  | a::r=>simp⟩,Lib.hid (Only.refl _ _)⟩
 case round=>
  obtain ⟨i,hig,hi1,rfl,L,HA,HO⟩:=hrel
  have HLN:Hid (L.length=n):=Lib.hid (by rw [HA.out.2.1.length_eq,HL.out])
  by_cases hi:(i:Int) < n
  ·have HS:Hid (InsT L0 L i i):=Lib.hid (InsT.start (by have:=HLN.out;omega) HA.out.2.1 HA.out.2.2)
   have HTR:=Lib.hid HA.out.1
   clear HA HLN
   go_wp2_with fail
   go_loopg [3] i (fun gg s3 wr2=>∃ k:Nat,(k≤gg∧gg≤k)∧s3=.int .i64 k∧∃ L,Hid (InsT L0 L i k)∧Hid (zde wr2 g L T)∧Hid (Only g W wr2))
   case atStart=>exact ⟨i,⟨Nat.le_refl _,Nat.le_refl _⟩,rfl,L,HS,HTR,HO⟩
   case round=>
    clear HS HTR HO
    obtain ⟨k,hkg,rfl,L,HS,HTR,HO⟩:=hrel
    have hat:=HS.out.at_
    have hLn:L.length=n:=by
     obtain ⟨_,_,_,_,_,_,_,_,_,hp⟩:=HS.out
     rw [hp.length_eq,HL.out]
    by_cases hk:k=0
    ·subst hk
     have HE:=Lib.hid (HS.out.stop (.inl rfl))
     clear hat hLn HS
     go_upto_region 4 with fail
     go_quiet (fail)
     have HO9:Hid (Only g W (wr.drewN nq)):=Lib.hid (HO.out.drewN nq)
     have HTR9:Hid (zde (wr.drewN nq) g L T):=HTR
     clear HO HTR
     generalize wr.drewN nq=w9 at*
     go_wp2_with fail
     go_roundg (n+1 - (i+1))
     case measure=>omega
     case rel=>exact ⟨i+1,by omega,by omega,by go_num,L,Lib.hid ⟨HTR9.out,HE.out⟩,HO9⟩
    ·obtain ⟨m,rfl⟩:∃ m,k=m+1:=⟨k - 1,by omega⟩
     obtain ⟨x,hx⟩:∃ x,L[m+1]?=some x:=⟨_,List.getElem?_eq_getElem hat.1⟩
     obtain ⟨y,hy⟩:∃ y,L[m]?=some y:=⟨_,List.getElem?_eq_getElem (by omega)⟩
     have cx:wr.cell? ⟨g,m+1,none⟩=some (.string x):=HTR.out.cell hx
     have hpos:decide ((0:Int) < ((m+1:Nat):Int))=true:=decide_eq_true (by omega)
     have hsub:(((m+1:Nat):Int) - 1)=(m:Int):=by omega
     have cy:=HTR.out.cell hy
     have fr:wr.frozen? ⟨g,m+1,none⟩=false:=zbo HTR.out _
     have hmn:m+1 < n:=by omega
     have hmi:((m:Int)+1) < n:=by omega
     by_cases hlt:bl x < bl y
     ·have hb:Op.bytesLess x.toList y.toList=true:=by rw [bytesLess_eq];simpa [bl,Lib.toList_data] using hlt
      have HS2:=Lib.hid (HS.out.step hx hy hlt)
      have HN:=Lib.hid (And.intro hat.1 (show m < (L.set (m+1) y).length by rw [List.length_set];omega))
      clear hx hy hat hLn HS hlt
      go_upto_region 4 with fail
      go_quiet (fail)
      have HO9:Hid (Only g W (wr.drewN nq)):=Lib.hid (HO.out.drewN nq)
      have HTR9:Hid (zde (wr.drewN nq) g L T):=HTR
      replace cx:(wr.drewN nq).cell? _=_:=cx
      replace cy:(wr.drewN nq).cell? _=_:=cy
      replace fr:(wr.drewN nq).frozen? _=_:=fr
      clear HO HTR
      generalize wr.drewN nq=w9 at*
      go_upto_region 8 with fail
      have HTA:=Lib.hid (HTR9.out.set (m+1) y HN.out.1)
      have HOA:=Lib.hid (HO9.out.setCell (m+1) none (.string y))
      have cy2:=HTA.out.cell (k:=m) (by rw [List.getElem?_set];rw [if_neg (by omega)];exact List.getElem?_eq_getElem (by have:=HN.out.1;omega))
      have fr2:(w9.setCell ⟨g,m+1,none⟩ (.string y)).frozen? ⟨g,m,none⟩=false:=zbo HTA.out _
      clear HTR9 HO9 cx cy fr
      generalize (w9.setCell ⟨g,m+1,none⟩ (.string y))=wA at*
      go_wp2_with fail
      go_roundg (gk - 1)
      case measure=>omega
      case rel=>exact ⟨m,by omega,by go_num,_,HS2,Lib.hid (HTA.out.set m x HN.out.2),Lib.hid (HOA.out.setCell m none (.string x))⟩
     ·have hb:Op.bytesLess x.toList y.toList=false:=by rw [bytesLess_eq];simpa [bl,Lib.toList_data] using hlt
      have HE:=Lib.hid (HS.out.stop (.inr ⟨x,y,hx,hy,hlt⟩))
      clear hx hy hat hLn HS hlt
      go_upto_region 4 with fail
      go_quiet (fail)
      have HO9:Hid (Only g W (wr.drewN nq)):=Lib.hid (HO.out.drewN nq)
      have HTR9:Hid (zde (wr.drewN nq) g L T):=HTR
      clear HO HTR cx cy fr
      generalize wr.drewN nq=w9 at*
      go_wp2_with fail
      go_roundg (n+1 - (i+1))
      case measure=>omega
      case rel=>exact ⟨i+1,by omega,by omega,by go_num,L,Lib.hid ⟨HTR9.out,HE.out⟩,HO9⟩
  ·have HZ:Hid (L=sortS L0):=Lib.hid (zwl HA.out.2.1 (by
    have:=HA.out.2.2
    rwa [List.take_of_length_le (by have:=HLN.out;omega)] at this))
   go_wp2_with fail
   go_end0
   exact ⟨rfl,by rw [← HZ.out];exact HA.out.1,HO.out⟩
end Go.Proofs.YtcfmenkigolnoaaGreatDoor

/- HB -/
namespace Go.Proofs.YtcfmenkigolnoaaGreatDoor
open Go.RowKit
theorem zcw {w w':World} {g:Nat} (h:w'.heap[g]?=w.heap[g]?) {o:Nat} {cs:List Value} (r:w.rangeAt g o cs):w'.rangeAt g o cs:=fun j v hv=>(World.cell?_of_block (a:=⟨g,o+j,none⟩) h).trans (r j v hv)
theorem zhd {w w':World} {g:Nat} (h:w'.heap[g]?=w.heap[g]?) {o n:Nat} (r:w.there g o n):w'.there g o n:=fun j hj=>
 ⟨by rw [World.cell?_of_block (a:=⟨g,o+j,none⟩) h];exact (r j hj).1,by rw [World.frozen?_of_block (a:=⟨g,o+j,none⟩) h];exact (r j hj).2⟩
mutual
def OneT (w:World) (g off s e:Nat):Val→Prop
 | .mk k b n t x l=>∃ L,w.rangeAt g off [.int .i64 k,.bool b,.int .i64 n,.string t,.string x,L]∧w.there g off 6∧Fine n t x l.length∧zcx w s e L l
def zcx (w:World) (lo hi:Nat) (L:Value):List Val→Prop
 | []=>∃ p cap,L=.slice p 0 cap
 | v::r=>∃ g off cap s e,L=.slice (some ⟨g,off,none⟩) (r.length+1) cap∧lo≤g∧g < hi∧lo≤s∧s≤e∧e≤hi∧¬ (s≤g∧g < e)∧OneT w g off s e v∧zb2 w g (off+6) e hi r
def zb2 (w:World) (g off lo hi:Nat):List Val→Prop
 | []=>True
 | v::r=>∃ s e,lo≤s∧s≤e∧e≤hi∧¬ (s≤g∧g < e)∧OneT w g off s e v∧zb2 w g (off+6) e hi r
end
mutual
theorem OneT.held {w:World} {g off s e:Nat}:(v:Val)→OneT w g off s e v→zbf w g off v
 | .mk k b n t x l,h=>by
   unfold OneT at h
   unfold zbf
   obtain ⟨L,r,_,hf,hl⟩:=h
   exact ⟨r 0 _ rfl,r 1 _ rfl,r 2 _ rfl,r 3 _ rfl,r 4 _ rfl,hf,L,r 5 _ rfl,zcx.held l hl⟩
theorem zcx.held {w:World} {lo hi:Nat} {L:Value}:(l:List Val)→zcx w lo hi L l→Held w L l
 | [],h=>by
   unfold zcx at h
   unfold Held
   exact h
 | v::r,h=>by
   unfold zcx at h
   unfold Held
   obtain ⟨g,off,cap,s,e,rfl,_,_,_,_,_,_,hv,hr⟩:=h
   exact ⟨g,off,cap,rfl,OneT.held v hv,zb2.held r hr⟩
theorem zb2.held {w:World} {g off lo hi:Nat}:(l:List Val)→zb2 w g off lo hi l→zb8 w g off l
 | [],_=>by unfold zb8;trivial
 | v::r,h=>by
   unfold zb2 at h
   unfold zb8
   obtain ⟨s,e,_,_,_,_,hv,hr⟩:=h
   exact ⟨OneT.held v hv,zb2.held r hr⟩
end
structure Keep (w w':World) (g off lo hi:Nat):Prop where
 rng:∀ o cs,off≤o→w.rangeAt g o cs→w'.rangeAt g o cs
 thr:∀ o n,off≤o→w.there g o n→w'.there g o n
 blk:∀ i,lo≤i→i < hi→i≠g→w'.heap[i]?=w.heap[i]?
theorem Keep.more {w w':World} {g off lo hi off2 lo2 hi2:Nat} (h:Keep w w' g off lo hi) (h1:off≤off2) (h2:lo≤lo2) (h3:hi2≤hi):Keep w w' g off2 lo2 hi2:=
 ⟨fun o cs ho=>h.rng o cs (by omega),fun o n ho=>h.thr o n (by omega),fun i a b c=>h.blk i (by omega) (by omega) c⟩
theorem Keep.heap {w w':World} {g off lo hi:Nat} (hg:w'.heap[g]?=w.heap[g]?) (h:∀ i,lo≤i→i < hi→w'.heap[i]?=w.heap[i]?):Keep w w' g off lo hi:=
 ⟨fun _ _ _ r=>zcw hg r,fun _ _ _ r=>zhd hg r,fun i a b _=>h i a b⟩
mutual
theorem OneT.keep {w w':World} {g off s e:Nat} (h:Keep w w' g off s e) (hn:¬ (s≤g∧g < e)):(v:Val)→OneT w g off s e v→OneT w' g off s e v
 | .mk k b n t x l,hv=>by
   unfold OneT at hv ⊢
   obtain ⟨L,r,th,hf,hl⟩:=hv
   exact ⟨L,h.rng _ _ (Nat.le_refl _) r,h.thr _ _ (Nat.le_refl _) th,hf,zcx.stays (fun i a b=>h.blk i a b (fun q=>hn ⟨q ▸ a,q ▸ b⟩)) l hl⟩
theorem zcx.stays {w w':World} {lo hi:Nat} {L:Value} (h:∀ i,lo≤i→i < hi→w'.heap[i]?=w.heap[i]?):(l:List Val)→zcx w lo hi L l→zcx w' lo hi L l
 | [],hl=>by
   unfold zcx at hl ⊢
   exact hl
 | v::r,hl=>by
   unfold zcx at hl ⊢
   obtain ⟨g,off,cap,s,e,rfl,h1,h2,h3,h4,h5,h6,hv,hr⟩:=hl
   have k:Keep w w' g off lo hi:=Keep.heap (h g h1 h2) h
   exact ⟨g,off,cap,s,e,rfl,h1,h2,h3,h4,h5,h6,OneT.keep (k.more (Nat.le_refl _) h3 h5) h6 v hv,zb2.keep (k.more (by omega) (by omega) (Nat.le_refl _)) r hr⟩
theorem zb2.keep {w w':World} {g off lo hi:Nat} (h:Keep w w' g off lo hi):(l:List Val)→zb2 w g off lo hi l→zb2 w' g off lo hi l
 | [],_=>by unfold zb2;trivial
 | v::r,hl=>by
   unfold zb2 at hl ⊢
   obtain ⟨s,e,h3,h4,h5,h6,hv,hr⟩:=hl
   exact ⟨s,e,h3,h4,h5,h6,OneT.keep (h.more (Nat.le_refl _) h3 h5) h6 v hv,zb2.keep (h.more (by omega) (by omega) (Nat.le_refl _)) r hr⟩
end
theorem zb2.wide {w:World} {g off lo hi lo2:Nat} (h:lo2≤lo):(l:List Val)→zb2 w g off lo hi l→zb2 w g off lo2 hi l
 | [],_=>by unfold zb2;trivial
 | v::r,hl=>by
   unfold zb2 at hl ⊢
   obtain ⟨s,e,h3,hl⟩:=hl
   exact ⟨s,e,by omega,hl⟩
theorem zb2.high {w:World} {g:Nat}:(l:List Val)→(off lo hi hi2:Nat)→hi≤hi2→zb2 w g off lo hi l→zb2 w g off lo hi2 l
 | [],_,_,_,_,_,_=>by unfold zb2;trivial
 | v::r,off,lo,hi,hi2,h,hl=>by
   unfold zb2 at hl ⊢
   obtain ⟨s,e,h3,h4,h5,h6,hv,hr⟩:=hl
   exact ⟨s,e,h3,h4,by omega,h6,hv,zb2.high r _ _ _ _ h hr⟩
theorem zcx.wide {w:World} {lo hi lo2 hi2:Nat} {L:Value} (h:lo2≤lo) (h2:hi≤hi2):(l:List Val)→zcx w lo hi L l→zcx w lo2 hi2 L l
 | [],hl=>by
   unfold zcx at hl ⊢
   exact hl
 | v::r,hl=>by
   unfold zcx at hl ⊢
   obtain ⟨g,off,cap,s,e,rfl,h1,h2',h3,h4,h5,h6,hv,hr⟩:=hl
   exact ⟨g,off,cap,s,e,rfl,by omega,by omega,by omega,h4,by omega,h6,hv,zb2.high r _ _ _ _ h2 hr⟩
theorem zcx.form {w:World} {lo hi:Nat} {p:Option Addr} {n cap:Nat} {v:Val} {r:List Val} (h:zcx w lo hi (.slice p n cap) (v::r)):∃ g off,p=some ⟨g,off,none⟩∧n=r.length+1∧lo≤g∧g < hi∧zb2 w g off lo hi (v::r):=by
 unfold zcx at h
 obtain ⟨g,off,cap',s,e,q,h1,h2,h3,h4,h5,h6,hv,hr⟩:=h
 injection q with q1 q2 q3
 unfold zb2
 exact ⟨g,off,q1,q2,h1,h2,s,e,h3,h4,h5,h6,hv,hr⟩
theorem zcx.mk {w:World} {lo hi:Nat} {g off cap:Nat} {l:List Val} (h1:lo≤g) (h2:g < hi) (h:zb2 w g off lo hi l):zcx w lo hi (.slice (some ⟨g,off,none⟩) l.length cap) l:=by
 cases l with
 | nil=>unfold zcx;exact ⟨_,_,rfl⟩
 | cons v r=>
   unfold zb2 at h
   unfold zcx
   obtain ⟨s,e,h3,h4,h5,h6,hv,hr⟩:=h
   exact ⟨g,off,cap,s,e,rfl,h1,h2,h3,h4,h5,h6,hv,hr⟩
def zdi (w:World) (own:Option Nat) (lo hi:Nat):List Value→List Val→Prop
 | xs,[]=>xs=[]
 | xs,.mk k b n t x q::r=>∃ L ys s e,xs=.int .i64 k::.bool b::.int .i64 n::.string t::.string x::L::ys∧Fine n t x q.length∧lo≤s∧s≤e∧e≤hi∧(∀ g,own=some g→¬ (s≤g∧g < e))∧zcx w s e L q∧zdi w own e hi ys r
theorem zdi.stays {w w':World} {own:Option Nat} {hi:Nat}:(l:List Val)→(lo:Nat)→{xs:List Value}→(∀ i,lo≤i→i < hi→own≠some i→w'.heap[i]?=w.heap[i]?)→zdi w own lo hi xs l→zdi w' own lo hi xs l
 | [],_,_,_,h=>by unfold zdi at h ⊢;exact h
 | .mk k b n t x q::l,lo,_,hs,h=>by
   unfold zdi at h ⊢
   obtain ⟨L,ys,s,e,rfl,hf,g1,g2,g3,g4,hq,hr⟩:=h
   exact ⟨L,ys,s,e,rfl,hf,g1,g2,g3,g4,hq.stays (fun i a b=>hs i (by omega) (by omega) (fun o=>g4 i o ⟨a,b⟩)) q,zdi.stays l e (fun i a b=>hs i (by omega) b) hr⟩
theorem zdi.high {w:World} {own:Option Nat} {hi hi2:Nat} (h2:hi≤hi2):(l:List Val)→(lo:Nat)→{xs:List Value}→zdi w own lo hi xs l→zdi w own lo hi2 xs l
 | [],_,_,h=>by unfold zdi at h ⊢;exact h
 | .mk k b n t x q::l,lo,_,h=>by
   unfold zdi at h ⊢
   obtain ⟨L,ys,s,e,rfl,hf,g1,g2,g3,g4,hq,hr⟩:=h
   exact ⟨L,ys,s,e,rfl,hf,g1,g2,by omega,g4,hq,zdi.high h2 l e hr⟩
theorem zdi.rest {w:World} {g hi:Nat}:(l:List Val)→(off lo:Nat)→{xs:List Value}→zdi w (some g) lo hi xs l→w.rangeAt g off xs→w.there g off (l.length*6)→zb2 w g off lo hi l
 | [],_,_,_,_,_,_=>by unfold zb2;trivial
 | .mk k b n t x q::l,off,lo,_,h,hr,ht=>by
   unfold zdi at h
   obtain ⟨L,ys,s,e,rfl,hf,g1,g2,g3,g4,hq,hl⟩:=h
   unfold zb2
   refine ⟨s,e,g1,g2,g3,g4 g rfl,?_,zdi.rest l (off+6) e hl (fun j v hv=>?_) (fun j hj=>?_)⟩
   ·unfold OneT
    refine ⟨L,fun j v hv=>hr j v ?_,fun j hj=>ht j (by simp only [List.length_cons];omega),hf,hq⟩
    match j,hv with
    | 0,hv=>exact hv
    | 1,hv=>exact hv
    | 2,hv=>exact hv
    | 3,hv=>exact hv
    | 4,hv=>exact hv
    | 5,hv=>exact hv
    | j+6,hv=>simp at hv
   ·have:=hr (j+6) v hv
    rwa [show off+(j+6)=off+6+j by omega] at this
   ·have:=ht (j+6) (by simp only [List.length_cons];omega)
    rwa [show off+(j+6)=off+6+j by omega] at this
end Go.Proofs.YtcfmenkigolnoaaGreatDoor

/- HC -/
namespace Go.Proofs.YtcfmenkigolnoaaGreatDoor
open Go.RowKit
structure AccT (w:World) (l:List Val) (A:Value) (wr:World):Prop where
 own:∃ xs hi,wr.ownsRow w.heap.size 60 6 A l.length xs∧zdi wr A.ownBlock w.heap.size hi xs l∧w.heap.size≤hi∧hi≤wr.heap.size
 bel:Below w.heap.size w wr
end Go.Proofs.YtcfmenkigolnoaaGreatDoor
