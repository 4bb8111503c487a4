/- Texts of one kind, one behind the other: each says ahead of itself what it shows. -/
import Derived.Test.YtcfmenkigolnoaaGreatDoorVav
import Derived.Test.YtcfmenkigolnoaaGreatDoorVam
import Derived.Test.YtcfmenkigolnoaaGreatDoorVap
/- GMA -/
namespace Go.Proofs.YtcfmenkigolnoaaGreatDoor
open Go.RowKit
theorem zon {w:World} {P:Nat→Prop} {v:Value} {l:List ByteArray} (h:zaj zbk w P v l):∀ t∈l,t.size≤2097152:=by
 intro t ht
 obtain ⟨j,hj,rfl⟩:=List.getElem_of_mem ht
 obtain ⟨_,_,_,c,_,_,hc,_⟩:=h.at_ j hj
 exact hc.2
set_option maxHeartbeats 12800000 in
set_option maxRecDepth 20000 in
theorem zsc (g:zaw) (vn ve:Value) (W:World) (hn:zaj zhc W (Old W) vn g.nodes) (he:zaj za0 W (Old W) ve g.edges) (hn1:g.nodes.length≤2097152) (hn2:g.edges.length≤2097152):
 Calls Tryz.prog 14 #[.agg #[vn,ve]] W fun e w'=>e=.returned (.bool (zd5 g))∧Below W.heap.size W w':=by
 obtain ⟨p1,c1,rfl⟩:=hn.slice
 obtain ⟨p2,c2,rfl⟩:=he.slice
 obtain ⟨n1,hl1⟩:∃ n,n=g.nodes.length:=⟨_,rfl⟩
 obtain ⟨n2,hl2⟩:∃ n,n=g.edges.length:=⟨_,rfl⟩
 obtain ⟨r0,hr0⟩:∃ r,r=zd5 g:=⟨_,rfl⟩
 rw [← hr0,← hl1,← hl2]
 rw [← hl1] at hn hn1
 rw [← hl2] at he hn2
 have b0:=zar W (.cells #[.slice p1 n1 c1,.slice p2 n2 c2] 25)
 have u1:(W.alloc (.cells #[.slice p1 n1 c1,.slice p2 n2 c2] 25)).heap[W.heap.size]?=some (.cells #[.slice p1 n1 c1,.slice p2 n2 c2] 25 (0,0)):=zae _ _ rfl
 obtain ⟨W0,hW0⟩:∃ W0,W0=W.alloc (.cells #[.slice p1 n1 c1,.slice p2 n2 c2] 25):=⟨_,rfl⟩
 rw [← hW0] at u1 b0
 have H0:=Lib.hid hW0
 have H1:=Lib.hid (hn.stays (zad b0))
 have H2:=Lib.hid (he.stays (zad b0))
 have HL:=Lib.hid (And.intro hl1 hl2)
 have HR:=Lib.hid hr0
 have HB0:=Lib.hid b0
 have HU:=Lib.hid u1
 have k0:=zac u1 0 rfl
 have k1:=zac u1 1 rfl
 clear hW0 hn he hl1 hl2 hr0 b0 u1
 by_cases hb1:n1≤131072
 ·have hd1:decide ((131072:Int) < n1)=false:=decide_eq_false (by omega)
  by_cases hb2:n2≤65536
  ·have hd2:decide ((65536:Int) < n2)=false:=decide_eq_false (by omega)
   have HBD:=Lib.hid (And.intro hb1 hb2)
   clear hb1 hb2
   go_enter Tryz.func14,Tryz.ntmps14
   go_upto_region 1 with fail
   rw [← H0.out]
   go_wp2_with fail
   clear hd1 hd2 k0 k1
   go_loopg [3] n1 (fun gg s3 wr=>∃ j:Nat,j+gg=n1∧s3=.int .i64 j∧Hid (allN zf4 zaq.id (g.nodes.take j)=true)∧Hid (Below W0.heap.size W0 wr))
   case atStart=>exact ⟨0,by omega,rfl,Lib.hid (by simp [allN]),Lib.hid (Below.refl _ _)⟩
   case round=>
    obtain ⟨j,hjg,rfl,HA,HB⟩:=hrel
    have u:=(HB.out.block _ (zaa HU.out)).trans HU.out
    have k0:=zac u 0 rfl
    by_cases hj:(j:Int) < n1
    ·have hj1:j < g.nodes.length:=by have:=HL.out.1;omega
     obtain ⟨gN,o,cp1,cc1,e1,hg1,hr1,hra1⟩:=(H1.out.stays (zad HB.out)).at_ j hj1
     injection e1 with e11 e12 e13
     subst e11
     obtain ⟨a,ha⟩:∃ a,a=g.nodes[j]:=⟨_,rfl⟩
     rw [← ha] at hr1
     obtain ⟨id,ls,ps⟩:=a
     obtain ⟨⟨lv,pv,rfl,hwf,hq1,hq2,hsl,hsp⟩,hcp⟩:=hr1
     obtain ⟨lp,lc,rfl⟩:=hsl.slice
     obtain ⟨pp,pc,rfl⟩:=hsp.slice
     have hcap:=(hcp _ rfl).1
     have hra:wr.rangeAt gN (o+j*3) [.int .i64 id,.slice lp ls.length lc,.slice pp ps.length pc]:=hra1
     obtain ⟨m1,hm1⟩:∃ m,m=ls.length:=⟨_,rfl⟩
     obtain ⟨m2,hm2⟩:∃ m,m=ps.length:=⟨_,rfl⟩
     have hat:(g.nodes.map zaq.id)[j]?=some id:=by rw [List.getElem?_map,List.getElem?_eq_getElem hj1,← ha];rfl
     have HNE:Hid (∀ W',Below wr.heap.size wr W'→Calls Tryz.prog 39 #[.agg #[.slice (some ⟨gN,o,none⟩) n1 c1,.slice p2 n2 c2],.int .i64 id] W' fun e w'=>∃ r,e=.returned (.int .i64 r)∧zee (g.nodes.map zaq.id) id r∧Below W'.heap.size W' w'):=Lib.hid fun W' b=>zji g.nodes _ _ id W' (zes ((H1.out.stays (zad HB.out)).stays (zad b))) ⟨_,_,_,rfl⟩ (by have:=HL.out.1;omega)
     have HLB0:Hid (∀ W',Below wr.heap.size wr W'→Calls Tryz.prog 40 #[.slice lp m1 lc] W' fun e w'=>e=.returned (.bool (zc5 ls))∧Below W'.heap.size W' w'):=Lib.hid fun W' b=>by
      rw [hm1]
      exact zps _ ls W' (zbs (hsl.stays (zad b))) hcap (zon hsl) hq1
     have HPR0:Hid (∀ W',Below wr.heap.size wr W'→Calls Tryz.prog 41 #[.slice pp m2 pc] W' fun e w'=>e=.returned (.bool (zce ps))∧Below W'.heap.size W' w'):=Lib.hid fun W' b=>by
      rw [hm2]
      exact zkm _ ps W' (hsp.stays (zad b)) hq2
     have hNP:zf4 ⟨id,ls,ps⟩=((decide (0≤id) && zc5 ls) && zce ps):=rfl
     have HNO0:Hid ((((decide (0≤id) && zc5 ls) && zce ps) && !decide (id∈(g.nodes.map zaq.id).take j))=false→r0=false):=Lib.hid fun h=>by
      have h2:allN zf4 zaq.id g.nodes=false:=zwd hj1 (by rw [← ha,hNP];exact h)
      rw [HR.out,zfk,h2,Bool.false_and,Bool.and_false]
     have HYE:Hid ((((decide (0≤id) && zc5 ls) && zce ps) && !decide (id∈(g.nodes.map zaq.id).take j))=true→allN zf4 zaq.id (g.nodes.take (j+1))=true):=Lib.hid fun h=>by
      rw [zjh zf4 zaq.id g.nodes j hj1,HA.out,← ha,hNP]
      exact h
     obtain ⟨r1,hr1⟩:∃ r1,r1=zc5 ls:=⟨_,rfl⟩
     obtain ⟨r2,hr2⟩:∃ r2,r2=zce ps:=⟨_,rfl⟩
     rw [← hm1,← hm2] at hra
     rw [← hr1] at HLB0 HNO0 HYE
     rw [← hr2] at HPR0 HNO0 HYE
     have HAT:=Lib.hid hat
     clear hNP hat hra1 e12 e13 ha hsl hsp hcp hcap hq1 hq2 hm1 hm2 hr1 hr2 HA
     go_upto_region 7 with (first
      |((with_reducible refine zap (.tmp 28) gN (o+j*3) 38 [.int .i64 id,.slice lp m1 lc,.slice pp m2 pc] 3 _ hra rfl Tryz.underlying38 rfl zam ?_ ?_ ?_ ?_);rfl;rfl;rfl)
      |((with_reducible refine zag (.tmp 4) (.tmp 29) wr.heap.size 38 38 _ [.int .i64 id,.slice lp m1 lc,.slice pp m2 pc] 3 (zae _ _ rfl) rfl ?_ ?_ ?_ ?_ zam rfl (by simp [Value.oneCell']) ?_);rfl;rfl;rfl;rfl;intro wX oX hx))
     have bX:Below wr.heap.size wr wX:=zaf (zar wr _) oX (Nat.le_refl _) (by simp)
     obtain ⟨xb,hxb⟩:∃ xb,xb=wr.heap.size:=⟨_,rfl⟩
     rw [← hxb] at hx ⊢
     have uX:=(bX.block _ (zaa u)).trans u
     have hBX:=zab HB.out bX HB.out.size
     have HNO:=Lib.hid (HNE.out wX bX)
     have HLB:Hid (∀ W',Below wX.heap.size wX W'→_):=Lib.hid fun W' b=>HLB0.out W' (zab bX b bX.size)
     have HPR:Hid (∀ W',Below wX.heap.size wX W'→_):=Lib.hid fun W' b=>HPR0.out W' (zab bX b bX.size)
     have d0:=zac hx 0 rfl
     have d1:=zac hx 1 rfl
     have d2:=zac hx 2 rfl
     clear hra u k0 oX bX hx hxb HNE HLB0 HPR0
     have HBX:=Lib.hid hBX
     by_cases hid:0≤id
     ·have hidd:decide (id < 0)=false:=decide_eq_false (by omega)
      by_cases hdup:id∈(g.nodes.map zaq.id).take j
      ·obtain rfl:r0=false:=HNO0.out (by rw [decide_eq_true hdup];simp)
       have HRJ:Hid (∀ r,zee (g.nodes.map zaq.id) id r→(r == (j:Int))=false):=Lib.hid fun r h=>by
        have:r≠(j:Int):=fun q=>(zq1 h HAT.out).1 q hdup
        simpa using this
       clear hdup
       go_wp2_with (first
        |((with_reducible refine za6 (.tmp 1) W.heap.size 25 25 [.slice (some ⟨gN,o,none⟩) n1 c1,.slice p2 n2 c2] 2 _ uX rfl Tryz.underlying25 rfl zbh ?_ ?_ ?_ ?_);rfl;rfl;rfl)
        |(go_at_call 39;(with_reducible refine HNO.out.mono ?_);rintro e w3 ⟨r,rfl,hfr,hb3⟩;have b3:=zab hBX hb3 hBX.size;have hrj:=HRJ.out r hfr;have hrk:(r != (j:Int))=true:=congrArg not hrj;have bx3:=hb3;have d1:=zah d1 hb3;have d2:=zah d2 hb3))
       go_ret
       exact ⟨rfl,zab HB0.out b3 HB0.out.size⟩
      ·have HRJ:Hid (∀ r,zee (g.nodes.map zaq.id) id r→r=(j:Int)):=Lib.hid fun r h=>(zq1 h HAT.out).2 hdup
       rw [decide_eq_false hdup,decide_eq_true hid] at HNO0 HYE
       clear hdup
       cases r1 with
       | false=>
         obtain rfl:r0=false:=HNO0.out rfl
         go_wp2_with (first
          |((with_reducible refine za6 (.tmp 1) W.heap.size 25 25 [.slice (some ⟨gN,o,none⟩) n1 c1,.slice p2 n2 c2] 2 _ uX rfl Tryz.underlying25 rfl zbh ?_ ?_ ?_ ?_);rfl;rfl;rfl)
          |(go_at_call 39;(with_reducible refine HNO.out.mono ?_);rintro e w3 ⟨r,rfl,hfr,hb3⟩;have b3:=zab hBX hb3 hBX.size;obtain rfl:=HRJ.out r hfr;have bx3:=hb3;have d1:=zah d1 hb3;have d2:=zah d2 hb3)
          |(go_at_call 40;(with_reducible refine (HLB.out _ bx3).mono ?_);rintro e w4 ⟨rfl,hb4⟩;have bx4:=zab bx3 hb4 bx3.size;have d2:=zah d2 hb4))
         go_ret
         exact ⟨rfl,zab HB0.out (zab HBX.out bx4 HBX.out.size) HB0.out.size⟩
       | true=>
         cases r2 with
         | false=>
           obtain rfl:r0=false:=HNO0.out rfl
           go_wp2_with (first
            |((with_reducible refine za6 (.tmp 1) W.heap.size 25 25 [.slice (some ⟨gN,o,none⟩) n1 c1,.slice p2 n2 c2] 2 _ uX rfl Tryz.underlying25 rfl zbh ?_ ?_ ?_ ?_);rfl;rfl;rfl)
            |(go_at_call 39;(with_reducible refine HNO.out.mono ?_);rintro e w3 ⟨r,rfl,hfr,hb3⟩;have b3:=zab hBX hb3 hBX.size;obtain rfl:=HRJ.out r hfr;have bx3:=hb3;have d1:=zah d1 hb3;have d2:=zah d2 hb3)
            |(go_at_call 40;(with_reducible refine (HLB.out _ bx3).mono ?_);rintro e w4 ⟨rfl,hb4⟩;have bx4:=zab bx3 hb4 bx3.size;have d2:=zah d2 hb4)
            |(go_at_call 41;(with_reducible refine (HPR.out _ bx4).mono ?_);rintro e w5 ⟨rfl,hb5⟩;have bx5:=zab bx4 hb5 bx4.size))
           go_ret
           exact ⟨rfl,zab HB0.out (zab HBX.out bx5 HBX.out.size) HB0.out.size⟩
         | true=>
           go_wp2_with (first
            |((with_reducible refine za6 (.tmp 1) W.heap.size 25 25 [.slice (some ⟨gN,o,none⟩) n1 c1,.slice p2 n2 c2] 2 _ uX rfl Tryz.underlying25 rfl zbh ?_ ?_ ?_ ?_);rfl;rfl;rfl)
            |(go_at_call 39;(with_reducible refine HNO.out.mono ?_);rintro e w3 ⟨r,rfl,hfr,hb3⟩;have b3:=zab hBX hb3 hBX.size;obtain rfl:=HRJ.out r hfr;have bx3:=hb3;have d1:=zah d1 hb3;have d2:=zah d2 hb3)
            |(go_at_call 40;(with_reducible refine (HLB.out _ bx3).mono ?_);rintro e w4 ⟨rfl,hb4⟩;have bx4:=zab bx3 hb4 bx3.size;have d2:=zah d2 hb4)
            |(go_at_call 41;(with_reducible refine (HPR.out _ bx4).mono ?_);rintro e w5 ⟨rfl,hb5⟩;have bx5:=zab bx4 hb5 bx4.size))
           go_roundg (gk - 1)
           case measure=>omega
           case rel=>exact ⟨j+1,by omega,by go_num,Lib.hid (HYE.out rfl),Lib.hid (zab HBX.out bx5 HBX.out.size)⟩
     ·obtain rfl:r0=false:=HNO0.out (by rw [decide_eq_false hid];rfl)
      have hidd:decide (id < 0)=true:=decide_eq_true (by omega)
      go_wp2_with fail
      go_ret
      exact ⟨rfl,zab HB0.out HBX.out HB0.out.size⟩
    ·have HAN:Hid (allN zf4 zaq.id g.nodes=true):=Lib.hid (by
      have e:g.nodes.take j=g.nodes:=by rw [List.take_of_length_le];have:=HL.out.1;omega
      rw [← e]
      exact HA.out)
     have HB7:=HB
     have k1:=zac u 1 rfl
     clear HA HB
     go_wp2_with fail
     obtain ⟨wS,hwS⟩:∃ wS,wS=wr:=⟨_,rfl⟩
     clear k0 k1 u
     go_loopg [5] n2 (fun gg s5 wr2=>∃ j:Nat,j+gg=n2∧s5=.int .i64 j∧Hid (allN (zgg (idsN g)) zas.id (g.edges.take j)=true)∧Hid (Below W0.heap.size W0 wr2))
     case atStart=>exact ⟨0,by omega,rfl,Lib.hid (by simp [allN]),HB7⟩
     case round=>
      clear hj hjg HB7 hwS
      obtain ⟨j,hjg,rfl,HA,HB⟩:=hrel
      have u:=(HB.out.block _ (zaa HU.out)).trans HU.out
      have k1:=zac u 1 rfl
      by_cases hj:(j:Int) < n2
      ·have hj1:j < g.edges.length:=by have:=HL.out.2;omega
       obtain ⟨gE,o,cp1,cc1,e1,hg1,hr1,hra1⟩:=(H2.out.stays (zad HB.out)).at_ j hj1
       injection e1 with e11 e12 e13
       subst e11
       obtain ⟨a,ha⟩:∃ a,a=g.edges[j]:=⟨_,rfl⟩
       rw [← ha] at hr1
       obtain ⟨id,src,dst,ty,ps⟩:=a
       obtain ⟨pv,rfl,hwf,hq1,hq2,hsp⟩:=hr1
       obtain ⟨pp,pc,rfl⟩:=hsp.slice
       have hra:wr.rangeAt gE (o+j*5) [.int .i64 id,.int .i64 src,.int .i64 dst,.string ty,.slice pp ps.length pc]:=hra1
       obtain ⟨m2,hm2⟩:∃ m,m=ps.length:=⟨_,rfl⟩
       have HNE:Hid (∀ x W',Below wr.heap.size wr W'→Calls Tryz.prog 39 #[.agg #[.slice p1 n1 c1,.slice (some ⟨gE,o,none⟩) n2 c2],.int .i64 x] W' fun e w'=>∃ r,e=.returned (.int .i64 r)∧zee (g.nodes.map zaq.id) x r∧Below W'.heap.size W' w'):=Lib.hid fun x W' b=>zji g.nodes _ _ x W' (zes ((H1.out.stays (zad HB.out)).stays (zad b))) ⟨_,_,_,rfl⟩ (by have:=HL.out.1;omega)
       have HWD0:Hid (∀ W',Calls Tryz.prog 42 #[.string ty] W' fun e w'=>e=.returned (.bool (zco ty))∧W'=w'):=Lib.hid fun W'=>zje ty W' hq1
       have HPR0:Hid (∀ W',Below wr.heap.size wr W'→Calls Tryz.prog 41 #[.slice pp m2 pc] W' fun e w'=>e=.returned (.bool (zce ps))∧Below W'.heap.size W' w'):=Lib.hid fun W' b=>by
        rw [hm2]
        exact zkm _ ps W' (hsp.stays (zad b)) hq2
       have hNP:zgg (idsN g) ⟨id,src,dst,ty,ps⟩=((decide (src∈g.nodes.map zaq.id) && decide (dst∈g.nodes.map zaq.id)) && ((decide (0≤id) && zco ty) && zce ps)):=rfl
       have HNO0:Hid ((((decide (src∈g.nodes.map zaq.id) && decide (dst∈g.nodes.map zaq.id)) && ((decide (0≤id) && zco ty) && zce ps)) && !decide (id∈(g.edges.map zas.id).take j))=false→r0=false):=Lib.hid fun h=>by
        have h2:allN (zgg (idsN g)) zas.id g.edges=false:=zwd hj1 (by rw [← ha,hNP];exact h)
        rw [HR.out,zfk,h2,Bool.and_false,Bool.and_false]
       have HYE:Hid ((((decide (src∈g.nodes.map zaq.id) && decide (dst∈g.nodes.map zaq.id)) && ((decide (0≤id) && zco ty) && zce ps)) && !decide (id∈(g.edges.map zas.id).take j))=true→allN (zgg (idsN g)) zas.id (g.edges.take (j+1))=true):=Lib.hid fun h=>by
        rw [zjh (zgg (idsN g)) zas.id g.edges j hj1,HA.out,← ha,hNP]
        exact h
       have HKY:Hid (id=g.edges[j].id):=Lib.hid (by rw [← ha])
       obtain ⟨r1,hr1⟩:∃ r1,r1=zco ty:=⟨_,rfl⟩
       obtain ⟨r2,hr2⟩:∃ r2,r2=zce ps:=⟨_,rfl⟩
       rw [← hm2] at hra
       rw [← hr1] at HWD0 HNO0 HYE
       rw [← hr2] at HPR0 HNO0 HYE
       clear hNP hra1 e12 e13 ha hsp hq1 hq2 hm2 hr1 hr2 HA
       go_upto_region 13 with (first
        |((with_reducible refine zap (.tmp 63) gE (o+j*5) 41 [.int .i64 id,.int .i64 src,.int .i64 dst,.string ty,.slice pp m2 pc] 5 _ hra rfl Tryz.underlying41 rfl zak ?_ ?_ ?_ ?_);rfl;rfl;rfl)
        |((with_reducible refine zag (.tmp 6) (.tmp 64) wr.heap.size 41 41 _ [.int .i64 id,.int .i64 src,.int .i64 dst,.string ty,.slice pp m2 pc] 5 (zae _ _ rfl) rfl ?_ ?_ ?_ ?_ zak rfl (by simp [Value.oneCell']) ?_);rfl;rfl;rfl;rfl;intro wX oX hx))
       have bX:Below wr.heap.size wr wX:=zaf (zar wr _) oX (Nat.le_refl _) (by simp)
       obtain ⟨xb,hxb⟩:∃ xb,xb=wr.heap.size:=⟨_,rfl⟩
       rw [← hxb] at hx ⊢
       have uX:=(bX.block _ (zaa u)).trans u
       have hBX:=zab HB.out bX HB.out.size
       have HSR:=Lib.hid (HNE.out src wX bX)
       have HDS:Hid (∀ W',Below wX.heap.size wX W'→_):=Lib.hid fun W' b=>HNE.out dst W' (zab bX b bX.size)
       have HPR:Hid (∀ W',Below wX.heap.size wX W'→_):=Lib.hid fun W' b=>HPR0.out W' (zab bX b bX.size)
       have HX:=Lib.hid hx
       have HXE:=Lib.hid hxb
       have d0:=zac hx 0 rfl
       have d1:=zac hx 1 rfl
       have d2:=zac hx 2 rfl
       have d3:=zac hx 3 rfl
       have d4:=zac hx 4 rfl
       clear hra u k1 oX bX hx hxb HNE HPR0
       have HBX:=Lib.hid hBX
       clear HB
       by_cases hid:0≤id
       ·have hidd:decide (id < 0)=false:=decide_eq_false (by omega)
        by_cases hsrc:src∈g.nodes.map zaq.id
        ·have HS2:Hid (∀ r,zee (g.nodes.map zaq.id) src r→decide (r < 0)=false):=Lib.hid fun r h=>decide_eq_false fun q=>(zfl h).1 q hsrc
         by_cases hdst:dst∈g.nodes.map zaq.id
         ·have HD2:Hid (∀ r,zee (g.nodes.map zaq.id) dst r→decide (r < 0)=false):=Lib.hid fun r h=>decide_eq_false fun q=>(zfl h).1 q hdst
          rw [decide_eq_true hid,decide_eq_true hsrc,decide_eq_true hdst] at HNO0 HYE
          clear hsrc hdst
          cases r1 with
          | false=>
            obtain rfl:r0=false:=HNO0.out rfl
            go_wp2_with (first
             |((with_reducible refine za6 (.tmp 1) W.heap.size 25 25 [.slice p1 n1 c1,.slice (some ⟨gE,o,none⟩) n2 c2] 2 _ uX rfl Tryz.underlying25 rfl zbh ?_ ?_ ?_ ?_);rfl;rfl;rfl)
             |((with_reducible refine za6 (.tmp 1) W.heap.size 25 25 [.slice p1 n1 c1,.slice (some ⟨gE,o,none⟩) n2 c2] 2 _ u3 rfl Tryz.underlying25 rfl zbh ?_ ?_ ?_ ?_);rfl;rfl;rfl)
             |(go_at_call 39;(with_reducible refine HSR.out.mono ?_);rintro e w3 ⟨r,rfl,hfr,hb3⟩;have hs3:=HS2.out r hfr;have bx3:=hb3;have b3:=hb3;have u3:=(hb3.block _ (zaa uX)).trans uX;have d2:=zah d2 hb3;have d3:=zah d3 hb3;have d4:=zah d4 hb3)
             |(go_at_call 39;(with_reducible refine (HDS.out _ bx3).mono ?_);rintro e w4 ⟨r2',rfl,hfr2,hb4⟩;have hs4:=HD2.out r2' hfr2;have bx4:=zab bx3 hb4 bx3.size;have d3:=zah d3 hb4;have d4:=zah d4 hb4)
             |(go_at_call 42;(with_reducible refine (HWD0.out _).mono ?_);rintro e w4' ⟨rfl,rfl⟩))
            go_ret
            exact ⟨rfl,zab HB0.out (zab HBX.out bx4 HBX.out.size) HB0.out.size⟩
          | true=>
            cases r2 with
            | false=>
              obtain rfl:r0=false:=HNO0.out rfl
              go_wp2_with (first
               |((with_reducible refine za6 (.tmp 1) W.heap.size 25 25 [.slice p1 n1 c1,.slice (some ⟨gE,o,none⟩) n2 c2] 2 _ uX rfl Tryz.underlying25 rfl zbh ?_ ?_ ?_ ?_);rfl;rfl;rfl)
               |((with_reducible refine za6 (.tmp 1) W.heap.size 25 25 [.slice p1 n1 c1,.slice (some ⟨gE,o,none⟩) n2 c2] 2 _ u3 rfl Tryz.underlying25 rfl zbh ?_ ?_ ?_ ?_);rfl;rfl;rfl)
               |(go_at_call 39;(with_reducible refine HSR.out.mono ?_);rintro e w3 ⟨r,rfl,hfr,hb3⟩;have hs3:=HS2.out r hfr;have bx3:=hb3;have b3:=hb3;have u3:=(hb3.block _ (zaa uX)).trans uX;have d2:=zah d2 hb3;have d3:=zah d3 hb3;have d4:=zah d4 hb3)
               |(go_at_call 39;(with_reducible refine (HDS.out _ bx3).mono ?_);rintro e w4 ⟨r2',rfl,hfr2,hb4⟩;have hs4:=HD2.out r2' hfr2;have bx4:=zab bx3 hb4 bx3.size;have d3:=zah d3 hb4;have d4:=zah d4 hb4)
               |(go_at_call 42;(with_reducible refine (HWD0.out _).mono ?_);rintro e w4' ⟨rfl,rfl⟩)
               |(go_at_call 41;(with_reducible refine (HPR.out _ bx4).mono ?_);rintro e w5 ⟨rfl,hb5⟩;have bx5:=zab bx4 hb5 bx4.size))
              go_ret
              exact ⟨rfl,zab HB0.out (zab HBX.out bx5 HBX.out.size) HB0.out.size⟩
            | true=>
              go_wp2_with (first
               |((with_reducible refine za6 (.tmp 1) W.heap.size 25 25 [.slice p1 n1 c1,.slice (some ⟨gE,o,none⟩) n2 c2] 2 _ uX rfl Tryz.underlying25 rfl zbh ?_ ?_ ?_ ?_);rfl;rfl;rfl)
               |((with_reducible refine za6 (.tmp 1) W.heap.size 25 25 [.slice p1 n1 c1,.slice (some ⟨gE,o,none⟩) n2 c2] 2 _ u3 rfl Tryz.underlying25 rfl zbh ?_ ?_ ?_ ?_);rfl;rfl;rfl)
               |(go_at_call 39;(with_reducible refine HSR.out.mono ?_);rintro e w3 ⟨r,rfl,hfr,hb3⟩;have hs3:=HS2.out r hfr;have bx3:=hb3;have b3:=hb3;have u3:=(hb3.block _ (zaa uX)).trans uX;have d2:=zah d2 hb3;have d3:=zah d3 hb3;have d4:=zah d4 hb3)
               |(go_at_call 39;(with_reducible refine (HDS.out _ bx3).mono ?_);rintro e w4 ⟨r2',rfl,hfr2,hb4⟩;have hs4:=HD2.out r2' hfr2;have bx4:=zab bx3 hb4 bx3.size;have d3:=zah d3 hb4;have d4:=zah d4 hb4)
               |(go_at_call 42;(with_reducible refine (HWD0.out _).mono ?_);rintro e w4' ⟨rfl,rfl⟩)
               |(go_at_call 41;(with_reducible refine (HPR.out _ bx4).mono ?_);rintro e w5 ⟨rfl,hb5⟩;have bx5:=zab bx4 hb5 bx4.size))
              have HX5:=Lib.hid ((bx5.block _ (zaa HX.out)).trans HX.out)
              have HB5:=Lib.hid (zab HBX.out bx5 HBX.out.size)
              have HU5:=Lib.hid ((bx5.block _ (zaa uX)).trans uX)
              obtain ⟨wC,hwC⟩:∃ wC,wC=w5:=⟨_,rfl⟩
              rw [← hwC] at HX5 HB5 HU5 ⊢
              clear hwC d0 d1 d2 d3 d4 uX hBX HX HSR HDS HPR HWD0
              clear hb3 hb4 hb5 bx3 bx4 bx5 hfr hfr2 b3 HBX
              go_loopg [7] j (fun gg s7 wr3=>∃ i:Nat,i+gg=j∧s7=.int .i64 i∧Hid (∀ m (h:m < g.edges.length),m < i→g.edges[m].id≠id)∧Hid (Below wC.heap.size wC wr3))
              case atStart=>exact ⟨0,by omega,rfl,Lib.hid (fun m _ h=>absurd h (by omega)),Lib.hid (Below.refl _ _)⟩
              case round=>
               obtain ⟨i,hig,rfl,HC,HB⟩:=hrel
               have hBW:=zab HB5.out HB.out HB5.out.size
               by_cases hi:(i:Int) < j
               ·have hi1:i < g.edges.length:=by omega
                have u:=(HB.out.block _ (zaa HU5.out)).trans HU5.out
                have ux:=(HB.out.block _ (zaa HX5.out)).trans HX5.out
                have k1:=zac u 1 rfl
                have d0:=zac ux 0 rfl
                obtain ⟨g1,o1,cp1,cc1,e1,hg1,hr1,hra1⟩:=(H2.out.stays (zad hBW)).at_ i hi1
                injection e1 with e11 e12 e13
                injection e11 with e14
                injection e14 with e15 e16
                subst e15 e16
                obtain ⟨y,hy⟩:∃ y,y=g.edges[i].id:=⟨_,rfl⟩
                obtain ⟨t1,rfl,_⟩:=hr1
                have c1':=hra1 0 _ rfl
                rw [← hy] at c1'
                replace c1':wr.cell? ⟨gE,o+i*5,none⟩=some (.int .i64 y):=c1'
                have HYY:=Lib.hid hy
                clear hra1 e12 e13 hy u ux
                by_cases q:y=id
                ·subst q
                 have HR2:Hid (r0=false):=Lib.hid (HNO0.out (by
                  have:y∈(g.edges.map zas.id).take j:=by
                   rw [HYY.out]
                   refine List.mem_iff_getElem.2 ⟨i,by rw [List.length_take,List.length_map];omega,?_⟩
                   rw [List.getElem_take,List.getElem_map]
                  rw [decide_eq_true this]
                  rfl))
                 go_upto_region 18 with fail
                 go_quiet (fail)
                 have hB9:=hBW.trans (zbw (Below.refl _ wr) nq |>.mono hBW.size)
                 clear c1' k1 d0 hBW HB
                 generalize wr.drewN nq=w9 at*
                 go_wp2_with fail
                 go_ret
                 exact ⟨by rw [HR2.out];rfl,zab HB0.out hB9 HB0.out.size⟩
                ·have q2:(y == id)=false:=by simpa using q
                 have HC2:Hid (∀ m (h:m < g.edges.length),m < i+1→g.edges[m].id≠id):=Lib.hid fun m h1 h2=>by
                  by_cases e:m=i
                  ·subst e
                   rw [← HYY.out]
                   exact q
                  ·exact HC.out m h1 (by omega)
                 clear q
                 go_upto_region 18 with fail
                 go_quiet (fail)
                 have hB9:=HB.out.trans (zbw (Below.refl _ wr) nq |>.mono HB.out.size)
                 clear c1' k1 d0 hBW HB
                 generalize wr.drewN nq=w9 at*
                 go_wp2_with fail
                 go_roundg (gk - 1)
                 case measure=>omega
                 case rel=>exact ⟨i+1,by omega,by go_num,HC2,Lib.hid hB9⟩
               ·have HM:Hid (allN (zgg (idsN g)) zas.id (g.edges.take (j+1))=true):=Lib.hid (HYE.out (by
                 have:¬ id∈(g.edges.map zas.id).take j:=fun h=>by
                  obtain ⟨m,hm,e⟩:=List.getElem_of_mem h
                  rw [List.length_take,List.length_map] at hm
                  rw [List.getElem_take,List.getElem_map] at e
                  exact HC.out m (by omega) (by omega) e
                 rw [decide_eq_false this]
                 rfl))
                go_wp2_with fail
                go_roundg (n2 - (j+1))
                case measure=>omega
                case rel=>exact ⟨j+1,by omega,by go_num,HM,Lib.hid hBW⟩
         ·obtain rfl:r0=false:=HNO0.out (by rw [decide_eq_false hdst];simp)
          have HD2:Hid (∀ r,zee (g.nodes.map zaq.id) dst r→decide (r < 0)=true):=Lib.hid fun r h=>decide_eq_true ((zfl h).2 hdst)
          clear hdst hsrc
          go_wp2_with (first
           |((with_reducible refine za6 (.tmp 1) W.heap.size 25 25 [.slice p1 n1 c1,.slice (some ⟨gE,o,none⟩) n2 c2] 2 _ uX rfl Tryz.underlying25 rfl zbh ?_ ?_ ?_ ?_);rfl;rfl;rfl)
           |((with_reducible refine za6 (.tmp 1) W.heap.size 25 25 [.slice p1 n1 c1,.slice (some ⟨gE,o,none⟩) n2 c2] 2 _ u3 rfl Tryz.underlying25 rfl zbh ?_ ?_ ?_ ?_);rfl;rfl;rfl)
           |(go_at_call 39;(with_reducible refine HSR.out.mono ?_);rintro e w3 ⟨r,rfl,hfr,hb3⟩;have hs3:=HS2.out r hfr;have bx3:=hb3;have b3:=hb3;have u3:=(hb3.block _ (zaa uX)).trans uX;have d2:=zah d2 hb3;have d3:=zah d3 hb3;have d4:=zah d4 hb3)
           |(go_at_call 39;(with_reducible refine (HDS.out _ bx3).mono ?_);rintro e w4 ⟨r2',rfl,hfr2,hb4⟩;have hs4:=HD2.out r2' hfr2;have bx4:=zab bx3 hb4 bx3.size;have d3:=zah d3 hb4;have d4:=zah d4 hb4))
          go_ret
          exact ⟨rfl,zab HB0.out (zab HBX.out bx4 HBX.out.size) HB0.out.size⟩
        ·obtain rfl:r0=false:=HNO0.out (by rw [decide_eq_false hsrc];simp)
         have HS2:Hid (∀ r,zee (g.nodes.map zaq.id) src r→decide (r < 0)=true):=Lib.hid fun r h=>decide_eq_true ((zfl h).2 hsrc)
         clear hsrc
         go_wp2_with (first
          |((with_reducible refine za6 (.tmp 1) W.heap.size 25 25 [.slice p1 n1 c1,.slice (some ⟨gE,o,none⟩) n2 c2] 2 _ uX rfl Tryz.underlying25 rfl zbh ?_ ?_ ?_ ?_);rfl;rfl;rfl)
          |(go_at_call 39;(with_reducible refine HSR.out.mono ?_);rintro e w3 ⟨r,rfl,hfr,hb3⟩;have hs3:=HS2.out r hfr;have bx3:=hb3;have b3:=hb3;have u3:=(hb3.block _ (zaa uX)).trans uX;have d2:=zah d2 hb3;have d3:=zah d3 hb3;have d4:=zah d4 hb3))
         go_ret
         exact ⟨rfl,zab HB0.out (zab HBX.out bx3 HBX.out.size) HB0.out.size⟩
       ·obtain rfl:r0=false:=HNO0.out (by rw [decide_eq_false hid];simp)
        have hidd:decide (id < 0)=true:=decide_eq_true (by omega)
        go_wp2_with fail
        go_ret
        exact ⟨rfl,zab HB0.out HBX.out HB0.out.size⟩
      ·have HZ:Hid (r0=true):=Lib.hid (by
        have e:g.edges.take j=g.edges:=by rw [List.take_of_length_le];have:=HL.out.2;omega
        have h:=HA.out
        rw [e] at h
        rw [HR.out,zfk,HAN.out,h,← HL.out.1,← HL.out.2,decide_eq_true HBD.out.1,decide_eq_true HBD.out.2]
        rfl)
       go_wp2_with fail
       go_ret
       exact ⟨by rw [HZ.out];rfl,zab HB0.out HB.out HB0.out.size⟩
  ·have hd2:decide ((65536:Int) < n2)=true:=decide_eq_true (by omega)
   obtain rfl:r0=false:=by
    rw [HR.out,zfk,← HL.out.2,decide_eq_false hb2,Bool.and_false,Bool.false_and]
   clear hb1 hb2
   go_enter Tryz.func14,Tryz.ntmps14
   go_upto_region 1 with fail
   rw [← H0.out]
   go_wp2_with fail
   go_ret
   exact ⟨rfl,HB0.out⟩
 ·have hd1:decide ((131072:Int) < n1)=true:=decide_eq_true (by omega)
  obtain rfl:r0=false:=by
   rw [HR.out,zfk,← HL.out.1,decide_eq_false hb1,Bool.false_and,Bool.false_and]
  clear hb1
  go_enter Tryz.func14,Tryz.ntmps14
  go_upto_region 1 with fail
  rw [← H0.out]
  go_wp2_with fail
  go_ret
  exact ⟨rfl,HB0.out⟩
end Go.Proofs.YtcfmenkigolnoaaGreatDoor

/- GND -/
namespace Go.Proofs.YtcfmenkigolnoaaGreatDoor
open Go.RowKit
theorem zcf {fn:Func} {p q:Tmp} {ty:TypeId} (h:fn.results=#[.cell p ty,.tmp q]) (tmps:Array Value) (w:World) (g:Nat) (cs:Array Value) (v:Value)
 (hp:tmps.getD p undef=.pointer (some ⟨g,0,none⟩)) (hq:tmps.getD q undef=v) (hl:(loadVar ty ⟨g,0,none⟩).run Tryz.prog w=.ok (.agg cs) w):
 (results fn tmps).run Tryz.prog w=.ok (.tuple #[.agg cs,v]) w:=by
 have hp':tmps[p]?.getD undef=.pointer (some ⟨g,0,none⟩):=by simpa using hp
 have hq':tmps[q]?.getD undef=v:=by simpa using hq
 simp [results,h,hp',hq',asAddr,hl]
def zf0 (g:zaw) (i:Int):zaq:=((g.nodes.find? fun a=>decide (a.id=i)).map zc6).getD ⟨0,[],[]⟩
def zf1 (g:zaw) (i:Int):zas:=((g.edges.find? fun a=>decide (a.id=i)).map zc7).getD ⟨0,0,0,⟨#[]⟩,[]⟩
theorem zdu {α:Type} {id:α→Int} {l:List α} {n:Int} (h:¬ n∈l.map id):l.find? (fun a=>decide (id a=n))=none:=by
 rw [List.find?_eq_none]
 intro a ha q
 exact h (List.mem_map.2 ⟨a,ha,of_decide_eq_true q⟩)
theorem zpv {w:World} {P:Nat→Prop} {b:Nat} {g:zaw} (h:zcs zay zaq.id ze7 w P b g.nodes) (hd:(g.nodes.map zaq.id).Nodup) (hk:∀ a∈g.nodes,(a.props.map fun p=>bl p.key).Nodup) (n:Int):∃ m f c,m≤g.nodes.length∧HMap w Tryz.prog 2 b m f∧(f (.int .i64 n)).getD (.agg #[.int .i64 0,.slice none 0 0,.slice none 0 0])=.agg c.toArray∧zay.rel w P c (zf0 g n)∧(f (.int .i64 n)).isSome=decide (n∈g.nodes.map zaq.id):=by
 obtain ⟨m,f,h1,h2,h3,h4⟩:=h
 by_cases q:n∈g.nodes.map zaq.id
 ·obtain ⟨a,ha,rfl⟩:=List.mem_map.1 q
  obtain ⟨a',c,hp,hf,hr⟩:=h3 a ha
  rw [hp.eq (hk a ha)] at hr
  refine ⟨m,f,c,h1,h2,by rw [hf];rfl,?_,by rw [hf,decide_eq_true q];rfl⟩
  unfold zf0
  rw [zef hd ha]
  exact hr
 ·have e:=h4 (.int .i64 n) fun a ha e=>q (List.mem_map.2 ⟨a,ha,by injection e with _ e2;exact e2.symm⟩)
  refine ⟨m,f,[.int .i64 0,.slice none 0 0,.slice none 0 0],h1,h2,by rw [e];rfl,?_,by rw [e,decide_eq_false q];rfl⟩
  unfold zf0
  rw [zdu q]
  exact ⟨_,_,rfl,by decide,by decide,by decide,zaj.nil _ _,zaj.nil _ _⟩
def zq2 (W:World) (g:zaw) (n:Int) (e:Ending) (w':World):Prop:=
 ∃ c,e=.returned (.tuple #[.agg c.toArray,.bool (decide (n∈g.nodes.map zaq.id))])∧zay.rel w' (New W w') c (zf0 g n)∧Below W.heap.size W w'
set_option maxHeartbeats 3200000 in
set_option maxRecDepth 20000 in
theorem zya (W:World) (s:Nat) (g:zaw) (h:zcz W s g) (hg:zep g) (n:Int) (hn:(Lit.int .i64 n).wf=true):Calls Tryz.prog 17 #[.pointer (some ⟨s,0,none⟩),.int .i64 n] W (zq2 W g n):=by
 obtain ⟨m0,m1,m4,m5,V2,V3,q0,q1,q2,_,_,_,_⟩:=h.is
 obtain ⟨nn,f,c,hnn,hmap,hff,hr,hsome⟩:=zpv q1 hg.dn (fun a ha=>(zcn (hg.nkeys a ha)).2.1) n
 have hki:keyOf Tryz.prog 2 (.int .i64 n)=some (.int .i64 n):=Go.Maps.keyOf_int_mk Tryz.underlying2 hn
 have u1:(W.alloc (.cells #[.int .i64 0,.slice none 0 0,.slice none 0 0] 38)).heap[W.heap.size]?=some (.cells #[.int .i64 0,.slice none 0 0,.slice none 0 0] 38 (0,0)):=zae _ _ rfl
 have b0:=zar W (.cells #[.int .i64 0,.slice none 0 0,.slice none 0 0] 38)
 have us:(W.alloc (.cells #[.int .i64 0,.slice none 0 0,.slice none 0 0] 38)).heap[s]?=_:=zat _ q0
 replace hmap:=hmap.keep (b0.block _ hmap.lt)
 obtain ⟨W0,hW0⟩:∃ W0,W0=W.alloc (.cells #[.int .i64 0,.slice none 0 0,.slice none 0 0] 38):=⟨_,rfl⟩
 have hz1:∀ u∈[Value.int .i64 0,.slice none 0 0,.slice none 0 0],u.oneCell'=true:=by simp [Value.oneCell']
 rw [← hW0] at u1 b0 us hmap
 have cs:=zac us 0 rfl
 have s0:W.heap.size < W0.heap.size:=zaa u1
 have hlc:c.length=3:=zay.len hr
 have hone0:=zay.one hr
 have HR0:=Lib.hid (zay.stays (zad b0) hr)
 have H0:=Lib.hid hW0
 obtain ⟨bb,hbb⟩:∃ bb,bb=decide (n∈g.nodes.map zaq.id):=⟨_,rfl⟩
 rw [← hbb] at hsome
 have HB0:=Lib.hid (And.intro hff hsome)
 have HBB:=Lib.hid hbb
 have U1:=Lib.hid u1
 clear hW0 hr h q0 q1 q2 hff hsome hbb hg
 go_enter Tryz.func17,Tryz.ntmps17
 go_upto_region 1 with fail
 rw [← H0.out]
 go_upto_region 2 with (first
  |(at_lookup;refine zd0 rfl _ _ 73 rfl 2 38 law2 Tryz.underlying73 (zqj _) m0 nn rfl hmap _ (.int .i64 n) rfl hki trivial ?_;rw [HB0.out.1,HB0.out.2])
  |((with_reducible refine zag (.tmp 6) (.tmp 15) W0.heap.size 38 38 _ c 3 (zae _ _ rfl) hlc ?_ ?_ ?_ ?_ zam rfl hone0 ?_);rfl;rfl;rfl;rfl;intro wX oX uX))
 have bX:Below W0.heap.size W0 wX:=zaf (zar W0 _) oX (Nat.le_refl _) (by simp)
 have HC:=Lib.hid (zqp _ wX c (zay.stays (zad bX) HR0.out))
 have u2:=(bX.block _ (zaa U1.out)).trans U1.out
 have HBX:=Lib.hid (zab b0 bX b0.size)
 have sX:=bX.size
 clear oX bX b0 cs us hmap u1
 go_wp2_with (first
  |((with_reducible refine zai (.tmp 6) W0.heap.size 38 38 c 3 _ uX hlc Tryz.underlying38 rfl zam ?_ ?_ ?_ ?_);rfl;rfl;rfl)
  |(go_at_call 47;(with_reducible refine HC.out.mono ?_);rintro e w3 ⟨c',rfl,hc',hb3⟩
    have u3:=(hb3.block _ (zaa u2)).trans u2
    have hlen:c'.length=3:=zay.len hc'
    have hone:=zay.one hc'
    have HR:=Lib.hid (And.intro hc' hb3)
    clear hc' hb3)
  |((with_reducible refine zag (.tmp 4) (.tmp 18) W.heap.size 38 38 _ c' 3 u3 hlen ?_ ?_ ?_ ?_ zam rfl hone ?_);rfl;rfl;rfl;rfl;intro wY oY u5))
 have hsz:=oY.size
 have hbX:=HBX.out
 refine bodyPost_ret (zcf (p:=4) (q:=5) (ty:=38) Tryz.results17 _ _ W.heap.size c'.toArray (.bool bb) rfl rfl (run_loadVar_row _ W.heap.size 38 38 _ (0,0) _ u5 Tryz.underlying38 rfl (by rw [zam];simp [hlen]))) rfl ?_
 unfold zq2
 rw [← HBB.out]
 exact ⟨c',rfl,zay.stays (fun i hi=>⟨⟨by have:=hi.1;omega,Nat.lt_of_lt_of_le hi.2 hsz⟩,oY.block i hi.2 (by have:=hi.1;omega)⟩) HR.out.1,zaf (zab hbX HR.out.2 hbX.size) oY (Nat.le_refl _) (Nat.le_trans hbX.size HR.out.2.size)⟩
theorem zpw {w:World} {P:Nat→Prop} {b:Nat} {g:zaw} (h:zcs za0 zas.id zeb w P b g.edges) (hd:(g.edges.map zas.id).Nodup) (hk:∀ a∈g.edges,(a.props.map fun p=>bl p.key).Nodup) (n:Int):∃ m f c,m≤g.edges.length∧HMap w Tryz.prog 2 b m f∧(f (.int .i64 n)).getD (.agg #[.int .i64 0,.int .i64 0,.int .i64 0,.string ⟨#[]⟩,.slice none 0 0])=.agg c.toArray∧za0.rel w P c (zf1 g n)∧(f (.int .i64 n)).isSome=decide (n∈g.edges.map zas.id):=by
 obtain ⟨m,f,h1,h2,h3,h4⟩:=h
 by_cases q:n∈g.edges.map zas.id
 ·obtain ⟨a,ha,rfl⟩:=List.mem_map.1 q
  obtain ⟨a',c,hp,hf,hr⟩:=h3 a ha
  rw [hp.eq (hk a ha)] at hr
  refine ⟨m,f,c,h1,h2,by rw [hf];rfl,?_,by rw [hf,decide_eq_true q];rfl⟩
  unfold zf1
  rw [zef hd ha]
  exact hr
 ·have e:=h4 (.int .i64 n) fun a ha e=>q (List.mem_map.2 ⟨a,ha,by injection e with _ e2;exact e2.symm⟩)
  refine ⟨m,f,[.int .i64 0,.int .i64 0,.int .i64 0,.string ⟨#[]⟩,.slice none 0 0],h1,h2,by rw [e];rfl,?_,by rw [e,decide_eq_false q];rfl⟩
  unfold zf1
  rw [zdu q]
  exact ⟨_,rfl,⟨by decide,by decide,by decide⟩,by decide,by decide,zaj.nil _ _⟩
def zq3 (W:World) (g:zaw) (n:Int) (e:Ending) (w':World):Prop:=
 ∃ c,e=.returned (.tuple #[.agg c.toArray,.bool (decide (n∈g.edges.map zas.id))])∧za0.rel w' (New W w') c (zf1 g n)∧Below W.heap.size W w'
set_option maxHeartbeats 3200000 in
set_option maxRecDepth 20000 in
theorem zyb (W:World) (s:Nat) (g:zaw) (h:zcz W s g) (hg:zep g) (n:Int) (hn:(Lit.int .i64 n).wf=true):Calls Tryz.prog 19 #[.pointer (some ⟨s,0,none⟩),.int .i64 n] W (zq3 W g n):=by
 obtain ⟨m0,m1,m4,m5,V2,V3,q0,q1,q2,_,_,_,_⟩:=h.is
 obtain ⟨nn,f,c,hnn,hmap,hff,hr,hsome⟩:=zpw q2 hg.de (fun a ha=>(zcn ((hg.ekeys a ha).1)).2.1) n
 have hki:keyOf Tryz.prog 2 (.int .i64 n)=some (.int .i64 n):=Go.Maps.keyOf_int_mk Tryz.underlying2 hn
 have u1:(W.alloc (.cells #[.int .i64 0,.int .i64 0,.int .i64 0,.string ⟨#[]⟩,.slice none 0 0] 41)).heap[W.heap.size]?=some (.cells #[.int .i64 0,.int .i64 0,.int .i64 0,.string ⟨#[]⟩,.slice none 0 0] 41 (0,0)):=zae _ _ rfl
 have b0:=zar W (.cells #[.int .i64 0,.int .i64 0,.int .i64 0,.string ⟨#[]⟩,.slice none 0 0] 41)
 have us:(W.alloc (.cells #[.int .i64 0,.int .i64 0,.int .i64 0,.string ⟨#[]⟩,.slice none 0 0] 41)).heap[s]?=_:=zat _ q0
 replace hmap:=hmap.keep (b0.block _ hmap.lt)
 obtain ⟨W0,hW0⟩:∃ W0,W0=W.alloc (.cells #[.int .i64 0,.int .i64 0,.int .i64 0,.string ⟨#[]⟩,.slice none 0 0] 41):=⟨_,rfl⟩
 have hz1:∀ u∈[Value.int .i64 0,.int .i64 0,.int .i64 0,.string ⟨#[]⟩,.slice none 0 0],u.oneCell'=true:=by simp [Value.oneCell']
 rw [← hW0] at u1 b0 us hmap
 have cs:=zac us 1 rfl
 have s0:W.heap.size < W0.heap.size:=zaa u1
 have hlc:c.length=5:=za0.len hr
 have hone0:=za0.one hr
 have HR0:=Lib.hid (za0.stays (zad b0) hr)
 have H0:=Lib.hid hW0
 obtain ⟨bb,hbb⟩:∃ bb,bb=decide (n∈g.edges.map zas.id):=⟨_,rfl⟩
 rw [← hbb] at hsome
 have HB0:=Lib.hid (And.intro hff hsome)
 have HBB:=Lib.hid hbb
 have U1:=Lib.hid u1
 clear hW0 hr h q0 q1 q2 hff hsome hbb hg
 go_enter Tryz.func19,Tryz.ntmps19
 go_upto_region 1 with fail
 rw [← H0.out]
 go_upto_region 2 with (first
  |(at_lookup;refine zd0 rfl _ _ 74 rfl 2 41 law2 Tryz.underlying74 (zkc _) m1 nn rfl hmap _ (.int .i64 n) rfl hki trivial ?_;rw [HB0.out.1,HB0.out.2])
  |((with_reducible refine zag (.tmp 6) (.tmp 15) W0.heap.size 41 41 _ c 5 (zae _ _ rfl) hlc ?_ ?_ ?_ ?_ zak rfl hone0 ?_);rfl;rfl;rfl;rfl;intro wX oX uX))
 have bX:Below W0.heap.size W0 wX:=zaf (zar W0 _) oX (Nat.le_refl _) (by simp)
 have HC:=Lib.hid (zqq _ wX c (za0.stays (zad bX) HR0.out))
 have u2:=(bX.block _ (zaa U1.out)).trans U1.out
 have HBX:=Lib.hid (zab b0 bX b0.size)
 have sX:=bX.size
 clear oX bX b0 cs us hmap u1
 go_wp2_with (first
  |((with_reducible refine zai (.tmp 6) W0.heap.size 41 41 c 5 _ uX hlc Tryz.underlying41 rfl zak ?_ ?_ ?_ ?_);rfl;rfl;rfl)
  |(go_at_call 50;(with_reducible refine HC.out.mono ?_);rintro e w3 ⟨c',rfl,hc',hb3⟩
    have u3:=(hb3.block _ (zaa u2)).trans u2
    have hlen:c'.length=5:=za0.len hc'
    have hone:=za0.one hc'
    have HR:=Lib.hid (And.intro hc' hb3)
    clear hc' hb3)
  |((with_reducible refine zag (.tmp 4) (.tmp 18) W.heap.size 41 41 _ c' 5 u3 hlen ?_ ?_ ?_ ?_ zak rfl hone ?_);rfl;rfl;rfl;rfl;intro wY oY u5))
 have hsz:=oY.size
 have hbX:=HBX.out
 refine bodyPost_ret (zcf (p:=4) (q:=5) (ty:=41) Tryz.results19 _ _ W.heap.size c'.toArray (.bool bb) rfl rfl (run_loadVar_row _ W.heap.size 41 41 _ (0,0) _ u5 Tryz.underlying41 rfl (by rw [zak];simp [hlen]))) rfl ?_
 unfold zq3
 rw [← HBB.out]
 exact ⟨c',rfl,za0.stays (fun i hi=>⟨⟨by have:=hi.1;omega,Nat.lt_of_lt_of_le hi.2 hsz⟩,oY.block i hi.2 (by have:=hi.1;omega)⟩) HR.out.1,zaf (zab hbX HR.out.2 hbX.size) oY (Nat.le_refl _) (Nat.le_trans hbX.size HR.out.2.size)⟩
end Go.Proofs.YtcfmenkigolnoaaGreatDoor

/- GMH -/
namespace Go.Proofs.YtcfmenkigolnoaaGreatDoor
open Go.RowKit
def ze4 (a:zaq) (ls:List ByteArray):Bool:=ls.all fun t=>memB t a.labels
set_option maxHeartbeats 3200000 in
set_option maxRecDepth 20000 in
theorem zyc (a:zaq) (c:List Value) (V:Value) (ls:List ByteArray) (W:World) (h:zay.rel W (Old W) c a) (hV:zcd W V ls) (hn:ls.length≤2097152):
 Calls Tryz.prog 64 #[.agg c.toArray,V] W fun e w'=>e=.returned (.bool (ze4 a ls))∧Below W.heap.size W w':=by
 obtain ⟨id,ts,ps⟩:=a
 obtain ⟨lv,pv,rfl,hwf,hq1,hq2,hsl,hsp⟩:=h
 obtain ⟨lp,lc,rfl⟩:=hsl.slice
 obtain ⟨pp,pc,rfl⟩:=hsp.slice
 obtain ⟨p,cap,rfl,hc⟩:=hV
 obtain ⟨n,hl⟩:∃ n,n=ls.length:=⟨_,rfl⟩
 obtain ⟨m,hm⟩:∃ m,m=ts.length:=⟨_,rfl⟩
 obtain ⟨r,hr⟩:∃ r,r=ze4 ⟨id,ts,ps⟩ ls:=⟨_,rfl⟩
 rw [← hr,← hl]
 rw [← hl] at hn
 have b0:=zar W (.cells #[.int .i64 id,.slice lp ts.length lc,.slice pp ps.length pc] 38)
 have u1:(W.alloc (.cells #[.int .i64 id,.slice lp ts.length lc,.slice pp ps.length pc] 38)).heap[W.heap.size]?=some (.cells #[.int .i64 id,.slice lp ts.length lc,.slice pp ps.length pc] 38 (0,0)):=zae _ _ rfl
 have hst:zcd W (.slice p ls.length cap) ls:=⟨p,cap,rfl,hc⟩
 obtain ⟨W0,hW0⟩:∃ W0,W0=W.alloc (.cells #[.int .i64 id,.slice lp ts.length lc,.slice pp ps.length pc] 38):=⟨_,rfl⟩
 show Calls Tryz.prog 64 #[.agg #[.int .i64 id,.slice lp ts.length lc,.slice pp ps.length pc],.slice p n cap] W _
 rw [← hm] at hW0 ⊢
 rw [← hm,← hW0] at u1 b0
 have H0:=Lib.hid hW0
 have HI:=Lib.hid (fun (t:ByteArray) (W':World) (b:Below W0.heap.size W0 W')=>zha _ ts t W' ((zbs (hsl.stays (zad b0))).below b) hq1)
 rw [← hm] at HI
 have HV:=Lib.hid (hst.below b0)
 have HL:=Lib.hid hl
 have HR:=Lib.hid hr
 have HB0:=Lib.hid b0
 have HU:=Lib.hid u1
 clear hW0 hsl hsp hst hc hl hm hr b0 hq1 hq2
 go_enter Tryz.func64,Tryz.ntmps64
 go_upto_region 1 with fail
 rw [← H0.out]
 clear u1
 go_wp2_with fail
 go_loopg [5] n (fun gg s5 wr=>∃ j:Nat,j+gg=n∧s5=.int .i64 j∧Hid (∀ i (h:i < ls.length),i < j→memB ls[i] ts=true)∧Hid (Below W0.heap.size W0 wr))
 case atStart=>exact ⟨0,by omega,rfl,Lib.hid (fun i _ h=>absurd h (by omega)),Lib.hid (Below.refl _ _)⟩
 case round=>
  obtain ⟨j,hjg,rfl,HA,HB⟩:=hrel
  by_cases hj:(j:Int) < n
  ·have hj1:j < ls.length:=by have:=HL.out;omega
   obtain ⟨pp',cc',e0,hcv⟩:=HV.out.below HB.out
   injection e0 with e1 e2 e3
   subst e1
   obtain ⟨g,off,rfl,hcj⟩:=hcv (by intro q;rw [q] at hj1;simp at hj1)
   obtain ⟨t,hte⟩:∃ t,t=ls[j]:=⟨_,rfl⟩
   have cj:wr.cell? ⟨g,off+j,none⟩=some (.string t):=by
    rw [hcj j hj1,hte]
    simp [hj1]
   have ux:=(HB.out.block _ (zaa HU.out)).trans HU.out
   have c1:=zac ux 1 rfl
   have HT:=Lib.hid hte
   obtain ⟨r1,hr1⟩:∃ r1,r1=memB t ts:=⟨_,rfl⟩
   have HIJ:=Lib.hid (HI.out t)
   rw [← hr1] at HIJ
   have hr1':=hr1
   have HR1:=Lib.hid hr1'
   clear hcj hcv e2 e3 hte ux hr1 hr1'
   have hB:=HB.out
   go_upto_region 4 with fail
   refine wp_region_held_drew (S:=fun W'=>W'.cell? ⟨g,off+j,none⟩=some (.string t)∧W'.cell? ⟨W.heap.size,1,none⟩=some (.slice lp m lc)) (by kernel_rfl) ⟨cj,c1⟩ (fun _=>?_)
   replace cj:wr.drew.cell? ⟨g,off+j,none⟩=_:=cj
   replace c1:wr.drew.cell? ⟨W.heap.size,1,none⟩=_:=c1
   replace hB:=hB.drew
   clear HB
   generalize wr.drew=wD at*
   cases r1 with
   | true=>
     have HA2:Hid (∀ i (h:i < ls.length),i < j+1→memB ls[i] ts=true):=Lib.hid fun i h1 h2=>by
      by_cases e:i=j
      ·subst e
       rw [← HT.out]
       exact HR1.out.symm
      ·exact HA.out i h1 (by omega)
     refine tg (i:=0) (.pointer (some ⟨W.heap.size,1,none⟩)) rfl (⟨cj,c1⟩) ?_
     refine tg (i:=2) (.slice (some ⟨g,off,none⟩) n cap) rfl (⟨cj,c1⟩) ?_
     refine tg (i:=3) (.int .i64 (j:Int)) rfl (⟨cj,c1⟩) ?_
     refine tk (i:=1) (v:=.slice lp m lc) rfl (Or.inl ⟨by rfl,fun W' h=>by have c0:=h.2;go_simp⟩) (⟨cj,c1⟩) ?_
     refine tg (i:=4) (.pointer (some ⟨g,off+j,none⟩)) rfl (⟨cj,c1⟩) ?_
     refine tk (i:=5) (v:=.string t) rfl (Or.inl ⟨by rfl,fun W' h=>by have c0:=h.1;go_simp⟩) (⟨cj,c1⟩) ?_
     refine tr 6 rfl (fun K hK=>?_)
     try rw [if_pos (by rfl)]
     go_simp
     refine (HIJ.out _ hB).mono ?_
     rintro e0 w4 ⟨ri,rfl,hi1,hi2,rfl⟩
     have hri:=hi1 rfl
     have hrd:decide (ri < 0)=false:=decide_eq_false (by omega)
     clear hi1 hi2
     refine hK.out _ _ (⟨cj,c1⟩) (fun _=>?_)
     clear hK K
     try simp only [putS]
     refine tg (i:=7) (.bool false) rfl (⟨cj,c1⟩) ?_
     refine wpAnyH_done (by kernel_rfl) ?_ _
     go_wp2_with fail
     go_roundg (gk - 1)
     case measure=>omega
     case rel=>exact ⟨j+1,by omega,by go_num,HA2,Lib.hid hB⟩
   | false=>
     have HR2:Hid (r=false):=Lib.hid (by
      rw [HR.out,Bool.eq_false_iff]
      intro q
      unfold ze4 at q
      rw [List.all_eq_true] at q
      have:=q _ (List.getElem_mem hj1)
      rw [← HT.out,← HR1.out] at this
      simp at this)
     refine tg (i:=0) (.pointer (some ⟨W.heap.size,1,none⟩)) rfl (⟨cj,c1⟩) ?_
     refine tg (i:=2) (.slice (some ⟨g,off,none⟩) n cap) rfl (⟨cj,c1⟩) ?_
     refine tg (i:=3) (.int .i64 (j:Int)) rfl (⟨cj,c1⟩) ?_
     refine tk (i:=1) (v:=.slice lp m lc) rfl (Or.inl ⟨by rfl,fun W' h=>by have c0:=h.2;go_simp⟩) (⟨cj,c1⟩) ?_
     refine tg (i:=4) (.pointer (some ⟨g,off+j,none⟩)) rfl (⟨cj,c1⟩) ?_
     refine tk (i:=5) (v:=.string t) rfl (Or.inl ⟨by rfl,fun W' h=>by have c0:=h.1;go_simp⟩) (⟨cj,c1⟩) ?_
     refine tr 6 rfl (fun K hK=>?_)
     try rw [if_pos (by rfl)]
     go_simp
     refine (HIJ.out _ hB).mono ?_
     rintro e0 w4 ⟨ri,rfl,hi1,hi2,rfl⟩
     have hri:=hi2 rfl
     have hrd:decide (ri < 0)=true:=decide_eq_true hri
     clear hi1 hi2
     refine hK.out _ _ (⟨cj,c1⟩) (fun _=>?_)
     clear hK K
     try simp only [putS]
     refine tg (i:=7) (.bool true) rfl (⟨cj,c1⟩) ?_
     refine wpAnyH_done (by kernel_rfl) ?_ _
     go_wp2_with fail
     go_ret
     exact ⟨by rw [HR2.out];rfl,zab HB0.out hB HB0.out.size⟩
  ·have HZ:Hid (r=true):=Lib.hid (by
    rw [HR.out]
    unfold ze4
    rw [List.all_eq_true]
    intro t ht
    obtain ⟨i,hi,rfl⟩:=List.getElem_of_mem ht
    exact HA.out i hi (by have:=HL.out;omega))
   go_wp2_with fail
   go_ret
   exact ⟨by rw [HZ.out];rfl,zab HB0.out HB.out HB0.out.size⟩
end Go.Proofs.YtcfmenkigolnoaaGreatDoor
