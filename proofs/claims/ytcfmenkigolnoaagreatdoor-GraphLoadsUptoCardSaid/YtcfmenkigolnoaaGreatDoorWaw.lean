/- Texts of one kind, one behind the other: each says ahead of itself what it shows. -/
import Derived.Test.YtcfmenkigolnoaaGreatDoorWav
import Derived.Test.YtcfmenkigolnoaaGreatDoorWam
import Derived.Test.YtcfmenkigolnoaaGreatDoorWap
/- GMA -/
namespace Go.Proofs.YtcfmenkigolnoaaGreatDoor
open Go.RowKit
theorem znb {w:World} {P:Nat→Prop} {v:Value} {l:List ByteArray} (h:zak zbq w P v l):∀ t∈l,t.size≤2097152:=by
 intro t ht
 obtain ⟨j,hj,rfl⟩:=List.getElem_of_mem ht
 obtain ⟨_,_,_,c,_,_,hc,_⟩:=h.at_ j hj
 exact hc.2
set_option maxHeartbeats 12800000 in
set_option maxRecDepth 20000 in
theorem zql (g:zau) (vn ve:Value) (W:World) (hn:zak zgw W (Old W) vn g.nodes) (he:zak zaz W (Old W) ve g.edges) (hn1:g.nodes.length≤2097152) (hn2:g.edges.length≤2097152):
 Calls Tryz.prog 14 #[.agg #[vn,ve]] W fun e w'=>e=.returned (.bool (zdt g))∧Below W.heap.size W w':=by
 obtain ⟨p1,c1,rfl⟩:=hn.slice
 obtain ⟨p2,c2,rfl⟩:=he.slice
 obtain ⟨n1,hl1⟩:∃ n,n=g.nodes.length:=⟨_,rfl⟩
 obtain ⟨n2,hl2⟩:∃ n,n=g.edges.length:=⟨_,rfl⟩
 obtain ⟨r0,hr0⟩:∃ r,r=zdt g:=⟨_,rfl⟩
 rw [← hr0,← hl1,← hl2]
 rw [← hl1] at hn hn1
 rw [← hl2] at he hn2
 have b0:=zas W (.cells #[.slice p1 n1 c1,.slice p2 n2 c2] 25)
 have u1:(W.alloc (.cells #[.slice p1 n1 c1,.slice p2 n2 c2] 25)).heap[W.heap.size]?=some (.cells #[.slice p1 n1 c1,.slice p2 n2 c2] 25 (0,0)):=zae _ _ rfl
 obtain ⟨W0,hW0⟩:∃ W0,W0=W.alloc (.cells #[.slice p1 n1 c1,.slice p2 n2 c2] 25):=⟨_,rfl⟩
 rw [← hW0] at u1 b0
 have H0:=Lib.hid hW0
 have H1:=Lib.hid (hn.stays (zad b0))
 have H2:=Lib.hid (he.stays (zad b0))
 have HL:=Lib.hid (And.intro hl1 hl2)
 have HR:=Lib.hid hr0
 have HB0:=Lib.hid b0
 have HU:=Lib.hid u1
 have k0:=zac u1 0 rfl
 have k1:=zac u1 1 rfl
 clear hW0 hn he hl1 hl2 hr0 b0 u1
 by_cases hb1:n1≤131072
 ·have hd1:decide ((131072:Int) < n1)=false:=decide_eq_false (by omega)
  by_cases hb2:n2≤65536
  ·have hd2:decide ((65536:Int) < n2)=false:=decide_eq_false (by omega)
   have HBD:=Lib.hid (And.intro hb1 hb2)
   clear hb1 hb2
   go_enter Tryz.func14,Tryz.ntmps14
   go_upto_region 1 with fail
   rw [← H0.out]
   go_wp2_with fail
   clear hd1 hd2 k0 k1
   go_loopg [3] n1 (fun gg s3 wr=>∃ j:Nat,j+gg=n1∧s3=.int .i64 j∧Hid (allN ze9 zap.id (g.nodes.take j)=true)∧Hid (Below W0.heap.size W0 wr))
   case atStart=>exact ⟨0,by omega,rfl,Lib.hid (by simp [allN]),Lib.hid (Below.refl _ _)⟩
   case round=>
    obtain ⟨j,hjg,rfl,HA,HB⟩:=hrel
    have u:=(HB.out.block _ (zaa HU.out)).trans HU.out
    have k0:=zac u 0 rfl
    by_cases hj:(j:Int) < n1
    ·have hj1:j < g.nodes.length:=by have:=HL.out.1;omega
     obtain ⟨gN,o,cp1,cc1,e1,hg1,hr1,hra1⟩:=(H1.out.stays (zad HB.out)).at_ j hj1
     injection e1 with e11 e12 e13
     subst e11
     obtain ⟨a,ha⟩:∃ a,a=g.nodes[j]:=⟨_,rfl⟩
     rw [← ha] at hr1
     obtain ⟨id,ls,ps⟩:=a
     obtain ⟨⟨lv,pv,rfl,hwf,hq1,hq2,hsl,hsp⟩,hcp⟩:=hr1
     obtain ⟨lp,lc,rfl⟩:=hsl.slice
     obtain ⟨pp,pc,rfl⟩:=hsp.slice
     have hcap:=(hcp _ rfl).1
     have hra:wr.rangeAt gN (o+j*3) [.int .i64 id,.slice lp ls.length lc,.slice pp ps.length pc]:=hra1
     obtain ⟨m1,hm1⟩:∃ m,m=ls.length:=⟨_,rfl⟩
     obtain ⟨m2,hm2⟩:∃ m,m=ps.length:=⟨_,rfl⟩
     have hat:(g.nodes.map zap.id)[j]?=some id:=by rw [List.getElem?_map,List.getElem?_eq_getElem hj1,← ha];rfl
     have HNE:Hid (∀ W',Below wr.heap.size wr W'→Calls Tryz.prog 39 #[.agg #[.slice (some ⟨gN,o,none⟩) n1 c1,.slice p2 n2 c2],.int .i64 id] W' fun e w'=>∃ r,e=.returned (.int .i64 r)∧zea (g.nodes.map zap.id) id r∧Below W'.heap.size W' w'):=Lib.hid fun W' b=>zm9 g.nodes _ _ id W' (zda ((H1.out.stays (zad HB.out)).stays (zad b))) ⟨_,_,_,rfl⟩ (by have:=HL.out.1;omega)
     have HLB0:Hid (∀ W',Below wr.heap.size wr W'→Calls Tryz.prog 40 #[.slice lp m1 lc] W' fun e w'=>e=.returned (.bool (zcv ls))∧Below W'.heap.size W' w'):=Lib.hid fun W' b=>by
      rw [hm1]
      exact zof _ ls W' (zc1 (hsl.stays (zad b))) hcap (znb hsl) hq1
     have HPR0:Hid (∀ W',Below wr.heap.size wr W'→Calls Tryz.prog 41 #[.slice pp m2 pc] W' fun e w'=>e=.returned (.bool (zb9 ps))∧Below W'.heap.size W' w'):=Lib.hid fun W' b=>by
      rw [hm2]
      exact zjg _ ps W' (hsp.stays (zad b)) hq2
     have hNP:ze9 ⟨id,ls,ps⟩=((decide (0≤id) && zcv ls) && zb9 ps):=rfl
     have HNO0:Hid ((((decide (0≤id) && zcv ls) && zb9 ps) && !decide (id∈(g.nodes.map zap.id).take j))=false→r0=false):=Lib.hid fun h=>by
      have h2:allN ze9 zap.id g.nodes=false:=zud hj1 (by rw [← ha,hNP];exact h)
      rw [HR.out,zew,h2,Bool.false_and,Bool.and_false]
     have HYE:Hid ((((decide (0≤id) && zcv ls) && zb9 ps) && !decide (id∈(g.nodes.map zap.id).take j))=true→allN ze9 zap.id (g.nodes.take (j+1))=true):=Lib.hid fun h=>by
      rw [zig ze9 zap.id g.nodes j hj1,HA.out,← ha,hNP]
      exact h
     obtain ⟨r1,hr1⟩:∃ r1,r1=zcv ls:=⟨_,rfl⟩
     obtain ⟨r2,hr2⟩:∃ r2,r2=zb9 ps:=⟨_,rfl⟩
     rw [← hm1,← hm2] at hra
     rw [← hr1] at HLB0 HNO0 HYE
     rw [← hr2] at HPR0 HNO0 HYE
     have HAT:=Lib.hid hat
     clear hNP hat hra1 e12 e13 ha hsl hsp hcp hcap hq1 hq2 hm1 hm2 hr1 hr2 HA
     go_upto_region 7 with (first
      |((with_reducible refine zav (.tmp 28) gN (o+j*3) 38 [.int .i64 id,.slice lp m1 lc,.slice pp m2 pc] 3 _ hra rfl Tryz.underlying38 rfl zal ?_ ?_ ?_ ?_);rfl;rfl;rfl)
      |((with_reducible refine zah (.tmp 4) (.tmp 29) wr.heap.size 38 38 _ [.int .i64 id,.slice lp m1 lc,.slice pp m2 pc] 3 (zae _ _ rfl) rfl ?_ ?_ ?_ ?_ zal rfl (by simp [Value.oneCell']) ?_);rfl;rfl;rfl;rfl;intro wX oX hx))
     have bX:Below wr.heap.size wr wX:=zag (zas wr _) oX (Nat.le_refl _) (by simp)
     obtain ⟨xb,hxb⟩:∃ xb,xb=wr.heap.size:=⟨_,rfl⟩
     rw [← hxb] at hx ⊢
     have uX:=(bX.block _ (zaa u)).trans u
     have hBX:=zab HB.out bX HB.out.size
     have HNO:=Lib.hid (HNE.out wX bX)
     have HLB:Hid (∀ W',Below wX.heap.size wX W'→_):=Lib.hid fun W' b=>HLB0.out W' (zab bX b bX.size)
     have HPR:Hid (∀ W',Below wX.heap.size wX W'→_):=Lib.hid fun W' b=>HPR0.out W' (zab bX b bX.size)
     have d0:=zac hx 0 rfl
     have d1:=zac hx 1 rfl
     have d2:=zac hx 2 rfl
     clear hra u k0 oX bX hx hxb HNE HLB0 HPR0
     have HBX:=Lib.hid hBX
     by_cases hid:0≤id
     ·have hidd:decide (id < 0)=false:=decide_eq_false (by omega)
      by_cases hdup:id∈(g.nodes.map zap.id).take j
      ·obtain rfl:r0=false:=HNO0.out (by rw [decide_eq_true hdup];simp)
       have HRJ:Hid (∀ r,zea (g.nodes.map zap.id) id r→(r == (j:Int))=false):=Lib.hid fun r h=>by
        have:r≠(j:Int):=fun q=>(zph h HAT.out).1 q hdup
        simpa using this
       clear hdup
       go_wp2_with (first
        |((with_reducible refine zba (.tmp 1) W.heap.size 25 25 [.slice (some ⟨gN,o,none⟩) n1 c1,.slice p2 n2 c2] 2 _ uX rfl Tryz.underlying25 rfl zbg ?_ ?_ ?_ ?_);rfl;rfl;rfl)
        |(go_at_call 39;(with_reducible refine HNO.out.mono ?_);rintro e w3 ⟨r,rfl,hfr,hb3⟩;have b3:=zab hBX hb3 hBX.size;have hrj:=HRJ.out r hfr;have hrk:(r != (j:Int))=true:=congrArg not hrj;have bx3:=hb3;have d1:=zaq d1 hb3;have d2:=zaq d2 hb3))
       go_ret
       exact ⟨rfl,zab HB0.out b3 HB0.out.size⟩
      ·have HRJ:Hid (∀ r,zea (g.nodes.map zap.id) id r→r=(j:Int)):=Lib.hid fun r h=>(zph h HAT.out).2 hdup
       rw [decide_eq_false hdup,decide_eq_true hid] at HNO0 HYE
       clear hdup
       cases r1 with
       | false=>
         obtain rfl:r0=false:=HNO0.out rfl
         go_wp2_with (first
          |((with_reducible refine zba (.tmp 1) W.heap.size 25 25 [.slice (some ⟨gN,o,none⟩) n1 c1,.slice p2 n2 c2] 2 _ uX rfl Tryz.underlying25 rfl zbg ?_ ?_ ?_ ?_);rfl;rfl;rfl)
          |(go_at_call 39;(with_reducible refine HNO.out.mono ?_);rintro e w3 ⟨r,rfl,hfr,hb3⟩;have b3:=zab hBX hb3 hBX.size;obtain rfl:=HRJ.out r hfr;have bx3:=hb3;have d1:=zaq d1 hb3;have d2:=zaq d2 hb3)
          |(go_at_call 40;(with_reducible refine (HLB.out _ bx3).mono ?_);rintro e w4 ⟨rfl,hb4⟩;have bx4:=zab bx3 hb4 bx3.size;have d2:=zaq d2 hb4))
         go_ret
         exact ⟨rfl,zab HB0.out (zab HBX.out bx4 HBX.out.size) HB0.out.size⟩
       | true=>
         cases r2 with
         | false=>
           obtain rfl:r0=false:=HNO0.out rfl
           go_wp2_with (first
            |((with_reducible refine zba (.tmp 1) W.heap.size 25 25 [.slice (some ⟨gN,o,none⟩) n1 c1,.slice p2 n2 c2] 2 _ uX rfl Tryz.underlying25 rfl zbg ?_ ?_ ?_ ?_);rfl;rfl;rfl)
            |(go_at_call 39;(with_reducible refine HNO.out.mono ?_);rintro e w3 ⟨r,rfl,hfr,hb3⟩;have b3:=zab hBX hb3 hBX.size;obtain rfl:=HRJ.out r hfr;have bx3:=hb3;have d1:=zaq d1 hb3;have d2:=zaq d2 hb3)
            |(go_at_call 40;(with_reducible refine (HLB.out _ bx3).mono ?_);rintro e w4 ⟨rfl,hb4⟩;have bx4:=zab bx3 hb4 bx3.size;have d2:=zaq d2 hb4)
            |(go_at_call 41;(with_reducible refine (HPR.out _ bx4).mono ?_);rintro e w5 ⟨rfl,hb5⟩;have bx5:=zab bx4 hb5 bx4.size))
           go_ret
           exact ⟨rfl,zab HB0.out (zab HBX.out bx5 HBX.out.size) HB0.out.size⟩
         | true=>
           go_wp2_with (first
            |((with_reducible refine zba (.tmp 1) W.heap.size 25 25 [.slice (some ⟨gN,o,none⟩) n1 c1,.slice p2 n2 c2] 2 _ uX rfl Tryz.underlying25 rfl zbg ?_ ?_ ?_ ?_);rfl;rfl;rfl)
            |(go_at_call 39;(with_reducible refine HNO.out.mono ?_);rintro e w3 ⟨r,rfl,hfr,hb3⟩;have b3:=zab hBX hb3 hBX.size;obtain rfl:=HRJ.out r hfr;have bx3:=hb3;have d1:=zaq d1 hb3;have d2:=zaq d2 hb3)
            |(go_at_call 40;(with_reducible refine (HLB.out _ bx3).mono ?_);rintro e w4 ⟨rfl,hb4⟩;have bx4:=zab bx3 hb4 bx3.size;have d2:=zaq d2 hb4)
            |(go_at_call 41;(with_reducible refine (HPR.out _ bx4).mono ?_);rintro e w5 ⟨rfl,hb5⟩;have bx5:=zab bx4 hb5 bx4.size))
           go_roundg (gk - 1)
           case measure=>omega
           case rel=>exact ⟨j+1,by omega,by go_num,Lib.hid (HYE.out rfl),Lib.hid (zab HBX.out bx5 HBX.out.size)⟩
     ·obtain rfl:r0=false:=HNO0.out (by rw [decide_eq_false hid];rfl)
      have hidd:decide (id < 0)=true:=decide_eq_true (by omega)
      go_wp2_with fail
      go_ret
      exact ⟨rfl,zab HB0.out HBX.out HB0.out.size⟩
    ·have HAN:Hid (allN ze9 zap.id g.nodes=true):=Lib.hid (by
      have e:g.nodes.take j=g.nodes:=by rw [List.take_of_length_le];have:=HL.out.1;omega
      rw [← e]
      exact HA.out)
     have HB7:=HB
     have k1:=zac u 1 rfl
     clear HA HB
     go_wp2_with fail
     obtain ⟨wS,hwS⟩:∃ wS,wS=wr:=⟨_,rfl⟩
     clear k0 k1 u
     go_loopg [5] n2 (fun gg s5 wr2=>∃ j:Nat,j+gg=n2∧s5=.int .i64 j∧Hid (allN (zfo (idsN g)) zat.id (g.edges.take j)=true)∧Hid (Below W0.heap.size W0 wr2))
     case atStart=>exact ⟨0,by omega,rfl,Lib.hid (by simp [allN]),HB7⟩
     case round=>
      clear hj hjg HB7 hwS
      obtain ⟨j,hjg,rfl,HA,HB⟩:=hrel
      have u:=(HB.out.block _ (zaa HU.out)).trans HU.out
      have k1:=zac u 1 rfl
      by_cases hj:(j:Int) < n2
      ·have hj1:j < g.edges.length:=by have:=HL.out.2;omega
       obtain ⟨gE,o,cp1,cc1,e1,hg1,hr1,hra1⟩:=(H2.out.stays (zad HB.out)).at_ j hj1
       injection e1 with e11 e12 e13
       subst e11
       obtain ⟨a,ha⟩:∃ a,a=g.edges[j]:=⟨_,rfl⟩
       rw [← ha] at hr1
       obtain ⟨id,src,dst,ty,ps⟩:=a
       obtain ⟨pv,rfl,hwf,hq1,hq2,hsp⟩:=hr1
       obtain ⟨pp,pc,rfl⟩:=hsp.slice
       have hra:wr.rangeAt gE (o+j*5) [.int .i64 id,.int .i64 src,.int .i64 dst,.string ty,.slice pp ps.length pc]:=hra1
       obtain ⟨m2,hm2⟩:∃ m,m=ps.length:=⟨_,rfl⟩
       have HNE:Hid (∀ x W',Below wr.heap.size wr W'→Calls Tryz.prog 39 #[.agg #[.slice p1 n1 c1,.slice (some ⟨gE,o,none⟩) n2 c2],.int .i64 x] W' fun e w'=>∃ r,e=.returned (.int .i64 r)∧zea (g.nodes.map zap.id) x r∧Below W'.heap.size W' w'):=Lib.hid fun x W' b=>zm9 g.nodes _ _ x W' (zda ((H1.out.stays (zad HB.out)).stays (zad b))) ⟨_,_,_,rfl⟩ (by have:=HL.out.1;omega)
       have HWD0:Hid (∀ W',Calls Tryz.prog 42 #[.string ty] W' fun e w'=>e=.returned (.bool (zci ty))∧W'=w'):=Lib.hid fun W'=>zic ty W' hq1
       have HPR0:Hid (∀ W',Below wr.heap.size wr W'→Calls Tryz.prog 41 #[.slice pp m2 pc] W' fun e w'=>e=.returned (.bool (zb9 ps))∧Below W'.heap.size W' w'):=Lib.hid fun W' b=>by
        rw [hm2]
        exact zjg _ ps W' (hsp.stays (zad b)) hq2
       have hNP:zfo (idsN g) ⟨id,src,dst,ty,ps⟩=((decide (src∈g.nodes.map zap.id) && decide (dst∈g.nodes.map zap.id)) && ((decide (0≤id) && zci ty) && zb9 ps)):=rfl
       have HNO0:Hid ((((decide (src∈g.nodes.map zap.id) && decide (dst∈g.nodes.map zap.id)) && ((decide (0≤id) && zci ty) && zb9 ps)) && !decide (id∈(g.edges.map zat.id).take j))=false→r0=false):=Lib.hid fun h=>by
        have h2:allN (zfo (idsN g)) zat.id g.edges=false:=zud hj1 (by rw [← ha,hNP];exact h)
        rw [HR.out,zew,h2,Bool.and_false,Bool.and_false]
       have HYE:Hid ((((decide (src∈g.nodes.map zap.id) && decide (dst∈g.nodes.map zap.id)) && ((decide (0≤id) && zci ty) && zb9 ps)) && !decide (id∈(g.edges.map zat.id).take j))=true→allN (zfo (idsN g)) zat.id (g.edges.take (j+1))=true):=Lib.hid fun h=>by
        rw [zig (zfo (idsN g)) zat.id g.edges j hj1,HA.out,← ha,hNP]
        exact h
       have HKY:Hid (id=g.edges[j].id):=Lib.hid (by rw [← ha])
       obtain ⟨r1,hr1⟩:∃ r1,r1=zci ty:=⟨_,rfl⟩
       obtain ⟨r2,hr2⟩:∃ r2,r2=zb9 ps:=⟨_,rfl⟩
       rw [← hm2] at hra
       rw [← hr1] at HWD0 HNO0 HYE
       rw [← hr2] at HPR0 HNO0 HYE
       clear hNP hra1 e12 e13 ha hsp hq1 hq2 hm2 hr1 hr2 HA
       go_upto_region 13 with (first
        |((with_reducible refine zav (.tmp 63) gE (o+j*5) 41 [.int .i64 id,.int .i64 src,.int .i64 dst,.string ty,.slice pp m2 pc] 5 _ hra rfl Tryz.underlying41 rfl zan ?_ ?_ ?_ ?_);rfl;rfl;rfl)
        |((with_reducible refine zah (.tmp 6) (.tmp 64) wr.heap.size 41 41 _ [.int .i64 id,.int .i64 src,.int .i64 dst,.string ty,.slice pp m2 pc] 5 (zae _ _ rfl) rfl ?_ ?_ ?_ ?_ zan rfl (by simp [Value.oneCell']) ?_);rfl;rfl;rfl;rfl;intro wX oX hx))
       have bX:Below wr.heap.size wr wX:=zag (zas wr _) oX (Nat.le_refl _) (by simp)
       obtain ⟨xb,hxb⟩:∃ xb,xb=wr.heap.size:=⟨_,rfl⟩
       rw [← hxb] at hx ⊢
       have uX:=(bX.block _ (zaa u)).trans u
       have hBX:=zab HB.out bX HB.out.size
       have HSR:=Lib.hid (HNE.out src wX bX)
       have HDS:Hid (∀ W',Below wX.heap.size wX W'→_):=Lib.hid fun W' b=>HNE.out dst W' (zab bX b bX.size)
       have HPR:Hid (∀ W',Below wX.heap.size wX W'→_):=Lib.hid fun W' b=>HPR0.out W' (zab bX b bX.size)
       have HX:=Lib.hid hx
       have HXE:=Lib.hid hxb
       have d0:=zac hx 0 rfl
       have d1:=zac hx 1 rfl
       have d2:=zac hx 2 rfl
       have d3:=zac hx 3 rfl
       have d4:=zac hx 4 rfl
       clear hra u k1 oX bX hx hxb HNE HPR0
       have HBX:=Lib.hid hBX
       clear HB
       by_cases hid:0≤id
       ·have hidd:decide (id < 0)=false:=decide_eq_false (by omega)
        by_cases hsrc:src∈g.nodes.map zap.id
        ·have HS2:Hid (∀ r,zea (g.nodes.map zap.id) src r→decide (r < 0)=false):=Lib.hid fun r h=>decide_eq_false fun q=>(zf6 h).1 q hsrc
         by_cases hdst:dst∈g.nodes.map zap.id
         ·have HD2:Hid (∀ r,zea (g.nodes.map zap.id) dst r→decide (r < 0)=false):=Lib.hid fun r h=>decide_eq_false fun q=>(zf6 h).1 q hdst
          rw [decide_eq_true hid,decide_eq_true hsrc,decide_eq_true hdst] at HNO0 HYE
          clear hsrc hdst
          cases r1 with
          | false=>
            obtain rfl:r0=false:=HNO0.out rfl
            go_wp2_with (first
             |((with_reducible refine zba (.tmp 1) W.heap.size 25 25 [.slice p1 n1 c1,.slice (some ⟨gE,o,none⟩) n2 c2] 2 _ uX rfl Tryz.underlying25 rfl zbg ?_ ?_ ?_ ?_);rfl;rfl;rfl)
             |((with_reducible refine zba (.tmp 1) W.heap.size 25 25 [.slice p1 n1 c1,.slice (some ⟨gE,o,none⟩) n2 c2] 2 _ u3 rfl Tryz.underlying25 rfl zbg ?_ ?_ ?_ ?_);rfl;rfl;rfl)
             |(go_at_call 39;(with_reducible refine HSR.out.mono ?_);rintro e w3 ⟨r,rfl,hfr,hb3⟩;have hs3:=HS2.out r hfr;have bx3:=hb3;have b3:=hb3;have u3:=(hb3.block _ (zaa uX)).trans uX;have d2:=zaq d2 hb3;have d3:=zaq d3 hb3;have d4:=zaq d4 hb3)
             |(go_at_call 39;(with_reducible refine (HDS.out _ bx3).mono ?_);rintro e w4 ⟨r2',rfl,hfr2,hb4⟩;have hs4:=HD2.out r2' hfr2;have bx4:=zab bx3 hb4 bx3.size;have d3:=zaq d3 hb4;have d4:=zaq d4 hb4)
             |(go_at_call 42;(with_reducible refine (HWD0.out _).mono ?_);rintro e w4' ⟨rfl,rfl⟩))
            go_ret
            exact ⟨rfl,zab HB0.out (zab HBX.out bx4 HBX.out.size) HB0.out.size⟩
          | true=>
            cases r2 with
            | false=>
              obtain rfl:r0=false:=HNO0.out rfl
              go_wp2_with (first
               |((with_reducible refine zba (.tmp 1) W.heap.size 25 25 [.slice p1 n1 c1,.slice (some ⟨gE,o,none⟩) n2 c2] 2 _ uX rfl Tryz.underlying25 rfl zbg ?_ ?_ ?_ ?_);rfl;rfl;rfl)
               |((with_reducible refine zba (.tmp 1) W.heap.size 25 25 [.slice p1 n1 c1,.slice (some ⟨gE,o,none⟩) n2 c2] 2 _ u3 rfl Tryz.underlying25 rfl zbg ?_ ?_ ?_ ?_);rfl;rfl;rfl)
               |(go_at_call 39;(with_reducible refine HSR.out.mono ?_);rintro e w3 ⟨r,rfl,hfr,hb3⟩;have hs3:=HS2.out r hfr;have bx3:=hb3;have b3:=hb3;have u3:=(hb3.block _ (zaa uX)).trans uX;have d2:=zaq d2 hb3;have d3:=zaq d3 hb3;have d4:=zaq d4 hb3)
               |(go_at_call 39;(with_reducible refine (HDS.out _ bx3).mono ?_);rintro e w4 ⟨r2',rfl,hfr2,hb4⟩;have hs4:=HD2.out r2' hfr2;have bx4:=zab bx3 hb4 bx3.size;have d3:=zaq d3 hb4;have d4:=zaq d4 hb4)
               |(go_at_call 42;(with_reducible refine (HWD0.out _).mono ?_);rintro e w4' ⟨rfl,rfl⟩)
               |(go_at_call 41;(with_reducible refine (HPR.out _ bx4).mono ?_);rintro e w5 ⟨rfl,hb5⟩;have bx5:=zab bx4 hb5 bx4.size))
              go_ret
              exact ⟨rfl,zab HB0.out (zab HBX.out bx5 HBX.out.size) HB0.out.size⟩
            | true=>
              go_wp2_with (first
               |((with_reducible refine zba (.tmp 1) W.heap.size 25 25 [.slice p1 n1 c1,.slice (some ⟨gE,o,none⟩) n2 c2] 2 _ uX rfl Tryz.underlying25 rfl zbg ?_ ?_ ?_ ?_);rfl;rfl;rfl)
               |((with_reducible refine zba (.tmp 1) W.heap.size 25 25 [.slice p1 n1 c1,.slice (some ⟨gE,o,none⟩) n2 c2] 2 _ u3 rfl Tryz.underlying25 rfl zbg ?_ ?_ ?_ ?_);rfl;rfl;rfl)
               |(go_at_call 39;(with_reducible refine HSR.out.mono ?_);rintro e w3 ⟨r,rfl,hfr,hb3⟩;have hs3:=HS2.out r hfr;have bx3:=hb3;have b3:=hb3;have u3:=(hb3.block _ (zaa uX)).trans uX;have d2:=zaq d2 hb3;have d3:=zaq d3 hb3;have d4:=zaq d4 hb3)
               |(go_at_call 39;(with_reducible refine (HDS.out _ bx3).mono ?_);rintro e w4 ⟨r2',rfl,hfr2,hb4⟩;have hs4:=HD2.out r2' hfr2;have bx4:=zab bx3 hb4 bx3.size;have d3:=zaq d3 hb4;have d4:=zaq d4 hb4)
               |(go_at_call 42;(with_reducible refine (HWD0.out _).mono ?_);rintro e w4' ⟨rfl,rfl⟩)
               |(go_at_call 41;(with_reducible refine (HPR.out _ bx4).mono ?_);rintro e w5 ⟨rfl,hb5⟩;have bx5:=zab bx4 hb5 bx4.size))
              have HX5:=Lib.hid ((bx5.block _ (zaa HX.out)).trans HX.out)
              have HB5:=Lib.hid (zab HBX.out bx5 HBX.out.size)
              have HU5:=Lib.hid ((bx5.block _ (zaa uX)).trans uX)
              obtain ⟨wC,hwC⟩:∃ wC,wC=w5:=⟨_,rfl⟩
              rw [← hwC] at HX5 HB5 HU5 ⊢
              clear hwC d0 d1 d2 d3 d4 uX hBX HX HSR HDS HPR HWD0
              clear hb3 hb4 hb5 bx3 bx4 bx5 hfr hfr2 b3 HBX
              go_loopg [7] j (fun gg s7 wr3=>∃ i:Nat,i+gg=j∧s7=.int .i64 i∧Hid (∀ m (h:m < g.edges.length),m < i→g.edges[m].id≠id)∧Hid (Below wC.heap.size wC wr3))
              case atStart=>exact ⟨0,by omega,rfl,Lib.hid (fun m _ h=>absurd h (by omega)),Lib.hid (Below.refl _ _)⟩
              case round=>
               obtain ⟨i,hig,rfl,HC,HB⟩:=hrel
               have hBW:=zab HB5.out HB.out HB5.out.size
               by_cases hi:(i:Int) < j
               ·have hi1:i < g.edges.length:=by omega
                have u:=(HB.out.block _ (zaa HU5.out)).trans HU5.out
                have ux:=(HB.out.block _ (zaa HX5.out)).trans HX5.out
                have k1:=zac u 1 rfl
                have d0:=zac ux 0 rfl
                obtain ⟨g1,o1,cp1,cc1,e1,hg1,hr1,hra1⟩:=(H2.out.stays (zad hBW)).at_ i hi1
                injection e1 with e11 e12 e13
                injection e11 with e14
                injection e14 with e15 e16
                subst e15 e16
                obtain ⟨y,hy⟩:∃ y,y=g.edges[i].id:=⟨_,rfl⟩
                obtain ⟨t1,rfl,_⟩:=hr1
                have c1':=hra1 0 _ rfl
                rw [← hy] at c1'
                replace c1':wr.cell? ⟨gE,o+i*5,none⟩=some (.int .i64 y):=c1'
                have HYY:=Lib.hid hy
                clear hra1 e12 e13 hy u ux
                by_cases q:y=id
                ·subst q
                 have HR2:Hid (r0=false):=Lib.hid (HNO0.out (by
                  have:y∈(g.edges.map zat.id).take j:=by
                   rw [HYY.out]
                   refine List.mem_iff_getElem.2 ⟨i,by rw [List.length_take,List.length_map];omega,?_⟩
                   rw [List.getElem_take,List.getElem_map]
                  rw [decide_eq_true this]
                  rfl))
                 go_upto_region 18 with fail
                 go_quiet (fail)
                 have hB9:=hBW.trans (zbt (Below.refl _ wr) nq |>.mono hBW.size)
                 clear c1' k1 d0 hBW HB
                 generalize wr.drewN nq=w9 at*
                 go_wp2_with fail
                 go_ret
                 exact ⟨by rw [HR2.out];rfl,zab HB0.out hB9 HB0.out.size⟩
                ·have q2:(y == id)=false:=by simpa using q
                 have HC2:Hid (∀ m (h:m < g.edges.length),m < i+1→g.edges[m].id≠id):=Lib.hid fun m h1 h2=>by
                  by_cases e:m=i
                  ·subst e
                   rw [← HYY.out]
                   exact q
                  ·exact HC.out m h1 (by omega)
                 clear q
                 go_upto_region 18 with fail
                 go_quiet (fail)
                 have hB9:=HB.out.trans (zbt (Below.refl _ wr) nq |>.mono HB.out.size)
                 clear c1' k1 d0 hBW HB
                 generalize wr.drewN nq=w9 at*
                 go_wp2_with fail
                 go_roundg (gk - 1)
                 case measure=>omega
                 case rel=>exact ⟨i+1,by omega,by go_num,HC2,Lib.hid hB9⟩
               ·have HM:Hid (allN (zfo (idsN g)) zat.id (g.edges.take (j+1))=true):=Lib.hid (HYE.out (by
                 have:¬ id∈(g.edges.map zat.id).take j:=fun h=>by
                  obtain ⟨m,hm,e⟩:=List.getElem_of_mem h
                  rw [List.length_take,List.length_map] at hm
                  rw [List.getElem_take,List.getElem_map] at e
                  exact HC.out m (by omega) (by omega) e
                 rw [decide_eq_false this]
                 rfl))
                go_wp2_with fail
                go_roundg (n2 - (j+1))
                case measure=>omega
                case rel=>exact ⟨j+1,by omega,by go_num,HM,Lib.hid hBW⟩
         ·obtain rfl:r0=false:=HNO0.out (by rw [decide_eq_false hdst];simp)
          have HD2:Hid (∀ r,zea (g.nodes.map zap.id) dst r→decide (r < 0)=true):=Lib.hid fun r h=>decide_eq_true ((zf6 h).2 hdst)
          clear hdst hsrc
          go_wp2_with (first
           |((with_reducible refine zba (.tmp 1) W.heap.size 25 25 [.slice p1 n1 c1,.slice (some ⟨gE,o,none⟩) n2 c2] 2 _ uX rfl Tryz.underlying25 rfl zbg ?_ ?_ ?_ ?_);rfl;rfl;rfl)
           |((with_reducible refine zba (.tmp 1) W.heap.size 25 25 [.slice p1 n1 c1,.slice (some ⟨gE,o,none⟩) n2 c2] 2 _ u3 rfl Tryz.underlying25 rfl zbg ?_ ?_ ?_ ?_);rfl;rfl;rfl)
           |(go_at_call 39;(with_reducible refine HSR.out.mono ?_);rintro e w3 ⟨r,rfl,hfr,hb3⟩;have hs3:=HS2.out r hfr;have bx3:=hb3;have b3:=hb3;have u3:=(hb3.block _ (zaa uX)).trans uX;have d2:=zaq d2 hb3;have d3:=zaq d3 hb3;have d4:=zaq d4 hb3)
           |(go_at_call 39;(with_reducible refine (HDS.out _ bx3).mono ?_);rintro e w4 ⟨r2',rfl,hfr2,hb4⟩;have hs4:=HD2.out r2' hfr2;have bx4:=zab bx3 hb4 bx3.size;have d3:=zaq d3 hb4;have d4:=zaq d4 hb4))
          go_ret
          exact ⟨rfl,zab HB0.out (zab HBX.out bx4 HBX.out.size) HB0.out.size⟩
        ·obtain rfl:r0=false:=HNO0.out (by rw [decide_eq_false hsrc];simp)
         have HS2:Hid (∀ r,zea (g.nodes.map zap.id) src r→decide (r < 0)=true):=Lib.hid fun r h=>decide_eq_true ((zf6 h).2 hsrc)
         clear hsrc
         go_wp2_with (first
          |((with_reducible refine zba (.tmp 1) W.heap.size 25 25 [.slice p1 n1 c1,.slice (some ⟨gE,o,none⟩) n2 c2] 2 _ uX rfl Tryz.underlying25 rfl zbg ?_ ?_ ?_ ?_);rfl;rfl;rfl)
          |(go_at_call 39;(with_reducible refine HSR.out.mono ?_);rintro e w3 ⟨r,rfl,hfr,hb3⟩;have hs3:=HS2.out r hfr;have bx3:=hb3;have b3:=hb3;have u3:=(hb3.block _ (zaa uX)).trans uX;have d2:=zaq d2 hb3;have d3:=zaq d3 hb3;have d4:=zaq d4 hb3))
         go_ret
         exact ⟨rfl,zab HB0.out (zab HBX.out bx3 HBX.out.size) HB0.out.size⟩
       ·obtain rfl:r0=false:=HNO0.out (by rw [decide_eq_false hid];simp)
        have hidd:decide (id < 0)=true:=decide_eq_true (by omega)
        go_wp2_with fail
        go_ret
        exact ⟨rfl,zab HB0.out HBX.out HB0.out.size⟩
      ·have HZ:Hid (r0=true):=Lib.hid (by
        have e:g.edges.take j=g.edges:=by rw [List.take_of_length_le];have:=HL.out.2;omega
        have h:=HA.out
        rw [e] at h
        rw [HR.out,zew,HAN.out,h,← HL.out.1,← HL.out.2,decide_eq_true HBD.out.1,decide_eq_true HBD.out.2]
        rfl)
       go_wp2_with fail
       go_ret
       exact ⟨by rw [HZ.out];rfl,zab HB0.out HB.out HB0.out.size⟩
  ·have hd2:decide ((65536:Int) < n2)=true:=decide_eq_true (by omega)
   obtain rfl:r0=false:=by
    rw [HR.out,zew,← HL.out.2,decide_eq_false hb2,Bool.and_false,Bool.false_and]
   clear hb1 hb2
   go_enter Tryz.func14,Tryz.ntmps14
   go_upto_region 1 with fail
   rw [← H0.out]
   go_wp2_with fail
   go_ret
   exact ⟨rfl,HB0.out⟩
 ·have hd1:decide ((131072:Int) < n1)=true:=decide_eq_true (by omega)
  obtain rfl:r0=false:=by
   rw [HR.out,zew,← HL.out.1,decide_eq_false hb1,Bool.false_and,Bool.false_and]
  clear hb1
  go_enter Tryz.func14,Tryz.ntmps14
  go_upto_region 1 with fail
  rw [← H0.out]
  go_wp2_with fail
  go_ret
  exact ⟨rfl,HB0.out⟩
end Go.Proofs.YtcfmenkigolnoaaGreatDoor

/- GND -/
namespace Go.Proofs.YtcfmenkigolnoaaGreatDoor
open Go.RowKit
end Go.Proofs.YtcfmenkigolnoaaGreatDoor

/- GMH -/
namespace Go.Proofs.YtcfmenkigolnoaaGreatDoor
open Go.RowKit
end Go.Proofs.YtcfmenkigolnoaaGreatDoor

/- GMN -/
namespace Go.Proofs.YtcfmenkigolnoaaGreatDoor
open Go.RowKit
end Go.Proofs.YtcfmenkigolnoaaGreatDoor

/- GMO -/
namespace Go.Proofs.YtcfmenkigolnoaaGreatDoor
open Go.RowKit
end Go.Proofs.YtcfmenkigolnoaaGreatDoor

/- GMQ -/
namespace Go.Proofs.YtcfmenkigolnoaaGreatDoor
open Go.RowKit
end Go.Proofs.YtcfmenkigolnoaaGreatDoor

/- GMR -/
namespace Go.Proofs.YtcfmenkigolnoaaGreatDoor
open Go.RowKit
end Go.Proofs.YtcfmenkigolnoaaGreatDoor

/- GEP -/
namespace Go.Proofs.YtcfmenkigolnoaaGreatDoor
open Go.RowKit
theorem zue (g:zau) (i:Int):i∈zd2 g↔i∈g.nodes.map zap.id:=List.mem_mergeSort
theorem zuf (g:zau) (i:Int):i∈zdx g↔i∈g.edges.map zat.id:=List.mem_mergeSort
section
variable {g:zau} (hg:zel g)
include hg
theorem zih (i:Int) (hi:i∈zd2 g):(zh1 g i).id=i:=by
 obtain ⟨a,ha,rfl⟩:=List.mem_map.1 ((zue g i).1 hi)
 rw [zfu hg.dn ha]
 rfl
theorem zii (i:Int) (hi:i∈zdx g):(zh2 g i).id=i:=by
 obtain ⟨a,ha,rfl⟩:=List.mem_map.1 ((zuf g i).1 hi)
 rw [zfv hg.de ha]
 rfl
end
end Go.Proofs.YtcfmenkigolnoaaGreatDoor

/- GEC -/
namespace Go.Proofs.YtcfmenkigolnoaaGreatDoor
open Go.RowKit
section
variable {g:zau} (hg:zel g) (hw:∀ a∈g.edges,(Lit.int .i64 a.src).wf=true∧(Lit.int .i64 a.dst).wf=true)
include hg hw
end
end Go.Proofs.YtcfmenkigolnoaaGreatDoor

/- GMS -/
namespace Go.Proofs.YtcfmenkigolnoaaGreatDoor
open Go.RowKit
section
variable {g:zau} (hg:zel g)
include hg
end
end Go.Proofs.YtcfmenkigolnoaaGreatDoor

/- GMT -/
namespace Go.Proofs.YtcfmenkigolnoaaGreatDoor
open Go.RowKit
def InsT (L0 L:List ByteArray) (i k:Nat):Prop:=∃ A x B R,L=A++x::(B++R)∧A.length=k∧A.length+B.length=i∧(A++B).Pairwise (fun a b=>leT a b=true)∧(∀ b∈B,leT x b=true)∧L.Perm L0
theorem InsT.start {L0 L:List ByteArray} {i:Nat} (hi:i < L.length) (hp:L.Perm L0) (hs:(L.take i).Pairwise (fun a b=>leT a b=true)):InsT L0 L i i:=by
 refine ⟨L.take i,L[i],[],L.drop (i+1),?_,by rw [List.length_take];omega,by rw [List.length_take,List.length_nil];omega,by rw [List.append_nil];exact hs,by simp,hp⟩
 rw [List.nil_append,← List.drop_eq_getElem_cons hi,List.take_append_drop]
theorem InsT.at_ {L0 L:List ByteArray} {i k:Nat} (h:InsT L0 L i k):k < L.length∧k≤i∧i < L.length:=by
 obtain ⟨A,x,B,R,rfl,h1,h2,_⟩:=h
 simp only [List.length_append,List.length_cons]
 omega
theorem InsT.step {L0 L:List ByteArray} {i m:Nat} {x y:ByteArray} (h:InsT L0 L i (m+1)) (hx:L[m+1]?=some x) (hy:L[m]?=some y) (hlt:bl x < bl y):InsT L0 ((L.set (m+1) y).set m x) i m:=by
 obtain ⟨A,x1,B,R,rfl,h1,h2,h3,h4,h5⟩:=h
 rcases List.eq_nil_or_concat A with rfl | ⟨A',y1,rfl⟩
 ·simp at h1
 ·rw [List.concat_eq_append] at*
  have hm:A'.length=m:=by simpa using h1
  subst hm
  have ex:x1=x:=by simpa [List.getElem?_append] using hx
  have ey:y1=y:=by simpa [List.getElem?_append] using hy
  subst ex ey
  refine ⟨A',x1,y1::B,R,?_,rfl,by simp at h2 ⊢;omega,by simpa using h3,?_,?_⟩
  ·simp []
  ·intro b hb
   rcases List.mem_cons.1 hb with rfl | hb
   ·simp only [leT,leB,decide_eq_true_eq]
    exact List.le_of_lt hlt
   ·exact h4 b hb
  ·have e:((A'++[y1]++x1::(B++R)).set (A'.length+1) y1).set A'.length x1=A'++x1::(y1::B++R):=by simp []
   rw [e]
   refine List.Perm.trans ?_ h5
   have:A'++[y1]++x1::(B++R)=A'++y1::x1::(B++R):=by simp
   rw [this]
   exact (List.Perm.swap _ _ _).append_left A'
theorem InsT.stop {L0 L:List ByteArray} {i k:Nat} (h:InsT L0 L i k) (hk:k=0∨∃ x y,L[k]?=some x∧L[k - 1]?=some y∧¬ bl x < bl y):L.Perm L0∧(L.take (i+1)).Pairwise (fun a b=>leT a b=true):=by
 obtain ⟨A,x1,B,R,rfl,h1,h2,h3,h4,h5⟩:=h
 refine ⟨h5,?_⟩
 have e:(A++x1::(B++R)).take (i+1)=A++x1::B:=by
  rw [show A++x1::(B++R)=(A++x1::B)++R by simp]
  exact List.take_left' (by simp;omega)
 rw [e]
 rw [List.pairwise_append] at h3 ⊢
 obtain ⟨s1,s2,s3⟩:=h3
 refine ⟨s1,List.pairwise_cons.2 ⟨h4,s2⟩,fun a ha b hb=>?_⟩
 rcases List.mem_cons.1 hb with rfl | hb
 ·rcases hk with rfl | ⟨x,y,hx,hy,hxy⟩
  ·rw [List.length_eq_zero_iff.1 h1] at ha
   simp at ha
  ·rcases List.eq_nil_or_concat A with rfl | ⟨A',y1,rfl⟩
   ·simp at ha
   ·rw [List.concat_eq_append] at*
    have hm:k=A'.length+1:=by simpa using h1.symm
    subst hm
    have ex:b=x:=by simpa [List.getElem?_append] using hx
    have ey:y1=y:=by simpa [List.getElem?_append] using hy
    subst ex ey
    have hyx:leT y1 b=true:=by
     simp only [leT,leB,decide_eq_true_eq]
     exact List.not_lt.1 hxy
    rcases List.mem_append.1 ha with ha | ha
    ·have:=(List.pairwise_append.1 s1).2.2 a ha y1 (by simp)
     exact zgk _ _ _ this hyx
    ·rw [List.mem_singleton.1 ha]
     exact hyx
 ·exact s3 a ha b hb
theorem zug {L L0:List ByteArray} (hp:L.Perm L0) (hs:L.Pairwise (fun a b=>leT a b=true)):L=sortS L0:=by
 have h:L.map bl=(L0.map bl).mergeSort leB:=by
  refine List.Perm.eq_of_pairwise (le:=fun x y=>leB x y=true) (fun a b _ _ h1 h2=>ziz a b h1 h2) ?_ (List.pairwise_mergeSort zgk ziy _) ((hp.map bl).trans (List.mergeSort_perm _ leB).symm)
  rw [List.pairwise_map]
  exact hs
 unfold sortS
 rw [← h,List.map_map]
 conv=>lhs;rw [← List.map_id L]
 exact List.map_congr_left fun x _=>(zhr x).symm
def zc4 (w:World) (g:Nat) (L:List ByteArray) (T:List Value):Prop:=w.heap[g]?=some (.cells (L.map Value.string++T).toArray 9 (0,0))
theorem zc4.cell {w:World} {g:Nat} {L:List ByteArray} {T:List Value} (h:zc4 w g L T) {k:Nat} {x:ByteArray} (hx:L[k]?=some x):w.cell? ⟨g,k,none⟩=some (.string x):=by
 refine zac h k ?_
 have hk:=(List.getElem?_eq_some_iff.1 hx).1
 rw [List.getElem?_toArray,List.getElem?_append_left (by rw [List.length_map];exact hk),List.getElem?_map,hx]
 rfl
theorem zc4.set {w:World} {g:Nat} {L:List ByteArray} {T:List Value} (h:zc4 w g L T) (k:Nat) (x:ByteArray) (hk:k < L.length):zc4 (w.setCell ⟨g,k,none⟩ (.string x)) g (L.set k x) T:=by
 have h2:=za6 h k (.string x)
 unfold zc4
 rw [h2]
 congr 2
 rw [List.setIfInBounds_toArray,List.set_append_left _ _ (by rw [List.length_map];exact hk),List.map_set]
set_option maxHeartbeats 6400000 in
set_option maxRecDepth 20000 in
theorem znc (L0:List ByteArray) (T:List Value) (g cap:Nat) (W:World) (h:zc4 W g L0 T) (hn:L0.length≤2097152) (h0:1≤L0.length):
 Calls Tryz.prog 43 #[.slice (some ⟨g,0,none⟩) L0.length cap] W fun e w'=>e=.returned (.tuple #[])∧zc4 w' g (sortS L0) T∧Only g W w':=by
 obtain ⟨n,hl⟩:∃ n,n=L0.length:=⟨_,rfl⟩
 rw [← hl] at hn h0 ⊢
 have HL:=Lib.hid hl
 have HT:=Lib.hid h
 clear h hl
 go_enter Tryz.func43,Tryz.ntmps43
 go_wp2_with fail
 go_loopg [2] n (fun gg s2 wr=>∃ i:Nat,i+gg=n+1∧1≤i∧s2=.int .i64 i∧∃ L,Hid (zc4 wr g L T∧L.Perm L0∧(L.take i).Pairwise (fun a b=>leT a b=true))∧Hid (Only g W wr))
 case atStart=>exact ⟨1,by omega,by omega,rfl,L0,Lib.hid ⟨HT.out,List.Perm.refl _,by
  match L0 with
  | []=>simp
  | a::r=>simp⟩,Lib.hid (Only.refl _ _)⟩
 case round=>
  obtain ⟨i,hig,hi1,rfl,L,HA,HO⟩:=hrel
  have HLN:Hid (L.length=n):=Lib.hid (by rw [HA.out.2.1.length_eq,HL.out])
  by_cases hi:(i:Int) < n
  ·have HS:Hid (InsT L0 L i i):=Lib.hid (InsT.start (by have:=HLN.out;omega) HA.out.2.1 HA.out.2.2)
   have HTR:=Lib.hid HA.out.1
   clear HA HLN
   go_wp2_with fail
   go_loopg [3] i (fun gg s3 wr2=>∃ k:Nat,(k≤gg∧gg≤k)∧s3=.int .i64 k∧∃ L,Hid (InsT L0 L i k)∧Hid (zc4 wr2 g L T)∧Hid (Only g W wr2))
   case atStart=>exact ⟨i,⟨Nat.le_refl _,Nat.le_refl _⟩,rfl,L,HS,HTR,HO⟩
   case round=>
    clear HS HTR HO
    obtain ⟨k,hkg,rfl,L,HS,HTR,HO⟩:=hrel
    have hat:=HS.out.at_
    have hLn:L.length=n:=by
     obtain ⟨_,_,_,_,_,_,_,_,_,hp⟩:=HS.out
     rw [hp.length_eq,HL.out]
    by_cases hk:k=0
    ·subst hk
     have HE:=Lib.hid (HS.out.stop (.inl rfl))
     clear hat hLn HS
     go_upto_region 4 with fail
     go_quiet (fail)
     have HO9:Hid (Only g W (wr.drewN nq)):=Lib.hid (HO.out.drewN nq)
     have HTR9:Hid (zc4 (wr.drewN nq) g L T):=HTR
     clear HO HTR
     generalize wr.drewN nq=w9 at*
     go_wp2_with fail
     go_roundg (n+1 - (i+1))
     case measure=>omega
     case rel=>exact ⟨i+1,by omega,by omega,by go_num,L,Lib.hid ⟨HTR9.out,HE.out⟩,HO9⟩
    ·obtain ⟨m,rfl⟩:∃ m,k=m+1:=⟨k - 1,by omega⟩
     obtain ⟨x,hx⟩:∃ x,L[m+1]?=some x:=⟨_,List.getElem?_eq_getElem hat.1⟩
     obtain ⟨y,hy⟩:∃ y,L[m]?=some y:=⟨_,List.getElem?_eq_getElem (by omega)⟩
     have cx:wr.cell? ⟨g,m+1,none⟩=some (.string x):=HTR.out.cell hx
     have hpos:decide ((0:Int) < ((m+1:Nat):Int))=true:=decide_eq_true (by omega)
     have hsub:(((m+1:Nat):Int) - 1)=(m:Int):=by omega
     have cy:=HTR.out.cell hy
     have fr:wr.frozen? ⟨g,m+1,none⟩=false:=zbj HTR.out _
     have hmn:m+1 < n:=by omega
     have hmi:((m:Int)+1) < n:=by omega
     by_cases hlt:bl x < bl y
     ·have hb:Op.bytesLess x.toList y.toList=true:=by rw [bytesLess_eq];simpa [bl,Lib.toList_data] using hlt
      have HS2:=Lib.hid (HS.out.step hx hy hlt)
      have HN:=Lib.hid (And.intro hat.1 (show m < (L.set (m+1) y).length by rw [List.length_set];omega))
      clear hx hy hat hLn HS hlt
      go_upto_region 4 with fail
      go_quiet (fail)
      have HO9:Hid (Only g W (wr.drewN nq)):=Lib.hid (HO.out.drewN nq)
      have HTR9:Hid (zc4 (wr.drewN nq) g L T):=HTR
      replace cx:(wr.drewN nq).cell? _=_:=cx
      replace cy:(wr.drewN nq).cell? _=_:=cy
      replace fr:(wr.drewN nq).frozen? _=_:=fr
      clear HO HTR
      generalize wr.drewN nq=w9 at*
      go_upto_region 8 with fail
      have HTA:=Lib.hid (HTR9.out.set (m+1) y HN.out.1)
      have HOA:=Lib.hid (HO9.out.setCell (m+1) none (.string y))
      have cy2:=HTA.out.cell (k:=m) (by rw [List.getElem?_set];rw [if_neg (by omega)];exact List.getElem?_eq_getElem (by have:=HN.out.1;omega))
      have fr2:(w9.setCell ⟨g,m+1,none⟩ (.string y)).frozen? ⟨g,m,none⟩=false:=zbj HTA.out _
      clear HTR9 HO9 cx cy fr
      generalize (w9.setCell ⟨g,m+1,none⟩ (.string y))=wA at*
      go_wp2_with fail
      go_roundg (gk - 1)
      case measure=>omega
      case rel=>exact ⟨m,by omega,by go_num,_,HS2,Lib.hid (HTA.out.set m x HN.out.2),Lib.hid (HOA.out.setCell m none (.string x))⟩
     ·have hb:Op.bytesLess x.toList y.toList=false:=by rw [bytesLess_eq];simpa [bl,Lib.toList_data] using hlt
      have HE:=Lib.hid (HS.out.stop (.inr ⟨x,y,hx,hy,hlt⟩))
      clear hx hy hat hLn HS hlt
      go_upto_region 4 with fail
      go_quiet (fail)
      have HO9:Hid (Only g W (wr.drewN nq)):=Lib.hid (HO.out.drewN nq)
      have HTR9:Hid (zc4 (wr.drewN nq) g L T):=HTR
      clear HO HTR cx cy fr
      generalize wr.drewN nq=w9 at*
      go_wp2_with fail
      go_roundg (n+1 - (i+1))
      case measure=>omega
      case rel=>exact ⟨i+1,by omega,by omega,by go_num,L,Lib.hid ⟨HTR9.out,HE.out⟩,HO9⟩
  ·have HZ:Hid (L=sortS L0):=Lib.hid (zug HA.out.2.1 (by
    have:=HA.out.2.2
    rwa [List.take_of_length_le (by have:=HLN.out;omega)] at this))
   go_wp2_with fail
   go_end0
   exact ⟨rfl,by rw [← HZ.out];exact HA.out.1,HO.out⟩
end Go.Proofs.YtcfmenkigolnoaaGreatDoor
