/- Texts of one kind, one behind the other: each says ahead of itself what it shows. -/
import Derived.Test.YteclpnfckjfibaaGreatDoorDag
import Derived.Laws.AppendOwnNone
import Derived.Test.YteclpnfckjfibaaGreatDoorDad
import Derived.Test.YteclpnfckjfibaaGreatDoorDab
import Derived.WalkKit
import Derived.OwnWalk
import Derived.Maps.AppendAt
import Derived.Lib.AppendStr
namespace Go.Proofs.YteclpnfckjfibaaGreatDoor
open Go.RowKit
set_option maxHeartbeats 12800000
set_option maxRecDepth 20000
theorem meetAt (sh:List (Nat × Nat)) (A B ra rb:Value) (a b:List Val) (W:World) (hs:ShIn W (Old W) sh A B) (ha:zai valE W (Old W) ra a) (hb:zai valE W (Old W) rb b) (hin:∀ p∈sh,p.1 < a.length∧p.2 < b.length) (hn:sh.length≤2097152) (_han:a.length≤2097152) (_hbn:b.length≤2097152):
 Calls Tryz.prog 134 #[.agg #[A,B],ra,rb] W fun e w'=>e=.returned (.bool (zmq sh a b))∧Below W.heap.size W w':=by
 obtain ⟨W1,hW1⟩:∃ W1,W1=W.alloc (.cells #[A,B] 87):=⟨_,rfl⟩
 have b1:Below W.heap.size W W1:=by rw [hW1];exact zav _ _
 have u1:W1.heap[W.heap.size]?=some (.cells #[A,B] 87):=by rw [hW1];exact zaf _ _ rfl
 have hs1:=hs.stays (zae b1)
 have ha1:=ha.stays (zae b1)
 have hb1:=hb.stays (zae b1)
 obtain ⟨pA,kA,pB,kB,rfl,rfl⟩:=hs.slice
 obtain ⟨pa,ka,rfl⟩:=ha.slice
 obtain ⟨pb,kb,rfl⟩:=hb.slice
 obtain ⟨r,hr⟩:∃ r,r=zmq sh a b:=⟨_,rfl⟩
 obtain ⟨n,hl⟩:∃ n,n=sh.length:=⟨_,rfl⟩
 rw [← hr]
 rw [← hl] at hn u1 hW1 ⊢
 have HS:=Lib.hid hs1
 have HA:=Lib.hid ha1
 have HB:=Lib.hid hb1
 have HI:=Lib.hid hin
 have HR:=Lib.hid hr
 have HL:=Lib.hid hl
 have HW:=Lib.hid hW1
 have HU:=Lib.hid u1
 have c0:=zad u1 0 rfl
 clear hs ha hb hs1 ha1 hb1 hin hr hl hW1 u1
 go_enter Tryz.func134,Tryz.ntmps134
 go_upto_region 1 with fail
 rw [← HW.out]
 go_wp2_with fail
 go_loopg [11] n (fun gg s11 wr=>∃ j:Nat,j+gg=n∧s11=.int .i64 j∧Hid (∀ i (h:i < sh.length),i < j→zra a b sh[i]=false)∧Hid (Below W1.heap.size W1 wr))
 case atStart=>exact ⟨0,by omega,rfl,Lib.hid (fun i _ h=>absurd h (by omega)),Lib.hid (Below.refl _ _)⟩
 case round=>
  clear c0
  obtain ⟨j,hjg,rfl,HF,HB1⟩:=hrel
  by_cases hj:(j:Int) < n
  ·have hj1:j < sh.length:=by have:=HL.out;omega
   have hsW:=HS.out.stays (zae HB1.out)
   obtain ⟨gA,oA,kA',gB,oB,kB',eA,eB,zA,zB⟩:=hsW.at_ j hj1
   injection eA with eA1 eA2 eA3
   injection eB with eB1 eB2 eB3
   subst eA1 eB1
   obtain ⟨x,hx⟩:∃ x,x=sh[j].1:=⟨_,rfl⟩
   obtain ⟨y,hy⟩:∃ y,y=sh[j].2:=⟨_,rfl⟩
   have hin:=HI.out sh[j] (List.getElem_mem hj1)
   rw [← hx] at zA hin
   rw [← hy] at zB hin
   obtain ⟨ga,oa,ka',ca,ea,_,hra,ra⟩:=(HA.out.stays (zae HB1.out)).at_ x hin.1
   obtain ⟨gb,ob,kb',cb,eb,_,hrb,rb⟩:=(HB.out.stays (zae HB1.out)).at_ y hin.2
   injection ea with ea1 ea2 ea3
   injection eb with eb1 eb2 eb3
   subst ea1 eb1
   replace ra:wr.rangeAt ga (oa+x*6) ca:=ra
   replace rb:wr.rangeAt gb (ob+y*6) cb:=rb
   have hs0:FitS W.heap.size #[.slice (some ⟨gA,oA,none⟩) n kA,.slice (some ⟨gB,oB,none⟩) n kB] gA (oA+j) x gB (oB+j) y ga (oa+x*6) ca gb (ob+y*6) cb wr:=⟨(HB1.out.block _ (zaa HU.out)).trans HU.out,zA,zB,ra,rb⟩
   have hxa:(x:Int) < a.length:=by have:=hin.1;omega
   have hyb:(y:Int) < b.length:=by have:=hin.2;omega
   have hla:ca.length=6:=valE.len hra
   have hlb:cb.length=6:=valE.len hrb
   have hfx:zra a b sh[j]=(isB a[x] && isB b[y]):=by
    unfold zra
    rw [← hx,← hy,zh4 hin.1,zh4 hin.2]
   have H1:Hid (∀ W',Below wr.heap.size wr W'→Calls Tryz.prog 126 #[.agg ca.toArray] W' fun e w'=>e=.returned (.bool (isB a[x]))∧Low W'.heap.size W' w'):=Lib.hid fun W' hb=>zd6 _ W' ca _ (valE.stays (zae hb) hra)
   have H2:Hid (∀ W',Below wr.heap.size wr W'→Calls Tryz.prog 126 #[.agg cb.toArray] W' fun e w'=>e=.returned (.bool (isB b[y]))∧Low W'.heap.size W' w'):=Lib.hid fun W' hb=>zd6 _ W' cb _ (valE.stays (zae hb) hrb)
   obtain ⟨q1,hq1⟩:∃ q,q=isB a[x]:=⟨_,rfl⟩
   obtain ⟨q2,hq2⟩:∃ q,q=isB b[y]:=⟨_,rfl⟩
   rw [← hq1] at H1 hfx
   rw [← hq2] at H2 hfx
   have HFX:=Lib.hid hfx
   have bq:Below wr.heap.size wr wr:=Below.refl _ _
   have d0:=zad hs0.s 0 rfl
   have HS0:=Lib.hid hs0
   clear hfx hq1 hq2 hsW zB rb hx hy hin hra hrb eA2 eA3 eB2 eB3 ea2 ea3 eb2 eb3 hs0
   cases q1 with
   | false=>
     have HF2:Hid (∀ i (h:i < sh.length),i < j+1→zra a b sh[i]=false):=Lib.hid fun i h1 h2=>by
      by_cases e:i=j
      ·subst e;rw [HFX.out];rfl
      ·exact HF.out i h1 (by omega)
     go_wp2_with (first
      |((with_reducible refine za3 (.tmp 20) ga (oa+x*6) 48 ca 6 _ ra hla Tryz.underlying48 rfl zap ?_ ?_ ?_ ?_);rfl;rfl;rfl)
      |(go_at_call 126;(with_reducible refine (H1.out _ bq).mono ?_);rintro e w3 ⟨rfl,h3⟩))
     have HB2:=Lib.hid (zab HB1.out (zab bq h3.is bq.size) HB1.out.size)
     clear bq h3
     go_roundg (gk - 1)
     case measure=>omega
     case rel=>exact ⟨j+1,by omega,by go_num,HF2,HB2⟩
   | true=>
     cases q2 with
     | false=>
       have HF2:Hid (∀ i (h:i < sh.length),i < j+1→zra a b sh[i]=false):=Lib.hid fun i h1 h2=>by
        by_cases e:i=j
        ·subst e;rw [HFX.out];rfl
        ·exact HF.out i h1 (by omega)
       go_wp2_with (first
        |((with_reducible refine za3 (.tmp 20) ga (oa+x*6) 48 ca 6 _ ra hla Tryz.underlying48 rfl zap ?_ ?_ ?_ ?_);rfl;rfl;rfl)
        |(go_at_call 126;(with_reducible refine (H1.out _ bq).mono ?_);rintro e w3 ⟨rfl,h3⟩;have bq3:=zab bq h3.is bq.size;have hs3:=HS0.out.below h3.is;have d1:=zad hs3.s 1 rfl;have d2:=hs3.b;have rb3:=hs3.rb;clear hs3)
        |((with_reducible refine zbg ?_ (.tmp 30) gb (ob+y*6) 48 cb 6 _ rb3 hlb Tryz.underlying48 rfl zap ?_ ?_ ?_);rfl;rfl;rfl)
        |(go_at_call 126;(with_reducible refine (H2.out _ bq3).mono ?_);rintro e w4 ⟨rfl,h4⟩))
       have HB2:=Lib.hid (zab HB1.out (zab bq3 h4.is bq3.size) HB1.out.size)
       clear bq h3 bq3 h4
       go_roundg (gk - 1)
       case measure=>omega
       case rel=>exact ⟨j+1,by omega,by go_num,HF2,HB2⟩
     | true=>
       have HR2:Hid (r=true):=Lib.hid (by rw [HR.out];exact List.any_eq_true.2 ⟨sh[j],List.getElem_mem hj1,by rw [HFX.out];rfl⟩)
       go_wp2_with (first
        |((with_reducible refine za3 (.tmp 20) ga (oa+x*6) 48 ca 6 _ ra hla Tryz.underlying48 rfl zap ?_ ?_ ?_ ?_);rfl;rfl;rfl)
        |(go_at_call 126;(with_reducible refine (H1.out _ bq).mono ?_);rintro e w3 ⟨rfl,h3⟩;have bq3:=zab bq h3.is bq.size;have hs3:=HS0.out.below h3.is;have d1:=zad hs3.s 1 rfl;have d2:=hs3.b;have rb3:=hs3.rb;clear hs3)
        |((with_reducible refine zbg ?_ (.tmp 30) gb (ob+y*6) 48 cb 6 _ rb3 hlb Tryz.underlying48 rfl zap ?_ ?_ ?_);rfl;rfl;rfl)
        |(go_at_call 126;(with_reducible refine (H2.out _ bq3).mono ?_);rintro e w4 ⟨rfl,h4⟩))
       have hB2:=zab HB1.out (zab bq3 h4.is bq3.size) HB1.out.size
       go_ret
       exact ⟨by rw [HR2.out];rfl,zab b1 hB2 b1.size⟩
  ·have HR2:Hid (r=false):=Lib.hid (by
    rw [HR.out]
    refine List.any_eq_false.2 fun p hp=>?_
    obtain ⟨i,hi,rfl⟩:=List.getElem_of_mem hp
    rw [HF.out i hi (by have:=HL.out;omega)]
    decide)
   go_wp2_with fail
   go_ret
   exact ⟨by rw [HR2.out];rfl,zab b1 HB1.out b1.size⟩
theorem z1g:∀ u∈[Value.int .i64 0,.bool false,.int .i64 0,.string ⟨#[]⟩,.string ⟨#[]⟩,.slice none 0 0],u.oneCell'=true:=by
 intro u hu
 simp only [List.mem_cons,List.mem_nil_iff,or_false] at hu
 rcases hu with rfl | rfl | rfl | rfl | rfl | rfl <;> rfl
theorem zqb (r:List Val) (u:Value) (c:Int) (P:Nat→Prop) (W:World) (hP:∀ x,P x→x < W.heap.size) (h:zai valE W P u r) (hc:zmr r.length c):
 Calls Tryz.prog 117 #[u,.int .i64 c] W fun e w'=>∃ d,e=.returned (.agg d.toArray)∧zdp w' P d (zd7 r c)∧Below W.heap.size W w':=by
 obtain ⟨W0,hW0⟩:∃ W0,W0=W.alloc (.cells #[.int .i64 0,.bool false,.int .i64 0,.string ⟨#[]⟩,.string ⟨#[]⟩,.slice none 0 0] 48):=⟨_,rfl⟩
 have b0:Below W.heap.size W W0:=by rw [hW0];exact zav _ _
 have u0:W0.heap[W.heap.size]?=some (.cells #[.int .i64 0,.bool false,.int .i64 0,.string ⟨#[]⟩,.string ⟨#[]⟩,.slice none 0 0] 48):=by rw [hW0];exact zaf _ _ rfl
 by_cases hm:c=-1
 ·subst hm
  have e:zd7 r (-1)=zit:=by unfold zd7;rw [if_pos rfl]
  rw [e]
  obtain ⟨p,k,rfl⟩:=h.slice
  have HW:=Lib.hid hW0
  clear h hc hW0 e
  go_enter Tryz.func117,Tryz.ntmps117
  go_upto_region 1 with fail
  rw [← HW.out]
  go_wp2_with (first
   |((with_reducible refine zar (.tmp 4) (.tmp 7) W.heap.size 48 48 _ [.int .i64 0,.bool false,.int .i64 0,.string ⟨#[]⟩,.string ⟨#[]⟩,.slice none 0 0] 6 u0 rfl ?_ ?_ ?_ ?_ zap rfl z1g ?_);rfl;rfl;rfl;rfl;intro wX oX uX))
  have bX:=zam b0 oX (Nat.le_refl _) b0.size
  exact bodyPost_ret (results_cell_row (p:=4) (ty:=48) Tryz.results117 _ _ W.heap.size 48 _ (0,0) _ rfl uX Tryz.underlying48 rfl zap) rfl ⟨[_,_,_,_,_,_],rfl,⟨_,rfl,⟨by decide,by decide,by decide,by decide,by decide⟩,by unfold zbe;exact ⟨_,_,rfl⟩⟩,bX⟩
 ·obtain ⟨i,rfl,hi⟩:∃ i:Nat,c=i∧i < r.length:=hc.resolve_left hm
  have e:zd7 r (i:Int)=r[i]:=by unfold zd7;rw [if_neg hm,Int.toNat_natCast,zh4 hi]
  rw [e]
  obtain ⟨ga,oa,ka,ca,rfl,_,hra,ra⟩:=h.at_ i hi
  replace ra:W.rangeAt ga (oa+i*6) ca:=ra
  have hla:ca.length=6:=valE.len hra
  have hoa:=valE.one hra
  have hlt:(i:Int) < r.length:=by omega
  have ra0:=zcj ra b0
  have hm2:((i:Int) == -1)=false:=by rw [beq_eq_false_iff_ne];exact hm
  have HR:=Lib.hid hra
  have HW:=Lib.hid hW0
  clear h hra hW0 ra hc e hm
  go_enter Tryz.func117,Tryz.ntmps117
  go_upto_region 1 with fail
  rw [← HW.out]
  go_wp2_with (first
   |((with_reducible refine za3 (.tmp 10) ga (oa+i*6) 48 ca 6 _ ra0 hla Tryz.underlying48 rfl zap ?_ ?_ ?_ ?_);rfl;rfl;rfl)
   |((with_reducible refine zar (.tmp 4) (.tmp 11) W.heap.size 48 48 _ ca 6 u0 hla ?_ ?_ ?_ ?_ zap rfl hoa ?_);rfl;rfl;rfl;rfl;intro wX oX uX))
  have bX:=zam b0 oX (Nat.le_refl _) b0.size
  exact bodyPost_ret (results_cell_row (p:=4) (ty:=48) Tryz.results117 _ _ W.heap.size 48 ca.toArray (0,0) _ rfl uX Tryz.underlying48 rfl (by rw [zap];simp [hla])) rfl ⟨ca,rfl,valE.stays (fun x hx=>⟨hx,bX.block x (hP x hx)⟩) HR.out,bX⟩
theorem zyb {v:Value} {d:List Value} {w:World} {P:Nat→Prop} {x:Val} (hd:valE.rel w P d x) (h:v.cells=d.toArray):v=.agg d.toArray:=by
 have hl:d.length=6:=valE.len hd
 cases v <;> simp only [Value.cells] at h
 case agg cs=>rw [h]
 all_goals (exfalso;have:=congrArg Array.size h;simp [hl] at this)
theorem zyc (r:List Val) (u:Value) (c:Int) (g:Nat) (W:World) (hg:W.heap[g]?=some (.cells #[u] 43)) (h:zai valE W (Old W) u r) (hc:zmr r.length c):
 Calls Tryz.prog 115 #[.int .i64 c,.pointer (some ⟨g,0,none⟩)] W (zbs valE (zd7 r c) W):=by
 obtain ⟨W0,hW0⟩:∃ W0,W0=W.alloc (.cells #[.int .i64 0,.bool false,.int .i64 0,.string ⟨#[]⟩,.string ⟨#[]⟩,.slice none 0 0] 48):=⟨_,rfl⟩
 have b0:Below W.heap.size W W0:=by rw [hW0];exact zav _ _
 have u0:W0.heap[W.heap.size]?=some (.cells #[.int .i64 0,.bool false,.int .i64 0,.string ⟨#[]⟩,.string ⟨#[]⟩,.slice none 0 0] 48):=by rw [hW0];exact zaf _ _ rfl
 have c0:=zad ((b0.block _ (zaa hg)).trans hg) 0 rfl
 have H1:=Lib.hid (zqb r u c (Old W) W0 (fun x hx=>Nat.lt_of_lt_of_le hx b0.size) (h.stays (fun x hx=>⟨hx,b0.block x hx⟩)) hc)
 obtain ⟨p,k,rfl⟩:=h.slice
 have HW:=Lib.hid hW0
 clear h hc hW0 hg
 go_enter Tryz.func115,Tryz.ntmps115
 go_upto_region 1 with fail
 rw [← HW.out]
 go_wp2_with (first
  |(go_at_call 117;(with_reducible refine H1.out.mono ?_);rintro e w1 ⟨d,rfl,hd,hb1⟩;have H2:=Lib.hid (zq4 (zd7 r c) w1 d (valE.stays (fun x hx=>⟨Nat.lt_of_lt_of_le hx (zab b0 hb1 b0.size).size,rfl⟩) hd));clear hd)
  |(go_at_call 116;(with_reducible refine H2.out.mono ?_);rintro e w2 ⟨v2,d2,rfl,e2,hd2,hb2⟩;obtain rfl:v2=.agg d2.toArray:=zyb hd2 e2;have u2:=(hb2.block _ (zaa ((hb1.block _ (zaa u0)).trans u0))).trans ((hb1.block _ (zaa u0)).trans u0);have hl2:d2.length=6:=valE.len hd2;have ho2:=valE.one hd2;have HD:=Lib.hid hd2;clear hd2)
  |((with_reducible refine zar (.tmp 3) (.tmp 7) W.heap.size 48 48 _ d2 6 u2 hl2 ?_ ?_ ?_ ?_ zap rfl ho2 ?_);rfl;rfl;rfl;rfl;intro wX oX uX))
 have b2:=zab (zab b0 hb1 b0.size) hb2 (zab b0 hb1 b0.size).size
 have bX:=zam b2 oX (Nat.le_refl _) b2.size
 have z0:=zaa u0
 have z1:=hb1.size
 exact bodyPost_ret (results_cell_row (p:=3) (ty:=48) Tryz.results115 _ _ W.heap.size 48 d2.toArray (0,0) _ rfl uX Tryz.underlying48 rfl (by rw [zap];simp [hl2])) rfl ⟨_,d2,rfl,rfl,valE.stays (fun x hx=>⟨⟨by have:=hx.1;omega,Nat.lt_of_lt_of_le hx.2 oX.size⟩,oX.block x hx.2 (by have:=hx.1;omega)⟩) HD.out,bX⟩
def zcg (t:TabL) (vars:List ByteArray):List (List Val):=t.rows.map fun r=>(zis vars t.vars).map (zd7 r)
theorem cols_ok (vs us:List ByteArray):∀ c∈zis vs us,zmr us.length c:=by
 intro c hc
 obtain ⟨v,_,rfl⟩:=List.mem_map.1 hc
 cases h:zbl v us with
 | none=>exact .inl rfl
 | some k=>exact .inr ⟨k,rfl,zfg h⟩
theorem zyd (r:List Val) (u C:Value) (cs:List Int) (gf:Nat) (W:World) (hu:rowE.rel W (Old W) [u] r) (hg:W.heap[gf]?=some (.cells #[C] 26)) (hC:zai intE W (Old W) C cs) (hok:∀ c∈cs,zmr r.length c) (hn:cs.length≤2097152):
 Calls Tryz.prog 113 #[u,.pointer (some ⟨gf,0,none⟩)] W (zbs rowE (cs.map (zd7 r)) W):=by
 obtain ⟨v,e,hs,hc,hl⟩:=hu
 cases e
 obtain ⟨p,k,rfl⟩:=hs.slice
 obtain ⟨pc,kc,rfl⟩:=hC.slice
 obtain ⟨W1,hW1⟩:∃ W1,W1=W.alloc (.cells #[.slice p r.length k] 43):=⟨_,rfl⟩
 have b1:Below W.heap.size W W1:=by rw [hW1];exact zav _ _
 have u1:W1.heap[W.heap.size]?=some (.cells #[.slice p r.length k] 43):=by rw [hW1];exact zaf _ _ rfl
 have hm:=(map114p (.pointer (some ⟨W.heap.size,0,none⟩)) (zd7 r) cs (.slice pc cs.length kc) W1 (hC.stays (zae b1)) hn (fun x hx W' c hb hr=>by
  obtain ⟨rfl,_⟩:=hr
  have hb2:=zab b1 hb b1.size
  exact zyc r _ x W.heap.size W' ((hb.block _ (zaa u1)).trans u1) (hs.stays (zae hb2)) (hok x hx))).mono (fun e w' h=>za1.before b1 h)
 have c0:=zad ((b1.block _ (zaa hg)).trans hg) 0 rfl
 have HM:=Lib.hid hm
 have HW:=Lib.hid hW1
 clear hm hW1 hs hc hC u1 b1 hg
 go_enter Tryz.func113,Tryz.ntmps113
 go_upto_region 1 with fail
 rw [← HW.out]
 go_wp2_with (first
  |(go_at_call 114;(with_reducible refine HM.out.mono ?_);rintro e w1 ⟨V2,xs,rfl,hown,hrow,hb⟩;have hown2:=hown;rw [List.length_map] at hown2;obtain ⟨p2,k2,rfl⟩:=zat hown2))
 go_ret
 exact ⟨_,[_],rfl,rfl,⟨_,rfl,za1.slice hown hrow,zb0 hown,by simpa using hn⟩,hb⟩
theorem zqc (t:TabL) (vars:List ByteArray) (V R v:Value) (W:World) (h:tabE.rel W (Old W) [V,R] t) (hlen:∀ r∈t.rows,r.length=t.vars.length) (hv:zai zaz W (Old W) v vars) (hvn:vars.length≤2097152):
 Calls Tryz.prog 72 #[.agg #[V,R],v] W (za1 rowE 43 W (zcg t vars)):=by
 obtain ⟨V',R',e,hV,hR,hcv,hcr,hlv,hlr⟩:=h
 cases e
 obtain ⟨pV,kV,rfl⟩:=hV.slice
 obtain ⟨pR,kR,rfl⟩:=hR.slice
 obtain ⟨p,k,rfl⟩:=hv.slice
 obtain ⟨W1,hW1⟩:∃ W1,W1=W.alloc (.cells #[.slice pV t.vars.length kV,.slice pR t.rows.length kR] 25):=⟨_,rfl⟩
 have b1:Below W.heap.size W W1:=by rw [hW1];exact zav _ _
 have u1:W1.heap[W.heap.size]?=some (.cells #[.slice pV t.vars.length kV,.slice pR t.rows.length kR] 25):=by rw [hW1];exact zaf _ _ rfl
 have HC:=Lib.hid (zq8 vars t.vars _ _ W1 (hv.stays (zae b1)) (hV.stays (zae b1)) hvn hlv)
 have hcl:(zis vars t.vars).length=vars.length:=by simp [zis]
 have c0:=zad u1 0 rfl
 have HW:=Lib.hid hW1
 have HR:=Lib.hid hR
 have HU:=Lib.hid u1
 clear u1 hW1 hV hR hcv hcr hv
 go_enter Tryz.func72,Tryz.ntmps72
 go_upto_region 1 with fail
 rw [← HW.out]
 go_upto_region 2 with (first
  |(go_at_call 112;(with_reducible refine HC.out.mono ?_);rintro e w1 ⟨V2,xs,rfl,hown,hrow,hb⟩;have hown2:=hown;rw [hcl] at hown2;obtain ⟨p2,k2,rfl⟩:=zat hown2))
 obtain ⟨W2,hW2⟩:∃ W2,W2=w1.alloc (.cells #[.slice p2 vars.length k2] 26):=⟨_,rfl⟩
 have b2:Below w1.heap.size w1 W2:=by rw [hW2];exact zav _ _
 have hb2:=zab b1 (zab hb b2 hb.size) b1.size
 have u2:W2.heap[w1.heap.size]?=some (.cells #[.slice p2 vars.length k2] 26):=by rw [hW2];exact zaf _ _ rfl
 have hsl:zai intE W2 (Old W2) (.slice p2 vars.length k2) (zis vars t.vars):=(za1.slice hown hrow).stays (fun g hg=>⟨Nat.lt_of_lt_of_le hg.2 b2.size,b2.block g hg.2⟩)
 have hm:=(map103p (.pointer (some ⟨w1.heap.size,0,none⟩)) (fun r=>(zis vars t.vars).map (zd7 r)) t.rows (.slice pR t.rows.length kR) W2 (HR.out.stays (zae hb2)) hlr (fun x hx W' u hb3 hr=>
  zyd x u _ _ w1.heap.size W' hr ((hb3.block _ (zaa u2)).trans u2) (hsl.stays (zae hb3)) (fun c hc=>by rw [hlen x hx];exact cols_ok _ _ c hc) (by rw [hcl];exact hvn))).mono (fun e w' h=>za1.before hb2 h)
 have c1:=zad (((zab hb b2 hb.size).block _ (zaa HU.out)).trans HU.out) 1 rfl
 have HM:=Lib.hid hm
 have HW2:=Lib.hid hW2
 clear hm hW2 hsl hown hown2 hrow hb hb2 b2 u2 c0 b1
 rw [← HW2.out]
 go_wp2_with (first
  |(go_at_call 103;(with_reducible refine HM.out.mono ?_);rintro e w2 ⟨V3,xs3,rfl,hown,hrow,hb⟩;have hown2:=hown;rw [List.length_map] at hown2;obtain ⟨p3,k3,rfl⟩:=zat hown2))
 go_ret
 exact ⟨_,xs3,rfl,hown,hrow,hb⟩
def srcP (vars a b:List ByteArray):List (Int × Int):=vars.map fun v=>(zcx (zbl v a),zcx (zbl v b))
def zrb (a b:List Val) (s:Int × Int):Val:=if isB (zd7 a s.1) then zd7 a s.1 else zd7 b s.2
theorem z1h (a b:Int):∀ u∈[Value.int .i64 a,.int .i64 b],u.oneCell'=true:=zbv rfl rfl
theorem zye (x:ByteArray) (A B:Value) (ta tb:List ByteArray) (ga gb:Nat) (W:World) (hga:W.heap[ga]?=some (.cells #[A] 22)) (hgb:W.heap[gb]?=some (.cells #[B] 22)) (ha:zai zaz W (Old W) A ta) (hb:zai zaz W (Old W) B tb) (han:ta.length≤2097152) (hbn:tb.length≤2097152):
 Calls Tryz.prog 123 #[.string x,.pointer (some ⟨ga,0,none⟩),.pointer (some ⟨gb,0,none⟩)] W (zbs srcE (zcx (zbl x ta),zcx (zbl x tb)) W):=by
 obtain ⟨W0,hW0⟩:∃ W0,W0=W.alloc (.cells #[.int .i64 0,.int .i64 0] 138):=⟨_,rfl⟩
 have b0:Below W.heap.size W W0:=by rw [hW0];exact zav _ _
 have u0:W0.heap[W.heap.size]?=some (.cells #[.int .i64 0,.int .i64 0] 138):=by rw [hW0];exact zaf _ _ rfl
 have ca:W0.cell? ⟨ga,0,none⟩=some A:=zad ((b0.block _ (zaa hga)).trans hga) 0 rfl
 have cb:W0.cell? ⟨gb,0,none⟩=some B:=zad ((b0.block _ (zaa hgb)).trans hgb) 0 rfl
 have HA:=Lib.hid (zqa A ta x (Old W0) W0.drew (ha.stays (P':=Old W0) (w':=W0.drew) (fun g hg=>⟨Nat.lt_of_lt_of_le hg b0.size,b0.block g hg⟩)) han)
 have HB:=Lib.hid (zqa B tb x (Old W0) W0.drew (hb.stays (P':=Old W0) (w':=W0.drew) (fun g hg=>⟨Nat.lt_of_lt_of_le hg b0.size,b0.block g hg⟩)) hbn)
 have HWF:=Lib.hid (And.intro (znt (t:=x) han) (znt (t:=x) hbn))
 obtain ⟨za,hza⟩:∃ z,z=zcx (zbl x ta):=⟨_,rfl⟩
 obtain ⟨zb,hzb⟩:∃ z,z=zcx (zbl x tb):=⟨_,rfl⟩
 rw [← hza] at HA HWF ⊢
 rw [← hzb] at HB HWF ⊢
 obtain ⟨pa,ka,rfl⟩:=ha.slice
 obtain ⟨pb,kb,rfl⟩:=hb.slice
 have HW:=Lib.hid hW0
 have hga2:=zaa hga
 have hgb2:=zaa hgb
 clear hW0 ha hb hga hgb hza hzb
 go_enter Tryz.func123,Tryz.ntmps123
 go_upto_region 1 with fail
 rw [← HW.out]
 refine wp_region_held_drew (S:=fun W'=>W'.cell? ⟨ga,0,none⟩=some (.slice pa ta.length ka)∧W'.cell? ⟨gb,0,none⟩=some (.slice pb tb.length kb)) (by kernel_rfl) ⟨ca,cb⟩ (fun hh=>?_)
 clear hh
 have bw:=b0.drew
 replace ca:W0.drew.cell? ⟨ga,0,none⟩=some (.slice pa ta.length ka):=ca
 replace cb:W0.drew.cell? ⟨gb,0,none⟩=some (.slice pb tb.length kb):=cb
 replace u0:W0.drew.heap[W.heap.size]?=some (.cells #[.int .i64 0,.int .i64 0] 138):=u0
 clear b0 HW
 generalize W0.drew=wD at*
 refine tk (i:=0) (v:=.slice pa ta.length ka) rfl (Or.inl ⟨by rfl,fun W' h=>by have c0:=h.1;go_simp⟩) (⟨ca,cb⟩) ?_
 refine tg (i:=1) (.string x) rfl (⟨ca,cb⟩) ?_
 refine tk (i:=3) (v:=.slice pb tb.length kb) rfl (Or.inl ⟨by rfl,fun W' h=>by have c0:=h.2;go_simp⟩) (⟨ca,cb⟩) ?_
 refine tg (i:=4) (.string x) rfl (⟨ca,cb⟩) ?_
 refine tr 2 rfl (fun K hK=>?_)
 rw [if_pos (by rfl)]
 go_simp
 refine HA.out.mono ?_
 rintro e0 w3 ⟨rfl,e3⟩
 subst e3
 refine hK.out _ _ (⟨ca,cb⟩) (fun _=>?_)
 clear hK K
 try simp only [putS]
 refine tr 5 rfl (fun K hK=>?_)
 rw [if_pos (by rfl)]
 go_simp
 refine HB.out.mono ?_
 rintro e0 w4 ⟨rfl,e4⟩
 subst e4
 refine hK.out _ _ (⟨ca,cb⟩) (fun _=>?_)
 clear hK K
 try simp only [putS]
 refine tg (i:=6) (.agg #[.int .i64 za,.int .i64 zb]) rfl (⟨ca,cb⟩) ?_
 refine tr 7 rfl (fun K hK=>?_)
 try rw [if_pos (by rfl)]
 refine zcl (.tmp 4) (.tmp 11) W.heap.size 138 138 _ [.int .i64 za,.int .i64 zb] 2 u0 rfl rfl rfl rfl zh1 rfl (z1h _ _) ?_
 intro w5 o5 u5
 have bX:=zam bw o5 (Nat.le_refl _) bw.size
 replace ca:=(World.cell?_of_block (a:=⟨ga,0,none⟩) (o5.block ga (by have:=hga2;have:=bw.size;omega) (by omega))).trans ca
 replace cb:=(World.cell?_of_block (a:=⟨gb,0,none⟩) (o5.block gb (by have:=hgb2;have:=bw.size;omega) (by omega))).trans cb
 refine hK.out _ _ (⟨ca,cb⟩) (fun _=>?_)
 clear hK K
 try simp only [putS]
 refine wpAnyH_done (by kernel_rfl) ?_ _
 go_wp2_with fail
 exact bodyPost_ret (results_cell_row (p:=4) (ty:=138) Tryz.results123 _ _ W.heap.size 138 _ (0,0) _ rfl u5 Tryz.underlying138 rfl zh1) rfl ⟨_,[_,_],rfl,rfl,⟨rfl,HWF.out⟩,bX⟩
theorem z3s {w w1 w2 w3:World} {d:List Value} {v:Val} {b:Nat} (h:zdp w2 (New w1 w2) d v) (h1:w.heap.size≤w1.heap.size) (o:Only b w2 w3) (hb:b < w1.heap.size):zdp w3 (New w w3) d v:=
 valE.stays (P:=New w1 w2) (P':=New w w3) (fun x hx=>⟨⟨Nat.le_trans h1 hx.1,Nat.lt_of_lt_of_le hx.2 o.size⟩,o.block x hx.2 (fun e=>by have:=hx.1;omega)⟩) h
def mrg (c:Val) (d:Val):Val:=if isB c then c else d
theorem zyf (vars ta tb:List ByteArray) (v A B:Value) (W:World) (hv:zai zaz W (Old W) v vars) (ha:zai zaz W (Old W) A ta) (hb:zai zaz W (Old W) B tb) (hvn:vars.length≤2097152) (han:ta.length≤2097152) (hbn:tb.length≤2097152):
 Calls Tryz.prog 74 #[v,A,B] W (za1 srcE 138 W (srcP vars ta tb)):=by
 obtain ⟨p,k,rfl⟩:=hv.slice
 obtain ⟨pa,ka,rfl⟩:=ha.slice
 obtain ⟨pb,kb,rfl⟩:=hb.slice
 obtain ⟨W1,hW1⟩:∃ W1,W1=(W.alloc (.cells #[.slice pa ta.length ka] 22)).alloc (.cells #[.slice pb tb.length kb] 22):=⟨_,rfl⟩
 have b1:Below W.heap.size W W1:=by rw [hW1];exact zcr _ _ _
 have u1:W1.heap[W.heap.size]?=some (.cells #[.slice pa ta.length ka] 22):=by rw [hW1];exact zaq _ (zaf _ _ rfl)
 have u2:W1.heap[W.heap.size+1]?=some (.cells #[.slice pb tb.length kb] 22):=by rw [hW1];exact zaf _ _ (by simp)
 have hm:=(map122 (.pointer (some ⟨W.heap.size,0,none⟩)) (.pointer (some ⟨W.heap.size+1,0,none⟩)) (fun v=>(zcx (zbl v ta),zcx (zbl v tb))) vars (.slice p vars.length k) W1 (hv.stays (zae b1)) hvn (fun x hx W' c hb2 hr=>by
  have hb3:=zab b1 hb2 b1.size
  exact zye x _ _ ta tb W.heap.size (W.heap.size+1) W' ((hb2.block _ (zaa u1)).trans u1) ((hb2.block _ (zaa u2)).trans u2) (ha.stays (zae hb3)) (hb.stays (zae hb3)) han hbn)).mono (fun e w' h=>za1.before b1 h)
 have HM:=Lib.hid hm
 have HW:=Lib.hid hW1
 clear hm hW1 hv ha hb u1 u2 b1
 go_enter Tryz.func74,Tryz.ntmps74
 go_upto_region 1 with fail
 rw [← HW.out]
 go_wp2_with (first
  |(go_at_call 122;(with_reducible refine HM.out.mono ?_);rintro e w1 ⟨V2,xs,rfl,hown,hrow,hb⟩;have hown2:=hown;rw [List.length_map] at hown2;obtain ⟨p2,k2,rfl⟩:=zat hown2))
 go_ret
 exact ⟨_,xs,rfl,hown,hrow,hb⟩
theorem zyg (a b:List Val) (s:Int × Int) (A B:Value) (ga gb:Nat) (W:World) (hga:W.heap[ga]?=some (.cells #[A] 43)) (hgb:W.heap[gb]?=some (.cells #[B] 43)) (ha:zai valE W (Old W) A a) (hb:zai valE W (Old W) B b) (hs1:zmr a.length s.1) (hs2:zmr b.length s.2):
 Calls Tryz.prog 131 #[.agg #[.int .i64 s.1,.int .i64 s.2],.pointer (some ⟨ga,0,none⟩),.pointer (some ⟨gb,0,none⟩)] W (zbs valE (zrb a b s) W):=by
 obtain ⟨s1,s2⟩:=s
 obtain ⟨W0,hW0⟩:∃ W0,W0=(W.alloc (.cells #[.int .i64 s1,.int .i64 s2] 138)).alloc (.cells #[.int .i64 0,.bool false,.int .i64 0,.string ⟨#[]⟩,.string ⟨#[]⟩,.slice none 0 0] 48):=⟨_,rfl⟩
 have b0:Below W.heap.size W W0:=by rw [hW0];exact zcr _ _ _
 have v0:W0.heap[W.heap.size]?=some (.cells #[.int .i64 s1,.int .i64 s2] 138):=by rw [hW0];exact zaq _ (zaf _ _ rfl)
 have u0:W0.heap[W.heap.size+1]?=some (.cells #[.int .i64 0,.bool false,.int .i64 0,.string ⟨#[]⟩,.string ⟨#[]⟩,.slice none 0 0] 48):=by rw [hW0];exact zaf _ _ (by simp)
 have ca:W0.cell? ⟨ga,0,none⟩=some A:=zad ((b0.block _ (zaa hga)).trans hga) 0 rfl
 have cb:W0.cell? ⟨gb,0,none⟩=some B:=zad ((b0.block _ (zaa hgb)).trans hgb) 0 rfl
 have H1:Hid (∀ w',Below W0.heap.size W0 w'→Calls Tryz.prog 117 #[A,.int .i64 s1] w' fun e w2=>∃ d,e=.returned (.agg d.toArray)∧zdp w2 (Old W) d (zd7 a s1)∧Below w'.heap.size w' w2):=Lib.hid fun w' h=>by
  have h2:=zab b0 h b0.size
  exact zqb a A s1 (Old W) w' (fun x hx=>Nat.lt_of_lt_of_le hx h2.size) (ha.stays (fun x hx=>⟨hx,h2.block x hx⟩)) hs1
 have H2:Hid (∀ w',Below W0.heap.size W0 w'→Calls Tryz.prog 117 #[B,.int .i64 s2] w' fun e w2=>∃ d,e=.returned (.agg d.toArray)∧zdp w2 (Old W) d (zd7 b s2)∧Below w'.heap.size w' w2):=Lib.hid fun w' h=>by
  have h2:=zab b0 h b0.size
  exact zqb b B s2 (Old W) w' (fun x hx=>Nat.lt_of_lt_of_le hx h2.size) (hb.stays (fun x hx=>⟨hx,h2.block x hx⟩)) hs2
 have e:zrb a b (s1,s2)=mrg (zd7 a s1) (zd7 b s2):=rfl
 rw [e]
 generalize zd7 a s1=va at H1 ⊢
 generalize zd7 b s2=vb at H2 ⊢
 obtain ⟨pa,ka,rfl⟩:=ha.slice
 obtain ⟨pb,kb,rfl⟩:=hb.slice
 have c1:=zad v0 0 rfl
 have HV:=Lib.hid v0
 have hz0:W0.heap.size=W.heap.size+2:=by rw [hW0];simp
 have HW:=Lib.hid hW0
 clear hW0 ha hb hga hgb e hs1 hs2 v0
 go_enter Tryz.func131,Tryz.ntmps131
 go_upto_region 1 with fail
 rw [← HW.out]
 go_upto_region 2 with (first
  |(go_at_call 117;(with_reducible refine (H1.out W0 (Below.refl _ _)).mono ?_);rintro e w1 ⟨d,rfl,hd,hb1⟩;have hld:d.length=6:=valE.len hd;have hod:=valE.one hd;have HD:=Lib.hid hd;clear hd)
  |((with_reducible refine zar (.tmp 5) (.tmp 9) w1.heap.size 48 48 _ d 6 (zaf _ _ rfl) hld ?_ ?_ ?_ ?_ zap rfl hod ?_);rfl;rfl;rfl;rfl;intro wX oX uX))
 have bX:Below W0.heap.size W0 wX:=zab hb1 (zam (zav w1 _) oX (Nat.le_refl _) (by simp)) hb1.size
 have hz1:=hb1.size
 have hdX:zdp wX (Old W) d va:=valE.stays (fun x hx=>⟨hx,(oX.block x (by have:x < W.heap.size:=hx;simp;omega) (by have:x < W.heap.size:=hx;omega)).trans (Below.heap_alloc _ _ _ (by have:x < W.heap.size:=hx;omega))⟩) HD.out
 have hld2:d.toArray.size=6:=by simp [hld]
 have H3:=Lib.hid (zd6 va wX d (Old W) hdX)
 obtain ⟨q,hq⟩:∃ q,q=isB va:=⟨_,rfl⟩
 rw [← hq] at H3
 have HQ:=Lib.hid hq
 have HDX:=Lib.hid hdX
 have HX:=Lib.hid uX
 have g5:W0.heap.size≤w1.heap.size:=hz1
 clear hq hdX oX HD hb1 ca c1
 cases q with
 | true=>
   go_upto_region 4 with (first
    |((with_reducible refine zah (.tmp 5) w1.heap.size 48 48 d 6 _ uX hld Tryz.underlying48 rfl zap ?_ ?_ ?_ ?_);rfl;rfl;rfl)
    |(go_at_call 126;(with_reducible refine H3.out.mono ?_);rintro e w3 ⟨rfl,h3⟩))
   have uY:=(h3.block _ (zaa HX.out)).trans HX.out
   have bY:=zab bX h3.is bX.size
   have H4:=Lib.hid (zq4 va w3 d (valE.stays (fun x hx=>⟨Nat.lt_of_lt_of_le hx (Nat.le_trans b0.size bY.size),h3.block x (by have:x < W.heap.size:=hx;have:=bX.size;omega)⟩) HDX.out))
   have em:mrg va vb=va:=by unfold mrg;rw [← HQ.out];rfl
   clear uX h3 bX HDX
   go_wp2_with (first
    |((with_reducible refine zah (.tmp 5) w1.heap.size 48 48 d 6 _ uY hld Tryz.underlying48 rfl zap ?_ ?_ ?_ ?_);rfl;rfl;rfl)
    |(go_at_call 116;(with_reducible refine H4.out.mono ?_);rintro e w5 ⟨v5,d5,rfl,e5,hd5,hb5⟩;obtain rfl:v5=.agg d5.toArray:=zyb hd5 e5;have b5:=zab bY hb5 bY.size;have u5:=(b5.block _ (zaa u0)).trans u0;have hl5:d5.length=6:=valE.len hd5;have ho5:=valE.one hd5;have HD5:=Lib.hid hd5;clear hd5)
    |((with_reducible refine zar (.tmp 4) (.tmp 18) (W.heap.size+1) 48 48 _ d5 6 u5 hl5 ?_ ?_ ?_ ?_ zap rfl ho5 ?_);rfl;rfl;rfl;rfl;intro wW oW uW))
   have zb:=bY.size
   have bW:=zam (zab b0 b5 b0.size) oW (Nat.le_succ _) (zab b0 b5 b0.size).size
   exact bodyPost_ret (results_cell_row (p:=4) (ty:=48) Tryz.results131 _ _ (W.heap.size+1) 48 d5.toArray (0,0) _ rfl uW Tryz.underlying48 rfl (by rw [zap];simp [hl5])) rfl ⟨_,d5,rfl,rfl,(by rw [em];exact z3s HD5.out (by omega) oW (by omega)),bW⟩
 | false=>
   go_upto_region 3 with (first
    |((with_reducible refine zah (.tmp 5) w1.heap.size 48 48 d 6 _ uX hld Tryz.underlying48 rfl zap ?_ ?_ ?_ ?_);rfl;rfl;rfl)
    |(go_at_call 126;(with_reducible refine H3.out.mono ?_);rintro e w3 ⟨rfl,h3⟩))
   have uY:=(h3.block _ (zaa HX.out)).trans HX.out
   have bY:=zab bX h3.is bX.size
   have cb3:=zbj cb bY
   have c13:=zad ((bY.block _ (by omega)).trans HV.out) 1 rfl
   have em:mrg va vb=vb:=by unfold mrg;rw [← HQ.out];rfl
   clear uX h3 bX HDX cb
   go_upto_region 4 with (first
    |(go_at_call 117;(with_reducible refine (H2.out _ bY).mono ?_);rintro e w4 ⟨d4,rfl,hd4,hb4⟩;have hl4:d4.length=6:=valE.len hd4;have ho4:=valE.one hd4;have HD4:=Lib.hid hd4;clear hd4;have uZ:=(hb4.block _ (zaa uY)).trans uY)
    |((with_reducible refine zar (.tmp 5) (.tmp 16) w1.heap.size 48 48 _ d4 6 uZ hl4 ?_ ?_ ?_ ?_ zap hld2 ho4 ?_);rfl;rfl;rfl;rfl;intro wZ oZ vZ))
   have b4:=zab bY hb4 bY.size
   have bZ:Below W0.heap.size W0 wZ:=zam b4 oZ g5 b4.size
   have hz3:=bY.size
   have H4:=Lib.hid (zq4 vb wZ d4 (valE.stays (fun x hx=>⟨Nat.lt_of_lt_of_le hx (Nat.le_trans b0.size bZ.size),oZ.block x (by have:x < W.heap.size:=hx;have:=hb4.size;omega) (by have:x < W.heap.size:=hx;omega)⟩) HD4.out))
   clear uY uZ bY hb4 b4 cb3 c13 HD4
   go_wp2_with (first
    |((with_reducible refine zah (.tmp 5) w1.heap.size 48 48 d4 6 _ vZ hl4 Tryz.underlying48 rfl zap ?_ ?_ ?_ ?_);rfl;rfl;rfl)
    |(go_at_call 116;(with_reducible refine H4.out.mono ?_);rintro e w5 ⟨v5,d5,rfl,e5,hd5,hb5⟩;obtain rfl:v5=.agg d5.toArray:=zyb hd5 e5;have b5:=zab bZ hb5 bZ.size;have u5:=(b5.block _ (zaa u0)).trans u0;have hl5:d5.length=6:=valE.len hd5;have ho5:=valE.one hd5;have HD5:=Lib.hid hd5;clear hd5)
    |((with_reducible refine zar (.tmp 4) (.tmp 18) (W.heap.size+1) 48 48 _ d5 6 u5 hl5 ?_ ?_ ?_ ?_ zap rfl ho5 ?_);rfl;rfl;rfl;rfl;intro wW oW uW))
   have zb:=bZ.size
   have bW:=zam (zab b0 b5 b0.size) oW (Nat.le_succ _) (zab b0 b5 b0.size).size
   exact bodyPost_ret (results_cell_row (p:=4) (ty:=48) Tryz.results131 _ _ (W.heap.size+1) 48 d5.toArray (0,0) _ rfl uW Tryz.underlying48 rfl (by rw [zap];simp [hl5])) rfl ⟨_,d5,rfl,rfl,(by rw [em];exact z3s HD5.out (by omega) oW (by omega)),bW⟩
theorem z1i (a b:List Val) (src:List (Int × Int)) (A B S:Value) (W:World) (ha:zai valE W (Old W) A a) (hb:zai valE W (Old W) B b) (hs:zai srcE W (Old W) S src) (hok:∀ s∈src,zmr a.length s.1∧zmr b.length s.2) (hn:src.length≤2097152):
 Calls Tryz.prog 78 #[A,B,S] W (zbs rowE (src.map (zrb a b)) W):=by
 obtain ⟨pa,ka,rfl⟩:=ha.slice
 obtain ⟨pb,kb,rfl⟩:=hb.slice
 obtain ⟨ps,ks,rfl⟩:=hs.slice
 obtain ⟨W1,hW1⟩:∃ W1,W1=(W.alloc (.cells #[.slice pa a.length ka] 43)).alloc (.cells #[.slice pb b.length kb] 43):=⟨_,rfl⟩
 have b1:Below W.heap.size W W1:=by rw [hW1];exact zcr _ _ _
 have u1:W1.heap[W.heap.size]?=some (.cells #[.slice pa a.length ka] 43):=by rw [hW1];exact zaq _ (zaf _ _ rfl)
 have u2:W1.heap[W.heap.size+1]?=some (.cells #[.slice pb b.length kb] 43):=by rw [hW1];exact zaf _ _ (by simp)
 have hm:=(map130 (.pointer (some ⟨W.heap.size,0,none⟩)) (.pointer (some ⟨W.heap.size+1,0,none⟩)) (zrb a b) src (.slice ps src.length ks) W1 (hs.stays (zae b1)) hn (fun x hx W' c hb2 hr=>by
  have hb3:=zab b1 hb2 b1.size
  obtain ⟨rfl,_⟩:=hr
  exact zyg a b x _ _ W.heap.size (W.heap.size+1) W' ((hb2.block _ (zaa u1)).trans u1) ((hb2.block _ (zaa u2)).trans u2) (ha.stays (zae hb3)) (hb.stays (zae hb3)) (hok x hx).1 (hok x hx).2)).mono (fun e w' h=>za1.before b1 h)
 have HM:=Lib.hid hm
 have HW:=Lib.hid hW1
 clear hm hW1 ha hb hs u1 u2 b1
 go_enter Tryz.func78,Tryz.ntmps78
 go_upto_region 1 with fail
 rw [← HW.out]
 go_wp2_with (first
  |(go_at_call 130;(with_reducible refine HM.out.mono ?_);rintro e w1 ⟨V2,xs,rfl,hown,hrow,hb⟩;have hown2:=hown;rw [List.length_map] at hown2;obtain ⟨p2,k2,rfl⟩:=zat hown2))
 go_ret
 exact ⟨_,[_],rfl,rfl,⟨_,rfl,za1.slice hown hrow,zb0 hown,by simpa using hn⟩,hb⟩
theorem zcb {P:Program} {w:World} {ops:Array Oper} {rest:List Oper} {o:Oper} {a:Act} {Q:Exit→Act→World→Prop} (hgd:o.guard=none) (s x:Operand) (t:TypeId)
 (ho:o.op=.call { callee:=.builtin .append,args:=#[s,x],argTypes:=#[t,t] })
 (base:Nat) (e:TypeId) (i:TypeInfo) (z:Value) (size bytes:Nat) (ht:P.underlying t=some (.slice e)) (hi:P.info? e=some i) (hz:i.zero=some z)
 (hsize:i.size=size) (hby:i.bytes=bytes) (hzs:z.cells.size=size) (hsz:0 < size)
 (v:Value) (n:Nat) (xs:List Value) (hs:a.eval s=v) (hown:w.ownsRow base e size v n xs)
 (ao:Option Addr) (m c:Nat) (news:List Value) (hx:a.eval x=.slice ao m c) (hl:news.length=m*size) (hnone:ao=none→m=0∧c=0) (hnews:∀ ad,ao=some ad→∀ (j:Nat) (u:Value),news[j]?=some u→w.cell? (ad.add j)=some u) (h1:∀ u∈news,u.oneCell'=true)
 (h63:n+m≤maxLen) (hbytes:(n+m)*bytes≤140737488355328) (hbase:base≤w.heap.size)
 (h:∀ v' w',w'.ownsRow base e size v' (n+m) (xs++news)→w.grownBy w' v.ownBlock→(v'.ownBlock=v.ownBlock∨v'.ownBlock=some w.heap.size)→wpList P ops Q rest (a.put o.dst v') w'):wpList P ops Q (o::rest) a w:=by
 cases ao with
 | some ad=>exact wpList_append_own_at w hgd s x t ho base e i z size bytes ht hi hz hsize hby hzs hsz v n xs hs hown ad m c news hx hl (hnews ad rfl) h1 h63 hbytes hbase fun v' w' h2 h3 _ h5=>h v' w' h2 h3 h5
 | none=>
   obtain ⟨rfl,rfl⟩:=hnone rfl
   have hn:news=[]:=List.eq_nil_of_length_eq_zero (by simpa using hl)
   subst hn
   refine wpList_append_own_none hgd s x t ho base e i size ht hi v n xs hs hown hx (h v w ?_ (World.grownBy.refl _ _) (.inl rfl))
   simpa using hown
theorem zs4 {w:World} {base size n m:Nat} {e:TypeId} {v:Value} {xs:List Value} (h:w.ownsRow base e size v n xs) (q:n=m):w.ownsRow base e size v m xs:=q ▸ h
theorem zai.news {α:Type} {E:Elem α} {w:World} {P:Nat→Prop} {p:Option Addr} {n cap:Nat} {l:List α} (h:zai E w P (.slice p n cap) l):∃ xs,xs.length=l.length*E.k∧RowE E w P xs l∧∀ ad,p=some ad→∀ (j:Nat) (u:Value),xs[j]?=some u→w.cell? (ad.add j)=some u:=by
 obtain ⟨p',cap',e,h⟩:=h
 cases e
 by_cases q:l=[]
 ·subst q
  exact ⟨[],by simp,RowE.nil,fun ad _ j u hu=>by simp at hu⟩
 ·obtain ⟨g,off,xs,rfl,_,hr,he⟩:=h q
  refine ⟨xs,he.len l,he,fun ad e j u hu=>?_⟩
  cases e
  rw [Addr.add_mid]
  exact hr j u hu
theorem AccB.more {β:Type} {E:Elem β} {D:TypeId} {P:Nat→Prop} {w wr w5:World} {A A2:Value} {xs ys:List Value} {bs cs:List β} (hP:∀ x,P x→x < w.heap.size) (hown:wr.ownsRow w.heap.size D E.k A bs.length xs) (hrow:RowE E wr P xs bs) (hbel:Below w.heap.size w wr)
 (hc:RowE E wr P ys cs) (hown':w5.ownsRow w.heap.size D E.k A2 (bs.length+cs.length) (xs++ys)) (hg:wr.grownBy w5 A.ownBlock):AccB E D P w (bs++cs) A2 w5:=by
 have s0:=hbel.size
 have off:∀ g,P g→w5.heap[g]?=wr.heap[g]?:=fun g h=>by
  have hlt:=hP g h
  exact hg.block g (by omega) (fun e=>by have:=(hown.lt g e.symm).1;omega)
 exact ⟨⟨xs++ys,by simpa using hown',RowE.append bs cs (hrow.stays (fun g h=>⟨h,off g h⟩)) (hc.stays (fun g h=>⟨h,off g h⟩))⟩,hbel.grown hg (by omega) (fun g e=>(hown.lt g e).1)⟩
theorem z1j (B:Value) (q:ByteArray→Bool) (l:List ByteArray) (v:Value) (w:World) (h:zai zaz w (Old w) v l) (hn:l.length≤2097152)
 (each:∀ x∈l,∀ W c,Below w.heap.size w W→zaz.rel W (Old W) c x→Calls Tryz.prog 119 #[.string x,B] W fun e w'=>e=.returned (.bool (q x))∧Below W.heap.size W w'):
 Calls Tryz.prog 118 #[v,.func (.func 119) #[] #[B]] w (zdr zaz 9 (Old w) w (l.filter q)):=by
 obtain ⟨n,hln⟩:∃ n,n=l.length:=⟨_,rfl⟩
 obtain ⟨p,cap,rfl⟩:=h.slice
 rw [← hln] at hn
 obtain ⟨i0,hi,hz0,hz1,hz2⟩:=info_parts zei
 have HL:=Lib.hid hln
 have HH:=Lib.hid h
 have HE:=Lib.hid each
 rw [← hln]
 clear h hln each
 go_enter Tryz.func118,Tryz.ntmps118
 go_wp2_with fail
 go_loopg [5,10] n (fun gg s5 s10 wr=>∃ j:Nat,j+gg=n∧s10=.int .i64 j∧Hid (AccB zaz 9 (Old w) w ((l.take j).filter q) s5 wr))
 case atStart=>exact ⟨0,by omega,rfl,Lib.hid (AccB.startOwn zaz 9 (Old w) (World.ownsRow_nil _ _ _ _) (Below.refl _ _))⟩
 case round=>
  obtain ⟨j,hjg,rfl,HA⟩:=hrel
  by_cases hlt:(j:Int) < n
  ·have hj1:j < l.length:=by have:=HL.out;omega
   have hbel:=HA.out.bel
   obtain ⟨g,off,cap',c,e0,hg,hrl,hra⟩:=(HH.out.stays (P':=Old w) (fun x hx=>⟨hx,hbel.block x hx⟩)).at_ j hj1
   injection e0 with e1 e2 e3
   subst e1
   replace hra:wr.rangeAt g (off+j*1) c:=hra
   have hjl:((l.take j).filter q).length≤j:=by have:=List.length_filter_le q (l.take j);rw [List.length_take] at this;omega
   have hold:=zaz.stays (P':=Old wr) (fun x hx=>⟨Nat.lt_of_lt_of_le hx hbel.size,rfl⟩) hrl
   obtain ⟨rfl,hwf⟩:=id hrl
   have c0:wr.cell? ⟨g,off+j,none⟩=some (.string l[j]):=by
    have:=hra 0 _ rfl
    simpa using this
   have hcall:=HE.out l[j] (List.getElem_mem hj1) wr _ hbel hold
   obtain ⟨r,hr⟩:∃ r,r=q l[j]:=⟨_,rfl⟩
   rw [← hr] at hcall
   have HC:=Lib.hid hcall
   have HR:=Lib.hid hr
   have HD:=Lib.hid hrl
   clear hcall hr hra e2 e3 hbel hold hrl
   cases r with
   | false=>
     go_wp2_with (first
      |(go_at_call 119;(with_reducible refine HC.out.mono ?_);rintro e w3 ⟨rfl,hb3⟩))
     have HA2:Hid (AccB zaz 9 (Old w) w ((l.take (j+1)).filter q) _ w3):=Lib.hid (by
      rw [List.take_succ_eq_append_getElem hj1,List.filter_append,show [l[j]].filter q=[] by simp [← HR.out],List.append_nil]
      obtain ⟨⟨xs,h1,h2⟩,h3⟩:=HA.out
      exact ⟨⟨xs,za6 h1 hb3,h2.stays (fun x hx=>⟨hx,hb3.block x (Nat.lt_of_lt_of_le hx h3.size)⟩)⟩,zab h3 hb3 h3.size⟩)
     clear hb3 HA
     go_roundg (gk - 1)
     case measure=>omega
     case rel=>exact ⟨j+1,by omega,by go_num,HA2⟩
   | true=>
     go_wp2_with (first
      |(go_at_call 119;(with_reducible refine HC.out.mono ?_);rintro e w3 ⟨rfl,hb3⟩
        obtain ⟨⟨xs,hown,hrow⟩,hbel⟩:=HA.out
        replace hown:wr.ownsRow w.heap.size 9 1 _ _ xs:=hown
        have hown3:=za6 hown hb3
        have hs3:=hb3.size
        have hsb:=hbel.size
        have HY:=Lib.hid (And.intro hown (And.intro hrow (And.intro hbel hb3)))
        clear hown hrow hbel hb3 HA)
      |(at_builtin;refine wpList_append_own_at _ rfl _ _ 132 rfl w.heap.size 9 i0 (.string ⟨#[]⟩) 1 16 Tryz.underlying132 hi hz0 hz1 hz2 rfl (by decide) _ _ _ rfl (hown3.alloc _) ⟨w3.heap.size,0,none⟩ 1 1 [.string l[j]] rfl rfl (zb3 _ _ _) (by simp [Value.oneCell']) ?_ ?_ ?_ ?_))
     all_goals (try (first |(unfold maxLen;omega) | omega |(simp;omega)))
     intro v' w5 hown' hgrow _ hloc
     have acc:AccB zaz 9 (Old w) w ((l.take (j+1)).filter q) v' w5:=by
      rw [List.take_succ_eq_append_getElem hj1,List.filter_append,show [l[j]].filter q=[l[j]] by simp [← HR.out]]
      exact AccB.next (fun x hx=>hx) HY.out.1 HY.out.2.1 HY.out.2.2.1 (Below.refl _ _) HY.out.2.2.2 (zaz.stays (P':=Old w) (fun x hx=>⟨hx,HY.out.2.2.2.block x (Nat.lt_of_lt_of_le hx HY.out.2.2.1.size)⟩) HD.out) hown' hgrow (by simpa using hloc)
     have ACC:=Lib.hid acc
     clear acc hown' hgrow hloc hown3 HY
     go_wp2_with fail
     go_roundg (gk - 1)
     case measure=>omega
     case rel=>exact ⟨j+1,by omega,by go_num,ACC⟩
  ·have e:l.take j=l:=by rw [List.take_of_length_le];have:=HL.out;omega
   have hA:=HA.out
   rw [e] at hA
   obtain ⟨⟨xs,hown,hrow⟩,hbel⟩:=hA
   have HX:=Lib.hid (And.intro hown (And.intro hrow hbel))
   clear hown hrow hbel HA
   go_wp2_with fail
   go_ret
   exact ⟨_,xs,rfl,HX.out.1,HX.out.2.1,HX.out.2.2⟩
theorem z1k (B:Value) (q:(List Val)→Bool) (l:List (List Val)) (v:Value) (w:World) (h:zai rowE w (Old w) v l) (hn:l.length≤2097152)
 (each:∀ x∈l,∀ W u,Below w.heap.size w W→rowE.rel W (Old W) [u] x→Calls Tryz.prog 80 #[u,B] W fun e w'=>e=.returned (.bool (q x))∧Below W.heap.size W w'):
 Calls Tryz.prog 70 #[v,.func (.func 80) #[] #[B]] w (zdr rowE 43 (Old w) w (l.filter q)):=by
 obtain ⟨n,hln⟩:∃ n,n=l.length:=⟨_,rfl⟩
 obtain ⟨p,cap,rfl⟩:=h.slice
 rw [← hln] at hn
 obtain ⟨i0,hi,hz0,hz1,hz2⟩:=info_parts zen
 have HL:=Lib.hid hln
 have HH:=Lib.hid h
 have HE:=Lib.hid each
 rw [← hln]
 clear h hln each
 go_enter Tryz.func70,Tryz.ntmps70
 go_wp2_with fail
 go_loopg [5,10] n (fun gg s5 s10 wr=>∃ j:Nat,j+gg=n∧s10=.int .i64 j∧Hid (AccB rowE 43 (Old w) w ((l.take j).filter q) s5 wr))
 case atStart=>exact ⟨0,by omega,rfl,Lib.hid (AccB.startOwn rowE 43 (Old w) (World.ownsRow_nil _ _ _ _) (Below.refl _ _))⟩
 case round=>
  obtain ⟨j,hjg,rfl,HA⟩:=hrel
  by_cases hlt:(j:Int) < n
  ·have hj1:j < l.length:=by have:=HL.out;omega
   have hbel:=HA.out.bel
   obtain ⟨g,off,cap',c,e0,hg,hrl,hra⟩:=(HH.out.stays (P':=Old w) (fun x hx=>⟨hx,hbel.block x hx⟩)).at_ j hj1
   injection e0 with e1 e2 e3
   subst e1
   replace hra:wr.rangeAt g (off+j*1) c:=hra
   have hjl:((l.take j).filter q).length≤j:=by have:=List.length_filter_le q (l.take j);rw [List.length_take] at this;omega
   have hold:=rowE.stays (P':=Old wr) (fun x hx=>⟨Nat.lt_of_lt_of_le hx hbel.size,rfl⟩) hrl
   obtain ⟨u,rfl⟩:∃ u,c=[u]:=by obtain ⟨v,rfl,_⟩:=id hrl;exact ⟨v,rfl⟩
   have c0:wr.cell? ⟨g,off+j,none⟩=some u:=by
    have:=hra 0 _ rfl
    simpa using this
   have hcall:=HE.out l[j] (List.getElem_mem hj1) wr u hbel hold
   obtain ⟨pu,nu,ku,rfl⟩:∃ p n k,u=.slice p n k:=by
    obtain ⟨v,e,hs,_⟩:=hrl
    cases e
    obtain ⟨p,k,rfl⟩:=hs.slice
    exact ⟨_,_,_,rfl⟩
   obtain ⟨r,hr⟩:∃ r,r=q l[j]:=⟨_,rfl⟩
   rw [← hr] at hcall
   have HC:=Lib.hid hcall
   have HR:=Lib.hid hr
   have HD:=Lib.hid hrl
   clear hcall hr hra e2 e3 hbel hold hrl
   cases r with
   | false=>
     go_wp2_with (first
      |(go_at_call 80;(with_reducible refine HC.out.mono ?_);rintro e w3 ⟨rfl,hb3⟩))
     have HA2:Hid (AccB rowE 43 (Old w) w ((l.take (j+1)).filter q) _ w3):=Lib.hid (by
      rw [List.take_succ_eq_append_getElem hj1,List.filter_append,show [l[j]].filter q=[] by simp [← HR.out],List.append_nil]
      obtain ⟨⟨xs,h1,h2⟩,h3⟩:=HA.out
      exact ⟨⟨xs,za6 h1 hb3,h2.stays (fun x hx=>⟨hx,hb3.block x (Nat.lt_of_lt_of_le hx h3.size)⟩)⟩,zab h3 hb3 h3.size⟩)
     clear hb3 HA
     go_roundg (gk - 1)
     case measure=>omega
     case rel=>exact ⟨j+1,by omega,by go_num,HA2⟩
   | true=>
     go_wp2_with (first
      |(go_at_call 80;(with_reducible refine HC.out.mono ?_);rintro e w3 ⟨rfl,hb3⟩
        obtain ⟨⟨xs,hown,hrow⟩,hbel⟩:=HA.out
        replace hown:wr.ownsRow w.heap.size 43 1 _ _ xs:=hown
        have hown3:=za6 hown hb3
        have hs3:=hb3.size
        have hsb:=hbel.size
        have HY:=Lib.hid (And.intro hown (And.intro hrow (And.intro hbel hb3)))
        clear hown hrow hbel hb3 HA)
      |(at_builtin;refine wpList_append_own_at _ rfl _ _ 79 rfl w.heap.size 43 i0 (.slice none 0 0) 1 24 Tryz.underlying79 hi hz0 hz1 hz2 rfl (by decide) _ _ _ rfl (hown3.alloc _) ⟨w3.heap.size,0,none⟩ 1 1 [.slice pu nu ku] rfl rfl (zb3 _ _ _) (by simp [Value.oneCell']) ?_ ?_ ?_ ?_))
     all_goals (try (first |(unfold maxLen;omega) | omega |(simp;omega)))
     intro v' w5 hown' hgrow _ hloc
     have acc:AccB rowE 43 (Old w) w ((l.take (j+1)).filter q) v' w5:=by
      rw [List.take_succ_eq_append_getElem hj1,List.filter_append,show [l[j]].filter q=[l[j]] by simp [← HR.out]]
      exact AccB.next (fun x hx=>hx) HY.out.1 HY.out.2.1 HY.out.2.2.1 (Below.refl _ _) HY.out.2.2.2 (rowE.stays (P':=Old w) (fun x hx=>⟨hx,HY.out.2.2.2.block x (Nat.lt_of_lt_of_le hx HY.out.2.2.1.size)⟩) HD.out) hown' hgrow (by simpa using hloc)
     have ACC:=Lib.hid acc
     clear acc hown' hgrow hloc hown3 HY
     go_wp2_with fail
     go_roundg (gk - 1)
     case measure=>omega
     case rel=>exact ⟨j+1,by omega,by go_num,ACC⟩
  ·have e:l.take j=l:=by rw [List.take_of_length_le];have:=HL.out;omega
   have hA:=HA.out
   rw [e] at hA
   obtain ⟨⟨xs,hown,hrow⟩,hbel⟩:=hA
   have HX:=Lib.hid (And.intro hown (And.intro hrow hbel))
   clear hown hrow hbel HA
   go_wp2_with fail
   go_ret
   exact ⟨_,xs,rfl,HX.out.1,HX.out.2.1,HX.out.2.2⟩
theorem z1l (B B2:Value) (q:Int→Bool) (l:List Int) (v:Value) (w:World) (h:zai intE w (Old w) v l) (hn:l.length≤2097152)
 (each:∀ x∈l,∀ W c,Below w.heap.size w W→intE.rel W (Old W) c x→Calls Tryz.prog 176 #[.int .i64 x,B,B2] W fun e w'=>e=.returned (.bool (q x))∧Below W.heap.size W w'):
 Calls Tryz.prog 175 #[v,.func (.func 176) #[] #[B,B2]] w (zdr intE 3 (Old w) w (l.filter q)):=by
 obtain ⟨n,hln⟩:∃ n,n=l.length:=⟨_,rfl⟩
 obtain ⟨p,cap,rfl⟩:=h.slice
 rw [← hln] at hn
 obtain ⟨i0,hi,hz0,hz1,hz2⟩:=info_parts zem
 have HL:=Lib.hid hln
 have HH:=Lib.hid h
 have HE:=Lib.hid each
 rw [← hln]
 clear h hln each
 go_enter Tryz.func175,Tryz.ntmps175
 go_wp2_with fail
 go_loopg [5,10] n (fun gg s5 s10 wr=>∃ j:Nat,j+gg=n∧s10=.int .i64 j∧Hid (AccB intE 3 (Old w) w ((l.take j).filter q) s5 wr))
 case atStart=>exact ⟨0,by omega,rfl,Lib.hid (AccB.startOwn intE 3 (Old w) (World.ownsRow_nil _ _ _ _) (Below.refl _ _))⟩
 case round=>
  obtain ⟨j,hjg,rfl,HA⟩:=hrel
  by_cases hlt:(j:Int) < n
  ·have hj1:j < l.length:=by have:=HL.out;omega
   have hbel:=HA.out.bel
   obtain ⟨g,off,cap',c,e0,hg,hrl,hra⟩:=(HH.out.stays (P':=Old w) (fun x hx=>⟨hx,hbel.block x hx⟩)).at_ j hj1
   injection e0 with e1 e2 e3
   subst e1
   replace hra:wr.rangeAt g (off+j*1) c:=hra
   have hjl:((l.take j).filter q).length≤j:=by have:=List.length_filter_le q (l.take j);rw [List.length_take] at this;omega
   have hold:=intE.stays (P':=Old wr) (fun x hx=>⟨Nat.lt_of_lt_of_le hx hbel.size,rfl⟩) hrl
   obtain ⟨rfl,hwf⟩:=id hrl
   have c0:wr.cell? ⟨g,off+j,none⟩=some (.int .i64 l[j]):=by
    have:=hra 0 _ rfl
    simpa using this
   have hcall:=HE.out l[j] (List.getElem_mem hj1) wr _ hbel hold
   obtain ⟨r,hr⟩:∃ r,r=q l[j]:=⟨_,rfl⟩
   rw [← hr] at hcall
   have HC:=Lib.hid hcall
   have HR:=Lib.hid hr
   have HD:=Lib.hid hrl
   clear hcall hr hra e2 e3 hbel hold hrl
   cases r with
   | false=>
     go_wp2_with (first
      |(go_at_call 176;(with_reducible refine HC.out.mono ?_);rintro e w3 ⟨rfl,hb3⟩))
     have HA2:Hid (AccB intE 3 (Old w) w ((l.take (j+1)).filter q) _ w3):=Lib.hid (by
      rw [List.take_succ_eq_append_getElem hj1,List.filter_append,show [l[j]].filter q=[] by simp [← HR.out],List.append_nil]
      obtain ⟨⟨xs,h1,h2⟩,h3⟩:=HA.out
      exact ⟨⟨xs,za6 h1 hb3,h2.stays (fun x hx=>⟨hx,hb3.block x (Nat.lt_of_lt_of_le hx h3.size)⟩)⟩,zab h3 hb3 h3.size⟩)
     clear hb3 HA
     go_roundg (gk - 1)
     case measure=>omega
     case rel=>exact ⟨j+1,by omega,by go_num,HA2⟩
   | true=>
     go_wp2_with (first
      |(go_at_call 176;(with_reducible refine HC.out.mono ?_);rintro e w3 ⟨rfl,hb3⟩
        obtain ⟨⟨xs,hown,hrow⟩,hbel⟩:=HA.out
        replace hown:wr.ownsRow w.heap.size 3 1 _ _ xs:=hown
        have hown3:=za6 hown hb3
        have hs3:=hb3.size
        have hsb:=hbel.size
        have HY:=Lib.hid (And.intro hown (And.intro hrow (And.intro hbel hb3)))
        clear hown hrow hbel hb3 HA)
      |(at_builtin;refine wpList_append_own_at _ rfl _ _ 188 rfl w.heap.size 3 i0 (.int .i64 0) 1 8 Tryz.underlying188 hi hz0 hz1 hz2 rfl (by decide) _ _ _ rfl (hown3.alloc _) ⟨w3.heap.size,0,none⟩ 1 1 [.int .i64 l[j]] rfl rfl (zb3 _ _ _) (by simp [Value.oneCell']) ?_ ?_ ?_ ?_))
     all_goals (try (first |(unfold maxLen;omega) | omega |(simp;omega)))
     intro v' w5 hown' hgrow _ hloc
     have acc:AccB intE 3 (Old w) w ((l.take (j+1)).filter q) v' w5:=by
      rw [List.take_succ_eq_append_getElem hj1,List.filter_append,show [l[j]].filter q=[l[j]] by simp [← HR.out]]
      exact AccB.next (fun x hx=>hx) HY.out.1 HY.out.2.1 HY.out.2.2.1 (Below.refl _ _) HY.out.2.2.2 (intE.stays (P':=Old w) (fun x hx=>⟨hx,HY.out.2.2.2.block x (Nat.lt_of_lt_of_le hx HY.out.2.2.1.size)⟩) HD.out) hown' hgrow (by simpa using hloc)
     have ACC:=Lib.hid acc
     clear acc hown' hgrow hloc hown3 HY
     go_wp2_with fail
     go_roundg (gk - 1)
     case measure=>omega
     case rel=>exact ⟨j+1,by omega,by go_num,ACC⟩
  ·have e:l.take j=l:=by rw [List.take_of_length_le];have:=HL.out;omega
   have hA:=HA.out
   rw [e] at hA
   obtain ⟨⟨xs,hown,hrow⟩,hbel⟩:=hA
   have HX:=Lib.hid (And.intro hown (And.intro hrow hbel))
   clear hown hrow hbel HA
   go_wp2_with fail
   go_ret
   exact ⟨_,xs,rfl,HX.out.1,HX.out.2.1,HX.out.2.2⟩
theorem zvy (P:Nat→Prop) (l1 l2:List ByteArray) (v1 v2:Value) (g:Nat) (w:World) (hP:∀ x,P x→x < w.heap.size) (hg:w.heap[g]?=some (.cells #[v1,v2] 132)) (h1:zai zaz w P v1 l1) (h2:zai zaz w P v2 l2) (k1:capK v1) (k2:capK v2) (hn1:l1.length≤2097152) (hn2:l2.length≤2097152):
 Calls Tryz.prog 121 #[.slice (some ⟨g,0,none⟩) 2 2] w (zdr zaz 9 P w (l1++l2)):=by
 obtain ⟨i0,hi,hz0,hz1,hz2⟩:=info_parts zei
 obtain ⟨p1,c1,rfl⟩:=h1.slice
 obtain ⟨p2,c2,rfl⟩:=h2.slice
 obtain ⟨n1,hl1⟩:∃ n,n=l1.length:=⟨_,rfl⟩
 obtain ⟨n2,hl2⟩:∃ n,n=l2.length:=⟨_,rfl⟩
 rw [← hl1,← hl2] at hg
 rw [← hl1] at hn1 h1 k1
 rw [← hl2] at hn2 h2 k2
 have hgr:=zxz (n1+n2) (by omega) w
 rw [show ((n1+n2:Nat):Int)=(n1:Int)+n2 by omega] at hgr
 have HG:=Lib.hid hgr
 clear hgr
 have H1:=Lib.hid h1
 have H2:=Lib.hid h2
 have HU:=Lib.hid hg
 have HN1:Hid (p1=none→n1=0∧c1=0):=Lib.hid fun e=>by
  have hc:=k1.2 n1 c1 (by rw [e])
  have:=k1.1 p1 n1 c1 rfl
  exact ⟨by omega,hc⟩
 have HN2:Hid (p2=none→n2=0∧c2=0):=Lib.hid fun e=>by
  have hc:=k2.2 n2 c2 (by rw [e])
  have:=k2.1 p2 n2 c2 rfl
  exact ⟨by omega,hc⟩
 have HL1:=Lib.hid hl1
 have HL2:=Lib.hid hl2
 have d0:=zad hg 0 rfl
 have d1:=zad hg 1 rfl
 clear h1 h2 hg k1 k2 hl1 hl2
 go_enter Tryz.func121,Tryz.ntmps121
 go_wp2_with fail
 go_loopg [3,11] 2 (fun gg s3 s11 wr=>∃ j:Nat,j+gg=2∧s11=.int .i64 j∧s3=.int .i64 (if j=0 then 0 else if j=1 then (n1:Int) else (n1:Int)+n2)∧wr=w)
 case atStart=>exact ⟨0,by omega,rfl,rfl,rfl⟩
 case round=>
  obtain ⟨j,hjg,rfl,rfl,rfl⟩:=hrel
  rcases (show j=0∨j=1∨j=2 by omega) with rfl | rfl | rfl
  ·have t1:¬ ((n1:Int) < 0):=by omega
   go_wp2_with fail
   go_roundg (gk - 1)
   case measure=>omega
   case rel=>exact ⟨1,by omega,by go_num,by simp,rfl⟩
  ·have t1:¬ ((n1:Int)+n2 < 0):=by omega
   go_wp2_with fail
   go_roundg (gk - 1)
   case measure=>omega
   case rel=>exact ⟨2,by omega,by go_num,by simp,rfl⟩
  ·go_wp2_with (first
    |(go_at_call 172;(with_reducible refine HG.out.mono ?_);rintro e w1 ⟨v3,rfl,ho1,hb1⟩))
   have ACC0:=Lib.hid (AccB.startOwn zaz 9 P ho1 hb1)
   clear ho1 hb1 d0 d1
   go_loopg [6,27] 2 (fun gg s6 s27 wx=>∃ j:Nat,j+gg=2∧s27=.int .i64 j∧Hid (AccB zaz 9 P wr (if j=0 then [] else if j=1 then l1 else l1++l2) s6 wx))
   case atStart=>exact ⟨0,by omega,rfl,by simpa using ACC0⟩
   case round=>
    clear ACC0
    obtain ⟨j,hjg,rfl,HA⟩:=hrel
    rename World=>wx
    obtain ⟨⟨xs,hown,hrow⟩,hbel⟩:=HA.out
    have hsz:=hbel.size
    rcases (show j=0∨j=1∨j=2 by omega) with rfl | rfl | rfl
    ·replace hown:wx.ownsRow wr.heap.size 9 1 _ 0 xs:=hown
     obtain ⟨ys,hy1,hy2,hy3⟩:=(H1.out.stays (P':=P) (fun x hx=>⟨hx,hbel.block x (hP x hx)⟩)).news
     replace hy1:ys.length=n1*1:=by rw [hy1,HL1.out];rfl
     have hyo:=hy2.one
     have d0:=zad ((hbel.block _ (zaa HU.out)).trans HU.out) 0 rfl
     have HY:=Lib.hid (And.intro hown (And.intro hrow (And.intro hbel hy2)))
     clear hrow hbel hy2 HA
     go_wp2_with (first
      |(at_builtin;refine zcb rfl _ _ 132 rfl wr.heap.size 9 i0 (.string ⟨#[]⟩) 1 16 Tryz.underlying132 hi hz0 hz1 hz2 rfl (by decide) _ 0 xs rfl hown p1 n1 c1 ys rfl hy1 HN1.out hy3 hyo (by unfold maxLen;omega) (by omega) hsz ?_))
     intro v' w5 hown' hgrow hloc
     have acc:AccB zaz 9 P wr l1 v' w5:=by
      have:=AccB.more (bs:=[]) hP HY.out.1 HY.out.2.1 HY.out.2.2.1 HY.out.2.2.2 (by rw [← HL1.out,List.length_nil,Nat.zero_add];exact hown') hgrow
      exact this
     have ACC:=Lib.hid acc
     clear acc hown' hgrow hloc hown HY hy3 d0 hyo
     go_wp2_with fail
     go_roundg (gk - 1)
     case measure=>omega
     case rel=>exact ⟨1,by omega,by go_num,by simpa using ACC⟩
    ·replace hown:=zs4 (m:=n1) hown HL1.out.symm
     obtain ⟨ys,hy1,hy2,hy3⟩:=(H2.out.stays (P':=P) (fun x hx=>⟨hx,hbel.block x (hP x hx)⟩)).news
     replace hy1:ys.length=n2*1:=by rw [hy1,HL2.out];rfl
     have hyo:=hy2.one
     have d0:=zad ((hbel.block _ (zaa HU.out)).trans HU.out) 1 rfl
     have HY:=Lib.hid (And.intro hown (And.intro hrow (And.intro hbel hy2)))
     clear hrow hbel hy2 HA
     go_wp2_with (first
      |(at_builtin;refine zcb rfl _ _ 132 rfl wr.heap.size 9 i0 (.string ⟨#[]⟩) 1 16 Tryz.underlying132 hi hz0 hz1 hz2 rfl (by decide) _ n1 xs rfl hown p2 n2 c2 ys rfl hy1 HN2.out hy3 hyo (by unfold maxLen;omega) (by omega) hsz ?_))
     intro v' w5 hown' hgrow hloc
     have acc:AccB zaz 9 P wr (l1++l2) v' w5:=by
      have h0:=HY.out.1
      rw [HL1.out] at h0
      exact AccB.more hP h0 HY.out.2.1 HY.out.2.2.1 HY.out.2.2.2 (by rw [← HL1.out,← HL2.out];exact hown') hgrow
     have ACC:=Lib.hid acc
     clear acc hown' hgrow hloc hown HY hy3 d0 hyo
     go_wp2_with fail
     go_roundg (gk - 1)
     case measure=>omega
     case rel=>exact ⟨2,by omega,by go_num,by simpa using ACC⟩
    ·have hown2:wx.ownsRow wr.heap.size 9 1 _ (l1++l2).length xs:=hown
     have hrow2:RowE zaz wx P xs (l1++l2):=hrow
     have HX:=Lib.hid (And.intro hown2 (And.intro hrow2 hbel))
     clear hown hrow hbel HA hown2 hrow2
     go_wp2_with fail
     go_ret
     exact ⟨_,xs,rfl,HX.out.1,HX.out.2.1,HX.out.2.2⟩
theorem zyh (l1 l2:List ByteArray) (v1 v2:Value) (g:Nat) (w:World) (hg:w.heap[g]?=some (.cells #[v1,v2] 132)) (h1:zai zaz w (Old w) v1 l1) (h2:zai zaz w (Old w) v2 l2) (k1:capK v1) (k2:capK v2) (hn1:l1.length≤2097152) (hn2:l2.length≤2097152):
 Calls Tryz.prog 121 #[.slice (some ⟨g,0,none⟩) 2 2] w (zdr zaz 9 (Old w) w (l1++l2)):=zvy (Old w) l1 l2 v1 v2 g w (fun _ h=>h) hg h1 h2 k1 k2 hn1 hn2
theorem zvz (P:Nat→Prop) (l1 l2:List Int) (v1 v2:Value) (g:Nat) (w:World) (hP:∀ x,P x→x < w.heap.size) (hg:w.heap[g]?=some (.cells #[v1,v2] 188)) (h1:zai intE w P v1 l1) (h2:zai intE w P v2 l2) (k1:capK v1) (k2:capK v2) (hn1:l1.length≤2097152) (hn2:l2.length≤2097152):
 Calls Tryz.prog 177 #[.slice (some ⟨g,0,none⟩) 2 2] w (zdr intE 3 P w (l1++l2)):=by
 obtain ⟨i0,hi,hz0,hz1,hz2⟩:=info_parts zem
 obtain ⟨p1,c1,rfl⟩:=h1.slice
 obtain ⟨p2,c2,rfl⟩:=h2.slice
 obtain ⟨n1,hl1⟩:∃ n,n=l1.length:=⟨_,rfl⟩
 obtain ⟨n2,hl2⟩:∃ n,n=l2.length:=⟨_,rfl⟩
 rw [← hl1,← hl2] at hg
 rw [← hl1] at hn1 h1 k1
 rw [← hl2] at hn2 h2 k2
 have hgr:=zx2 (n1+n2) (by omega) w
 rw [show ((n1+n2:Nat):Int)=(n1:Int)+n2 by omega] at hgr
 have HG:=Lib.hid hgr
 clear hgr
 have H1:=Lib.hid h1
 have H2:=Lib.hid h2
 have HU:=Lib.hid hg
 have HN1:Hid (p1=none→n1=0∧c1=0):=Lib.hid fun e=>by
  have hc:=k1.2 n1 c1 (by rw [e])
  have:=k1.1 p1 n1 c1 rfl
  exact ⟨by omega,hc⟩
 have HN2:Hid (p2=none→n2=0∧c2=0):=Lib.hid fun e=>by
  have hc:=k2.2 n2 c2 (by rw [e])
  have:=k2.1 p2 n2 c2 rfl
  exact ⟨by omega,hc⟩
 have HL1:=Lib.hid hl1
 have HL2:=Lib.hid hl2
 have d0:=zad hg 0 rfl
 have d1:=zad hg 1 rfl
 clear h1 h2 hg k1 k2 hl1 hl2
 go_enter Tryz.func177,Tryz.ntmps177
 go_wp2_with fail
 go_loopg [3,11] 2 (fun gg s3 s11 wr=>∃ j:Nat,j+gg=2∧s11=.int .i64 j∧s3=.int .i64 (if j=0 then 0 else if j=1 then (n1:Int) else (n1:Int)+n2)∧wr=w)
 case atStart=>exact ⟨0,by omega,rfl,rfl,rfl⟩
 case round=>
  obtain ⟨j,hjg,rfl,rfl,rfl⟩:=hrel
  rcases (show j=0∨j=1∨j=2 by omega) with rfl | rfl | rfl
  ·have t1:¬ ((n1:Int) < 0):=by omega
   go_wp2_with fail
   go_roundg (gk - 1)
   case measure=>omega
   case rel=>exact ⟨1,by omega,by go_num,by simp,rfl⟩
  ·have t1:¬ ((n1:Int)+n2 < 0):=by omega
   go_wp2_with fail
   go_roundg (gk - 1)
   case measure=>omega
   case rel=>exact ⟨2,by omega,by go_num,by simp,rfl⟩
  ·go_wp2_with (first
    |(go_at_call 211;(with_reducible refine HG.out.mono ?_);rintro e w1 ⟨v3,rfl,ho1,hb1⟩))
   have ACC0:=Lib.hid (AccB.startOwn intE 3 P ho1 hb1)
   clear ho1 hb1 d0 d1
   go_loopg [6,27] 2 (fun gg s6 s27 wx=>∃ j:Nat,j+gg=2∧s27=.int .i64 j∧Hid (AccB intE 3 P wr (if j=0 then [] else if j=1 then l1 else l1++l2) s6 wx))
   case atStart=>exact ⟨0,by omega,rfl,by simpa using ACC0⟩
   case round=>
    clear ACC0
    obtain ⟨j,hjg,rfl,HA⟩:=hrel
    rename World=>wx
    obtain ⟨⟨xs,hown,hrow⟩,hbel⟩:=HA.out
    have hsz:=hbel.size
    rcases (show j=0∨j=1∨j=2 by omega) with rfl | rfl | rfl
    ·replace hown:wx.ownsRow wr.heap.size 3 1 _ 0 xs:=hown
     obtain ⟨ys,hy1,hy2,hy3⟩:=(H1.out.stays (P':=P) (fun x hx=>⟨hx,hbel.block x (hP x hx)⟩)).news
     replace hy1:ys.length=n1*1:=by rw [hy1,HL1.out];rfl
     have hyo:=hy2.one
     have d0:=zad ((hbel.block _ (zaa HU.out)).trans HU.out) 0 rfl
     have HY:=Lib.hid (And.intro hown (And.intro hrow (And.intro hbel hy2)))
     clear hrow hbel hy2 HA
     go_wp2_with (first
      |(at_builtin;refine zcb rfl _ _ 188 rfl wr.heap.size 3 i0 (.int .i64 0) 1 8 Tryz.underlying188 hi hz0 hz1 hz2 rfl (by decide) _ 0 xs rfl hown p1 n1 c1 ys rfl hy1 HN1.out hy3 hyo (by unfold maxLen;omega) (by omega) hsz ?_))
     intro v' w5 hown' hgrow hloc
     have acc:AccB intE 3 P wr l1 v' w5:=by
      have:=AccB.more (bs:=[]) hP HY.out.1 HY.out.2.1 HY.out.2.2.1 HY.out.2.2.2 (by rw [← HL1.out,List.length_nil,Nat.zero_add];exact hown') hgrow
      exact this
     have ACC:=Lib.hid acc
     clear acc hown' hgrow hloc hown HY hy3 d0 hyo
     go_wp2_with fail
     go_roundg (gk - 1)
     case measure=>omega
     case rel=>exact ⟨1,by omega,by go_num,by simpa using ACC⟩
    ·replace hown:=zs4 (m:=n1) hown HL1.out.symm
     obtain ⟨ys,hy1,hy2,hy3⟩:=(H2.out.stays (P':=P) (fun x hx=>⟨hx,hbel.block x (hP x hx)⟩)).news
     replace hy1:ys.length=n2*1:=by rw [hy1,HL2.out];rfl
     have hyo:=hy2.one
     have d0:=zad ((hbel.block _ (zaa HU.out)).trans HU.out) 1 rfl
     have HY:=Lib.hid (And.intro hown (And.intro hrow (And.intro hbel hy2)))
     clear hrow hbel hy2 HA
     go_wp2_with (first
      |(at_builtin;refine zcb rfl _ _ 188 rfl wr.heap.size 3 i0 (.int .i64 0) 1 8 Tryz.underlying188 hi hz0 hz1 hz2 rfl (by decide) _ n1 xs rfl hown p2 n2 c2 ys rfl hy1 HN2.out hy3 hyo (by unfold maxLen;omega) (by omega) hsz ?_))
     intro v' w5 hown' hgrow hloc
     have acc:AccB intE 3 P wr (l1++l2) v' w5:=by
      have h0:=HY.out.1
      rw [HL1.out] at h0
      exact AccB.more hP h0 HY.out.2.1 HY.out.2.2.1 HY.out.2.2.2 (by rw [← HL1.out,← HL2.out];exact hown') hgrow
     have ACC:=Lib.hid acc
     clear acc hown' hgrow hloc hown HY hy3 d0 hyo
     go_wp2_with fail
     go_roundg (gk - 1)
     case measure=>omega
     case rel=>exact ⟨2,by omega,by go_num,by simpa using ACC⟩
    ·have hown2:wx.ownsRow wr.heap.size 3 1 _ (l1++l2).length xs:=hown
     have hrow2:RowE intE wx P xs (l1++l2):=hrow
     have HX:=Lib.hid (And.intro hown2 (And.intro hrow2 hbel))
     clear hown hrow hbel HA hown2 hrow2
     go_wp2_with fail
     go_ret
     exact ⟨_,xs,rfl,HX.out.1,HX.out.2.1,HX.out.2.2⟩
theorem zyi (l1 l2:List Int) (v1 v2:Value) (g:Nat) (w:World) (hg:w.heap[g]?=some (.cells #[v1,v2] 188)) (h1:zai intE w (Old w) v1 l1) (h2:zai intE w (Old w) v2 l2) (k1:capK v1) (k2:capK v2) (hn1:l1.length≤2097152) (hn2:l2.length≤2097152):
 Calls Tryz.prog 177 #[.slice (some ⟨g,0,none⟩) 2 2] w (zdr intE 3 (Old w) w (l1++l2)):=zvz (Old w) l1 l2 v1 v2 g w (fun _ h=>h) hg h1 h2 k1 k2 hn1 hn2
theorem zyj (P:Nat→Prop) (l1 l2:List (List Val)) (v1 v2:Value) (g:Nat) (w:World) (hP:∀ x,P x→x < w.heap.size) (hg:w.heap[g]?=some (.cells #[v1,v2] 23)) (h1:zai rowE w P v1 l1) (h2:zai rowE w P v2 l2) (k1:capK v1) (k2:capK v2) (hn1:l1.length≤2097152) (hn2:l2.length≤2097152):
 Calls Tryz.prog 79 #[.slice (some ⟨g,0,none⟩) 2 2] w (zdr rowE 43 P w (l1++l2)):=by
 obtain ⟨i0,hi,hz0,hz1,hz2⟩:=info_parts zen
 obtain ⟨p1,c1,rfl⟩:=h1.slice
 obtain ⟨p2,c2,rfl⟩:=h2.slice
 obtain ⟨n1,hl1⟩:∃ n,n=l1.length:=⟨_,rfl⟩
 obtain ⟨n2,hl2⟩:∃ n,n=l2.length:=⟨_,rfl⟩
 rw [← hl1,← hl2] at hg
 rw [← hl1] at hn1 h1 k1
 rw [← hl2] at hn2 h2 k2
 have hgr:=znq (n1+n2) (by omega) w
 rw [show ((n1+n2:Nat):Int)=(n1:Int)+n2 by omega] at hgr
 have HG:=Lib.hid hgr
 clear hgr
 have H1:=Lib.hid h1
 have H2:=Lib.hid h2
 have HU:=Lib.hid hg
 have HN1:Hid (p1=none→n1=0∧c1=0):=Lib.hid fun e=>by
  have hc:=k1.2 n1 c1 (by rw [e])
  have:=k1.1 p1 n1 c1 rfl
  exact ⟨by omega,hc⟩
 have HN2:Hid (p2=none→n2=0∧c2=0):=Lib.hid fun e=>by
  have hc:=k2.2 n2 c2 (by rw [e])
  have:=k2.1 p2 n2 c2 rfl
  exact ⟨by omega,hc⟩
 have HL1:=Lib.hid hl1
 have HL2:=Lib.hid hl2
 have d0:=zad hg 0 rfl
 have d1:=zad hg 1 rfl
 clear h1 h2 hg k1 k2 hl1 hl2
 go_enter Tryz.func79,Tryz.ntmps79
 go_wp2_with fail
 go_loopg [3,11] 2 (fun gg s3 s11 wr=>∃ j:Nat,j+gg=2∧s11=.int .i64 j∧s3=.int .i64 (if j=0 then 0 else if j=1 then (n1:Int) else (n1:Int)+n2)∧wr=w)
 case atStart=>exact ⟨0,by omega,rfl,rfl,rfl⟩
 case round=>
  obtain ⟨j,hjg,rfl,rfl,rfl⟩:=hrel
  rcases (show j=0∨j=1∨j=2 by omega) with rfl | rfl | rfl
  ·have t1:¬ ((n1:Int) < 0):=by omega
   go_wp2_with fail
   go_roundg (gk - 1)
   case measure=>omega
   case rel=>exact ⟨1,by omega,by go_num,by simp,rfl⟩
  ·have t1:¬ ((n1:Int)+n2 < 0):=by omega
   go_wp2_with fail
   go_roundg (gk - 1)
   case measure=>omega
   case rel=>exact ⟨2,by omega,by go_num,by simp,rfl⟩
  ·go_wp2_with (first
    |(go_at_call 132;(with_reducible refine HG.out.mono ?_);rintro e w1 ⟨v3,rfl,ho1,hb1⟩))
   have ACC0:=Lib.hid (AccB.startOwn rowE 43 P ho1 hb1)
   clear ho1 hb1 d0 d1
   go_loopg [6,27] 2 (fun gg s6 s27 wx=>∃ j:Nat,j+gg=2∧s27=.int .i64 j∧Hid (AccB rowE 43 P wr (if j=0 then [] else if j=1 then l1 else l1++l2) s6 wx))
   case atStart=>exact ⟨0,by omega,rfl,by simpa using ACC0⟩
   case round=>
    clear ACC0
    obtain ⟨j,hjg,rfl,HA⟩:=hrel
    rename World=>wx
    obtain ⟨⟨xs,hown,hrow⟩,hbel⟩:=HA.out
    have hsz:=hbel.size
    rcases (show j=0∨j=1∨j=2 by omega) with rfl | rfl | rfl
    ·replace hown:wx.ownsRow wr.heap.size 43 1 _ 0 xs:=hown
     obtain ⟨ys,hy1,hy2,hy3⟩:=(H1.out.stays (P':=P) (fun x hx=>⟨hx,hbel.block x (hP x hx)⟩)).news
     replace hy1:ys.length=n1*1:=by rw [hy1,HL1.out];rfl
     have hyo:=hy2.one
     have d0:=zad ((hbel.block _ (zaa HU.out)).trans HU.out) 0 rfl
     have HY:=Lib.hid (And.intro hown (And.intro hrow (And.intro hbel hy2)))
     clear hrow hbel hy2 HA
     go_wp2_with (first
      |(at_builtin;refine zcb rfl _ _ 23 rfl wr.heap.size 43 i0 (.slice none 0 0) 1 24 Tryz.underlying23 hi hz0 hz1 hz2 rfl (by decide) _ 0 xs rfl hown p1 n1 c1 ys rfl hy1 HN1.out hy3 hyo (by unfold maxLen;omega) (by omega) hsz ?_))
     intro v' w5 hown' hgrow hloc
     have acc:AccB rowE 43 P wr l1 v' w5:=by
      have:=AccB.more (bs:=[]) hP HY.out.1 HY.out.2.1 HY.out.2.2.1 HY.out.2.2.2 (by rw [← HL1.out,List.length_nil,Nat.zero_add];exact hown') hgrow
      exact this
     have ACC:=Lib.hid acc
     clear acc hown' hgrow hloc hown HY hy3 d0 hyo
     go_wp2_with fail
     go_roundg (gk - 1)
     case measure=>omega
     case rel=>exact ⟨1,by omega,by go_num,by simpa using ACC⟩
    ·replace hown:=zs4 (m:=n1) hown HL1.out.symm
     obtain ⟨ys,hy1,hy2,hy3⟩:=(H2.out.stays (P':=P) (fun x hx=>⟨hx,hbel.block x (hP x hx)⟩)).news
     replace hy1:ys.length=n2*1:=by rw [hy1,HL2.out];rfl
     have hyo:=hy2.one
     have d0:=zad ((hbel.block _ (zaa HU.out)).trans HU.out) 1 rfl
     have HY:=Lib.hid (And.intro hown (And.intro hrow (And.intro hbel hy2)))
     clear hrow hbel hy2 HA
     go_wp2_with (first
      |(at_builtin;refine zcb rfl _ _ 23 rfl wr.heap.size 43 i0 (.slice none 0 0) 1 24 Tryz.underlying23 hi hz0 hz1 hz2 rfl (by decide) _ n1 xs rfl hown p2 n2 c2 ys rfl hy1 HN2.out hy3 hyo (by unfold maxLen;omega) (by omega) hsz ?_))
     intro v' w5 hown' hgrow hloc
     have acc:AccB rowE 43 P wr (l1++l2) v' w5:=by
      have h0:=HY.out.1
      rw [HL1.out] at h0
      exact AccB.more hP h0 HY.out.2.1 HY.out.2.2.1 HY.out.2.2.2 (by rw [← HL1.out,← HL2.out];exact hown') hgrow
     have ACC:=Lib.hid acc
     clear acc hown' hgrow hloc hown HY hy3 d0 hyo
     go_wp2_with fail
     go_roundg (gk - 1)
     case measure=>omega
     case rel=>exact ⟨2,by omega,by go_num,by simpa using ACC⟩
    ·have hown2:wx.ownsRow wr.heap.size 43 1 _ (l1++l2).length xs:=hown
     have hrow2:RowE rowE wx P xs (l1++l2):=hrow
     have HX:=Lib.hid (And.intro hown2 (And.intro hrow2 hbel))
     clear hown hrow hbel HA hown2 hrow2
     go_wp2_with fail
     go_ret
     exact ⟨_,xs,rfl,HX.out.1,HX.out.2.1,HX.out.2.2⟩
structure Own (base n:Nat) (v:Value) (w0 w:World):Prop where
 row:∃ xs,w.ownsRow base 5 1 v n xs
 lo:base≤w.heap.size
 bel:Below base w0 w
def zb7 (n:Int) (i:Nat):UInt8:=UInt8.ofNat ((n / (2:Int) ^ (8*i)) % 256).toNat
theorem zif (n:Int) (i:Nat):((zb7 n i).toNat:Int)=n / (2:Int) ^ (8*i) % 256:=by
 unfold zb7
 have h0:0≤n / (2:Int) ^ (8*i) % 256:=Int.emod_nonneg _ (by decide)
 have h1:n / (2:Int) ^ (8*i) % 256 < 256:=Int.emod_lt_of_pos _ (by decide)
 generalize n / (2:Int) ^ (8*i) % 256=z at h0 h1 ⊢
 rw [UInt8.toNat_ofNat']
 omega
def beB (n:Int):Nat→List UInt8
 | 0=>[]
 | i+1=>zb7 n i::beB n i
theorem zbc (n:Int):(k:Nat)→(beB n k).length=k
 | 0=>rfl
 | k+1=>by simp [beB,zbc n k]
def txtB (t:ByteArray):List UInt8:=t.data.toList
theorem zep (t:ByteArray):(txtB t).length=t.size:=Array.length_toList
def lenB (t:ByteArray):List UInt8:=beB t.size 4++txtB t
theorem zfs (t:ByteArray):(lenB t).length=4+t.size:=by
 unfold lenB
 rw [List.length_append,zbc,zep]
mutual
def encP:Val→List UInt8
 | .mk k b n t x l=>zb7 k 0::(if k=1 then [if b then 1 else 0] else if k=2∨k=6∨k=7 then beB n 8 else if k=3∨k=4∨k=8∨k=9 then lenB t
    else if k=10 then lenB t++lenB x else if k=5 then beB l.length 4++zao l else [])
def zao:List Val→List UInt8
 | []=>[]
 | v::r=>encP v++zao r
end
mutual
def wOne:Val→Nat
 | .mk _ _ _ t x l=>1+t.size+x.size+wAll l
def wAll:List Val→Nat
 | []=>0
 | v::r=>wOne v+wAll r
end
theorem zqd:{l:List Val}→{v:Val}→v∈l→wOne v≤wAll l
 | [],_,h=>absurd h (by simp)
 | u::r,v,h=>by
   unfold wAll
   rcases List.mem_cons.1 h with h | h
   ·rw [h];omega
   ·have:=zqd h;omega
theorem zqe:(l:List Val)→l.length≤wAll l
 | []=>by simp
 | .mk k b n t x q::r=>by
   unfold wAll wOne
   have:=zqe r
   simp only [List.length_cons]
   omega
mutual
theorem zum:(v:Val)→(encP v).length≤13*wOne v
 | .mk k b n t x l=>by
   have h:=zdg l
   unfold encP wOne
   rw [List.length_cons]
   split
   ·simp;omega
   split
   ·rw [zbc];omega
   split
   ·rw [zfs];omega
   split
   ·rw [List.length_append,zfs,zfs];omega
   split
   ·rw [List.length_append,zbc];omega
   ·simp;omega
theorem zdg:(l:List Val)→(zao l).length≤13*wAll l
 | []=>by simp [zao]
 | v::r=>by
   have:=zum v
   have:=zdg r
   unfold zao wAll
   rw [List.length_append]
   omega
end
theorem zi5:(l:List Val)→(j:Nat)→(h:j < l.length)→zao (l.take (j+1))=zao (l.take j)++encP (l[j]'h)
 | [],_,h=>absurd h (by simp)
 | v::r,0,_=>by simp [zao]
 | v::r,j+1,h=>by
   have:=zi5 r j (by simpa using h)
   simp [zao,this,List.append_assoc]
theorem znu:(l:List Val)→(j:Nat)→(h:j < l.length)→wAll (l.take j)+wOne (l[j]'h)≤wAll l
 | [],_,h=>absurd h (by simp)
 | v::r,0,_=>by
   show wAll (v::r.take 0 |>.take 0)+wOne v≤_
   simp [wAll]
 | v::r,j+1,h=>by
   have:=znu r j (by simpa using h)
   show wAll (v::r.take j)+wOne (r[j]'(by simpa using h))≤wAll (v::r)
   unfold wAll
   omega
theorem zba (a b:List UInt8):vals (a++b)=vals a++vals b:=by simp [vals]
theorem zs5 (a:List UInt8):(vals a).length=a.length:=by simp [vals]
def Bts (w:World) (A:Value) (l:List UInt8):Prop:=∃ p cap,A=.slice p l.length cap∧(l=[]∨∃ g off,p=some ⟨g,off,none⟩∧∀ j c,l[j]?=some c→w.cell? ⟨g,off+j,none⟩=some (.int .u8 c.toNat))
theorem Bts.below {w w':World} {A:Value} {l:List UInt8} (h:Bts w A l) (b:Below w.heap.size w w'):Bts w' A l:=by
 obtain ⟨p,cap,e,h⟩:=h
 refine ⟨p,cap,e,?_⟩
 rcases h with h | ⟨g,off,e2,h⟩
 ·exact .inl h
 ·exact .inr ⟨g,off,e2,fun j c hj=>(b.cell (p:=⟨g,off+j,none⟩) (World.block_lt_of_cell? w _ (h j c hj))).trans (h j c hj)⟩
structure OwnB (w0:World) (A:Value) (l:List UInt8) (w:World):Prop where
 own:w.ownsRow w0.heap.size 5 1 A l.length (vals l)
 bel:Below w0.heap.size w0 w
theorem OwnB.lo {w0 w:World} {A:Value} {l:List UInt8} (h:OwnB w0 A l w):w0.heap.size≤w.heap.size:=h.bel.size
theorem OwnB.alloc {w0 w:World} {A:Value} {l:List UInt8} (h:OwnB w0 A l w) (o:Obj):OwnB w0 A l (w.alloc o):=⟨h.own.alloc o,h.bel.alloc h.lo o⟩
theorem OwnB.start (w:World):OwnB w (.slice none 0 0) [] w:=⟨World.ownsRow_nil _ _ _ _,Below.refl _ _⟩
theorem OwnB.say {w0 w w1:World} {A A':Value} {l l':List UInt8} {n:Nat} {xs:List Value} (h:OwnB w0 A l w) (hown:w1.ownsRow w0.heap.size 5 1 A' n xs) (hg:w.grownBy w1 A.ownBlock) (hn:n=l'.length) (hx:xs=vals l'):OwnB w0 A' l' w1:=by
 subst hn hx
 exact ⟨hown,h.bel.grown hg h.lo (fun k hk=>(h.own.lt k hk).1)⟩
theorem OwnB.after {w0 w w1:World} {A:Value} {l:List UInt8} (h:OwnB w0 A l w) (hb:Below w.heap.size w w1):OwnB w0 A l w1:=by
 refine ⟨⟨h.own.1,?_⟩,zab h.bel hb h.lo⟩
 rcases h.own.2 with h0 | ⟨g,cap,cur,e,h1,h2,h3⟩
 ·exact .inl h0
 ·exact .inr ⟨g,cap,cur,e,h1,(hb.block g (zaa h2)).trans h2,h3⟩
theorem OwnB.bts {w0 w:World} {A:Value} {l:List UInt8} (h:OwnB w0 A l w):Bts w A l:=by
 rcases h.own.2 with ⟨e,h0⟩ | ⟨g,cap,cur,e,_⟩
 ·have:=List.length_eq_zero_iff.1 h0
  subst this
  exact ⟨none,0,e,.inl rfl⟩
 ·refine ⟨_,cap,e,.inr ⟨g,0,rfl,fun j c hj=>?_⟩⟩
  have hj':=(List.getElem?_eq_some_iff.1 hj).1
  have hown:=h.own
  rw [e] at hown
  rw [Nat.zero_add,hown.cellAt j (by omega)]
  unfold vals
  rw [List.getElem?_map,hj]
  rfl
theorem OwnB.ne {w0 w:World} {A:Value} {l:List UInt8} (h:OwnB w0 A l w):some w.heap.size≠A.ownBlock:=fun e=>by have:=(h.own.lt _ e.symm).2;omega
theorem Six.grown {W w1:World} {g:Nat} {k:Int} {b:Bool} {n:Int} {t x:ByteArray} {p:Option Addr} {len cap:Nat} {r:Option Nat} (S:Six W g k b n t x p len cap) (hg:W.grownBy w1 r) (hne:some g≠r):Six w1 g k b n t x p len cap:=
 (hg.block g S.lt hne).trans S
def Bx (w w':World):Prop:=∀ (g:Nat) (c:Array Value),w.heap[g]?=some (Obj.cells c 48)→w'.heap[g]?=some (Obj.cells c 48)
theorem Bx.refl (w:World):Bx w w:=fun _ _ h=>h
theorem Bx.trans {w w1 w2:World} (h:Bx w w1) (k:Bx w1 w2):Bx w w2:=fun g c e=>k g c (h g c e)
theorem Bx.below {w w':World} (h:Below w.heap.size w w'):Bx w w':=fun g _ e=>(h.block g (zaa e)).trans e
theorem OwnB.bx {w0 w w1:World} {A:Value} {l:List UInt8} (h:OwnB w0 A l w) (hg:w.grownBy w1 A.ownBlock):Bx w w1:=fun g c e=>by
 refine (hg.block g (zaa e) (fun e2=>?_)).trans e
 rcases h.own.2 with ⟨e3,_⟩ | ⟨g2,cap,cur,e3,_,h2,_⟩
 ·rw [e3] at e2;cases e2
 ·rw [e3] at e2
  obtain rfl:g=g2:=Option.some.inj e2
  rw [e] at h2
  injection h2 with h3
  injection h3 with _ h4
  exact absurd h4 (by decide)
theorem Six.bx {w w':World} {g:Nat} {k:Int} {b:Bool} {n:Int} {t x:ByteArray} {p:Option Addr} {len cap:Nat} (S:Six w g k b n t x p len cap) (h:Bx w w'):Six w' g k b n t x p len cap:=h _ _ S
theorem OwnB.drew {w0 w:World} {A:Value} {l:List UInt8} (h:OwnB w0 A l w):OwnB w0 A l w.drew:=⟨h.own,h.bel.drew⟩
theorem zcp (c:UInt8) {x:Int} (h:(c.toNat:Int)=x):vals [c]=[.int .u8 x]:=by subst h;rfl
theorem zqf (n:Int):(k:Nat)→k≤8→beB (n % 18446744073709551616) k=beB n k
 | 0,_=>rfl
 | i+1,h=>by
   unfold beB
   rw [zqf n i (by omega)]
   congr 1
   unfold zb7
   congr 2
   have:i=0∨i=1∨i=2∨i=3∨i=4∨i=5∨i=6∨i=7:=by omega
   rcases this with rfl | rfl | rfl | rfl | rfl | rfl | rfl | rfl <;> omega
end Go.Proofs.YteclpnfckjfibaaGreatDoor
