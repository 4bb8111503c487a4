/- Texts of one kind, one behind the other: each says ahead of itself what it shows. -/
import Derived.Laws.ResultCell
import Derived.Test.YteclpnfckjfibaaGreatDoorCah
import Derived.Test.YteclpnfckjfibaaGreatDoorCaf
import Derived.Test.YteclpnfckjfibaaGreatDoorCam
/- OV -/
namespace Go.Proofs.YteclpnfckjfibaaGreatDoor
open Go.RowKit
theorem zdp {fn:Func} {p u:Tmp} (h:fn.results=#[.cell p 25,.tmp u]) (tmps:Array Value) (w:World) (g:Nat) (V R:Value)
 (hp:tmps.getD p undef=.pointer (some ⟨g,0,none⟩)) (hg:w.heap[g]?=some (.cells #[V,R] 25)):(results fn tmps).run Tryz.prog w=.ok (.tuple #[.agg #[V,R],tmps.getD u undef]) w:=by
 rw [results_cell_tmp h,hp]
 simp [asAddr,Result.andThen,run_loadVar_row (P:=Tryz.prog) w g 25 25 #[V,R] (0,0) _ hg Tryz.underlying25 rfl zah]
def zb4 (ta tb:List ByteArray):List ByteArray:=ta++tb.filter fun x=>!memB x ta
theorem zrz (ta tb:List ByteArray):(zb4 ta tb).length≤ta.length+tb.length:=by
 unfold zb4
 rw [List.length_append]
 have:=List.length_filter_le (fun x=>!memB x ta) tb
 omega
theorem zn7 {vs:List ByteArray} (h:zi4 vs=true):vs.length≤64:=by
 unfold zi4 at h
 simp only [Bool.and_eq_true,decide_eq_true_eq] at h
 exact h.1.1
theorem zh6 {t:TabL} (h:tabP t=true):zi4 t.vars=true:=by
 unfold tabP at h
 simp only [Bool.and_eq_true] at h
 exact h.1
theorem zb5 {t:TabL} (h:tabP t=true):(∀ r∈t.rows,r.length=t.vars.length)∧∀ r∈t.rows,∀ v∈r,mayP v 0=true:=by
 unfold tabP at h
 simp only [Bool.and_eq_true,List.all_eq_true] at h
 constructor
 ·intro r hr
  have:=h.2 r hr
  unfold rowP at this
  simp only [Bool.and_eq_true,decide_eq_true_eq] at this
  exact this.1
 ·intro r hr v hv
  have:=h.2 r hr
  unfold rowP at this
  simp only [Bool.and_eq_true,List.all_eq_true] at this
  exact this.2 v hv
set_option maxHeartbeats 1600000 in
theorem over1At (x:ByteArray) (ta:List ByteArray) (VA RA:Value) (g:Nat) (W:World) (hg:W.heap[g]?=some (.cells #[VA,RA] 25)) (h:zag za1 W (Old W) VA ta) (hn:ta.length≤2097152):
 Calls Tryz.prog 119 #[.string x,.pointer (some ⟨g,0,none⟩)] W fun e w'=>e=.returned (.bool (!memB x ta))∧Below W.heap.size W w':=by
 have HC:=Lib.hid (zpa VA ta x (Old W) W h hn)
 obtain ⟨p,k,rfl⟩:=h.slice
 have c0:=zad hg 0 rfl
 generalize memB x ta=q at*
 clear h hg
 cases q with
 | true=>
   go_enter Tryz.func119,Tryz.ntmps119
   go_wp2_with (first |(go_at_call 120;(with_reducible refine HC.out.mono ?_);rintro e w1 ⟨rfl,rfl⟩))
   go_ret
   exact ⟨by first | rfl | simp,Below.refl _ _⟩
 | false=>
   go_enter Tryz.func119,Tryz.ntmps119
   go_wp2_with (first |(go_at_call 120;(with_reducible refine HC.out.mono ?_);rintro e w1 ⟨rfl,rfl⟩))
   go_ret
   exact ⟨by first | rfl | simp,Below.refl _ _⟩
def zmx (a b:TabL) (w:World) (e:Ending) (w':World):Prop:=
 if (tabP a && tabP b)=true then ∃ V,e=.returned (.tuple #[.agg #[V,.slice none 0 0],.bool (decide ((zb4 a.vars b.vars).length≤64))])∧zag za1 w' (New w w') V (zb4 a.vars b.vars)∧capK V∧V.oneCell'=true∧Below w.heap.size w w'
 else e=.returned (.tuple #[.agg #[.slice none 0 0,.slice none 0 0],.bool false])∧Below w.heap.size w w'
set_option maxHeartbeats 6400000 in
set_option maxRecDepth 20000 in
theorem overAt (a b:TabL) (VA RA VB RB:Value) (W:World) (hG:Gd W) (ha:tabE.rel W (Old W) [VA,RA] a) (hb:tabE.rel W (Old W) [VB,RB] b):Calls Tryz.prog 73 #[.agg #[VA,RA],.agg #[VB,RB]] W (zmx a b W):=by
 have ha0:=ha
 have hb0:=hb
 obtain ⟨V',R',e,hva,hra,hcva,hcra,hlva,hlra⟩:=ha
 cases e
 obtain ⟨V',R',e,hvb,hrb,hcvb,hcrb,hlvb,hlrb⟩:=hb
 cases e
 obtain ⟨pA,kA,rfl⟩:=hva.slice
 obtain ⟨qA,lA,rfl⟩:=hra.slice
 obtain ⟨pB,kB,rfl⟩:=hvb.slice
 obtain ⟨qB,lB,rfl⟩:=hrb.slice
 obtain ⟨W1,hW1⟩:∃ W1,W1=((W.alloc (.cells #[.slice pA a.vars.length kA,.slice qA a.rows.length lA] 25)).alloc (.cells #[.slice pB b.vars.length kB,.slice qB b.rows.length lB] 25)).alloc (.cells #[.slice none 0 0,.slice none 0 0] 25):=⟨_,rfl⟩
 have b1:Below W.heap.size W W1:=by rw [hW1];exact (zdb _ _ _).alloc (by simp;omega) _
 have s1:W1.heap.size=W.heap.size+3:=by rw [hW1];simp
 have u2:W1.heap[W.heap.size]?=some (.cells #[.slice pA a.vars.length kA,.slice qA a.rows.length lA] 25):=by rw [hW1];exact zap _ (zap _ (zaf _ _ rfl))
 have u3:W1.heap[W.heap.size+1]?=some (.cells #[.slice pB b.vars.length kB,.slice qB b.rows.length lB] 25):=by rw [hW1];exact zap _ (zaf _ _ (by simp))
 have u4:W1.heap[W.heap.size+1+1]?=some (.cells #[.slice none 0 0,.slice none 0 0] 25):=by rw [hW1];exact zaf _ _ (by simp)
 have h1:=zc0 a _ _ W1 (hG.below b1) (tabE.stays (zae b1) ha0)
 have h2:∀ W',Below W1.heap.size W1 W'→Calls Tryz.prog 14 #[.agg #[.slice pB b.vars.length kB,.slice qB b.rows.length lB]] W' fun e w'=>e=.returned (.bool (tabP b))∧Below W'.heap.size W' w':=fun W' h=>by
  have h':=zab b1 h b1.size
  exact zc0 b _ _ W' (hG.below h') (tabE.stays (zae h') hb0)
 have HVA:Hid (∀ W',Below W1.heap.size W1 W'→zag za1 W' (Old W') (.slice pA a.vars.length kA) a.vars):=Lib.hid fun W' h=>hva.stays (zae (zab b1 h b1.size))
 have HVB:Hid (∀ W',Below W1.heap.size W1 W'→zag za1 W' (Old W') (.slice pB b.vars.length kB) b.vars):=Lib.hid fun W' h=>hvb.stays (zae (zab b1 h b1.size))
 unfold zmx
 have HPA:Hid (tabP a=true→zi4 a.vars=true):=Lib.hid zh6
 have HPB:Hid (tabP b=true→zi4 b.vars=true):=Lib.hid zh6
 generalize hpa:tabP a=pa at*
 generalize hpb:tabP b=pb at*
 have H1:=Lib.hid h1
 have H2:=Lib.hid h2
 have HW:=Lib.hid hW1
 have HB1:=Lib.hid b1
 have HU:=Lib.hid (And.intro u2 (And.intro u3 u4))
 have HK:=Lib.hid (And.intro hcva hcvb)
 clear h1 h2 ha0 hb0 hva hra hcra hvb hrb hcrb hG hW1 b1 hcva hcvb u3 hpa hpb
 cases pa with
 | false=>
   simp only [Bool.false_and,Bool.false_eq_true,if_false]
   go_enter Tryz.func73,Tryz.ntmps73
   go_upto_region 1 with fail
   rw [← HW.out]
   go_upto_region 2 with (first
    |((with_reducible refine zai (.tmp 2) W.heap.size 25 25 [.slice pA a.vars.length kA,.slice qA a.rows.length lA] 2 _ u2 rfl Tryz.underlying25 rfl zah ?_ ?_ ?_ ?_);rfl;rfl;rfl)
    |(go_at_call 14;(with_reducible refine H1.out.mono ?_);rintro e w2 ⟨rfl,hb2⟩))
   have u42:=(hb2.block _ (zaa u4)).trans u4
   have B2:=Lib.hid (zab HB1.out hb2 HB1.out.size)
   clear hb2 u2 u4
   go_wp2_with (first
    |((with_reducible refine za0 (.tmp 4) (.tmp 16) (W.heap.size+1+1) 25 25 _ [.slice none 0 0,.slice none 0 0] 2 u42 rfl ?_ ?_ ?_ ?_ zah rfl (zc4 rfl rfl) ?_);rfl;rfl;rfl;rfl;intro wX oX vX))
   refine bodyPost_ret (zdp (p:=4) (u:=5) Tryz.results73 _ _ (W.heap.size+1+1) _ _ rfl vX) rfl ⟨rfl,zam B2.out oX (by omega) B2.out.size⟩
 | true=>
   cases pb with
   | false=>
     simp only [Bool.and_false,Bool.false_eq_true,if_false]
     go_enter Tryz.func73,Tryz.ntmps73
     go_upto_region 1 with fail
     rw [← HW.out]
     go_upto_region 2 with (first
      |((with_reducible refine zai (.tmp 2) W.heap.size 25 25 [.slice pA a.vars.length kA,.slice qA a.rows.length lA] 2 _ u2 rfl Tryz.underlying25 rfl zah ?_ ?_ ?_ ?_);rfl;rfl;rfl)
      |((with_reducible refine zan ?_ (.tmp 3) (W.heap.size+1) 25 25 [.slice pB b.vars.length kB,.slice qB b.rows.length lB] 2 _ u32 rfl Tryz.underlying25 rfl zah ?_ ?_ ?_);rfl;rfl;rfl)
      |(go_at_call 14;(with_reducible refine H1.out.mono ?_);rintro e w2 ⟨rfl,hb2⟩;have u32:=(hb2.block _ (zaa HU.out.2.1)).trans HU.out.2.1)
      |(go_at_call 14;(with_reducible refine (H2.out _ hb2).mono ?_);rintro e w3 ⟨rfl,hb3⟩))
     have b3:=zab hb2 hb3 hb2.size
     have u42:=(b3.block _ (zaa u4)).trans u4
     have B2:=Lib.hid (zab HB1.out b3 HB1.out.size)
     clear hb2 hb3 b3 u2 u4 u32
     go_wp2_with (first
      |((with_reducible refine za0 (.tmp 4) (.tmp 16) (W.heap.size+1+1) 25 25 _ [.slice none 0 0,.slice none 0 0] 2 u42 rfl ?_ ?_ ?_ ?_ zah rfl (zc4 rfl rfl) ?_);rfl;rfl;rfl;rfl;intro wX oX vX))
     refine bodyPost_ret (zdp (p:=4) (u:=5) Tryz.results73 _ _ (W.heap.size+1+1) _ _ rfl vX) rfl ⟨rfl,zam B2.out oX (by omega) B2.out.size⟩
   | true=>
     simp only [Bool.and_true,if_true]
     go_enter Tryz.func73,Tryz.ntmps73
     go_upto_region 1 with fail
     rw [← HW.out]
     go_upto_region 3 with (first
      |((with_reducible refine zai (.tmp 2) W.heap.size 25 25 [.slice pA a.vars.length kA,.slice qA a.rows.length lA] 2 _ u2 rfl Tryz.underlying25 rfl zah ?_ ?_ ?_ ?_);rfl;rfl;rfl)
      |((with_reducible refine zan ?_ (.tmp 3) (W.heap.size+1) 25 25 [.slice pB b.vars.length kB,.slice qB b.rows.length lB] 2 _ u32 rfl Tryz.underlying25 rfl zah ?_ ?_ ?_);rfl;rfl;rfl)
      |(go_at_call 14;(with_reducible refine H1.out.mono ?_);rintro e w2 ⟨rfl,hb2⟩;have u32:=(hb2.block _ (zaa HU.out.2.1)).trans HU.out.2.1)
      |(go_at_call 14;(with_reducible refine (H2.out _ hb2).mono ?_);rintro e w3 ⟨rfl,hb3⟩))
     have b3:=zab hb2 hb3 hb2.size
     have u33:=(b3.block _ (zaa HU.out.2.1)).trans HU.out.2.1
     have u23:=(b3.block _ (zaa HU.out.1)).trans HU.out.1
     have c3:=zad u33 0 rfl
     have HF:=Lib.hid (z1l (.pointer (some ⟨W.heap.size,0,none⟩)) (fun x=>!memB x a.vars) b.vars _ w3 (HVB.out _ b3) hlvb (fun x _ W' c hb hr=>over1At x a.vars _ _ W.heap.size W' ((hb.block _ (zaa u23)).trans u23) (HVA.out _ (zab b3 hb b3.size)) hlva))
     have B3:=Lib.hid b3
     clear hb2 hb3 b3 u2 u4 u32 u33 u23
     go_upto_region 4 with (first
      |(go_at_call 118;(with_reducible refine HF.out.mono ?_);rintro e w4 ⟨V4,xs4,rfl,hown4,hrow4,hb4⟩))
     have b4:=zab B3.out hb4 B3.out.size
     have u24:=(b4.block _ (zaa HU.out.1)).trans HU.out.1
     have c2:=zad u24 0 rfl
     have hfl:(b.vars.filter fun x=>!memB x a.vars).length≤2097152:=Nat.le_trans (List.length_filter_le _ _) hlvb
     have hk4:=zda hown4
     have hs4:zag za1 w4 (Old w4) V4 (b.vars.filter fun x=>!memB x a.vars):=zbz hown4 hrow4 (fun g hg=>Nat.lt_of_lt_of_le hg hb4.size) (fun g e=>(hown4.lt g e).2)
     obtain ⟨p4,k4,rfl⟩:=hs4.slice
     have bz:Below w4.heap.size w4 (w4.alloc (.cells #[.slice pA a.vars.length kA,.slice p4 (b.vars.filter fun x=>!memB x a.vars).length k4] 132)):=za5 _ _
     have HC:=Lib.hid (zyi a.vars (b.vars.filter fun x=>!memB x a.vars) _ _ w4.heap.size _ (zaf _ _ rfl) ((HVA.out _ b4).stays (zae bz)) (hs4.stays (zae bz)) HK.out.1 hk4 hlva hfl)
     have B4:=Lib.hid b4
     have hov:a.vars++(b.vars.filter fun x=>!memB x a.vars)=zb4 a.vars b.vars:=rfl
     rw [hov] at HC
     clear hown4 hrow4 hb4 b4 hs4 hk4 u24 bz HF hfl c3 hov
     generalize (b.vars.filter fun x=>!memB x a.vars).length=nf at*
     go_upto_region 5 with (first
      |(go_at_call 121;(with_reducible refine HC.out.mono ?_);rintro e w5 ⟨V5,xs5,rfl,hown5,hrow5,hb5⟩))
     have b5:=zab B4.out ((za5 w4 (.cells #[.slice pA a.vars.length kA,.slice p4 nf k4] 132)).trans (hb5.mono (by simp))) B4.out.size
     have hs5:zag za1 w5 (Old w5) V5 (zb4 a.vars b.vars):=zbz hown5 hrow5 (fun g hg=>Nat.lt_of_lt_of_le hg hb5.size) (fun g e=>(hown5.lt g e).2)
     have hl64a:=zn7 (HPA.out (by simp))
     have hl64b:=zn7 (HPB.out (by simp))
     have hov:=zrz a.vars b.vars
     obtain ⟨p5,k5,rfl⟩:=hs5.slice
     have HO:=Lib.hid (zrf (zb4 a.vars b.vars) _ w5 hs5 (by omega))
     have B5:=Lib.hid b5
     have u45:=(b5.block _ (zaa HU.out.2.2)).trans HU.out.2.2
     have hz5:=b5.size
     clear hown5 hrow5 hb5 b5 hs5 HC c2
     obtain ⟨no,hno⟩:∃ no,no=(zb4 a.vars b.vars).length:=⟨_,rfl⟩
     have HNO:=Lib.hid hno
     rw [← hno] at hov
     have hov2:no≤128:=by omega
     clear hno
     go_wp2_with (first
      |(go_at_call 71;(with_reducible refine HO.out.mono ?_);rintro e w6 ⟨V6,xs6,rfl,hown6,hrow6,hb6⟩;have u46:=(hb6.block _ (zaa u45)).trans u45;refine Hid.out ?_))
     refine Lib.hid ?_
     have hs6:=zbo.slice hown6 hrow6
     have hk6:=zda hown6
     obtain ⟨p6,k6,rfl⟩:=zau hown6
     have H6:=Lib.hid (And.intro hs6 hk6)
     have B6:=Lib.hid (zab B5.out hb6 B5.out.size)
     have hz6:=hb6.size
     have B56:=Lib.hid hb6
     have hu4:=zaa u45
     rw [← HNO.out]
     clear hown6 hrow6 hs6 hk6 hb6 u45 HO
     have KEY:∀ wX,Only (W.heap.size+1+1) w6 wX→zag za1 wX (New W wX) (.slice p6 no k6) (zb4 a.vars b.vars)∧capK (.slice p6 no k6)∧(Value.slice p6 no k6).oneCell'=true∧Below W.heap.size W wX:=fun wX oX=>by
      have hsb:=B5.out.size
      refine ⟨?_,?_,rfl,zam (HB1.out.trans (B6.out.mono HB1.out.size)) oX (by omega) (HB1.out.trans (B6.out.mono HB1.out.size)).size⟩
      ·rw [HNO.out]
       exact H6.out.1.stays fun g hg=>⟨⟨by have:=hg.1;omega,by have:=hg.2;have:=oX.size;omega⟩,oX.block g hg.2 (by have:=hg.1;omega)⟩
      ·rw [HNO.out]
       exact H6.out.2
     have HKEY:=Lib.hid KEY
     clear KEY
     by_cases hle:no≤64
     ·have hle2:(no:Int)≤64:=by omega
      go_wp2_with (first
       |((with_reducible refine za0 (.tmp 4) (.tmp 28) (W.heap.size+1+1) 25 25 _ [.slice p6 no k6,.slice none 0 0] 2 u46 rfl ?_ ?_ ?_ ?_ zah rfl (zc4 rfl rfl) ?_);rfl;rfl;rfl;rfl;intro wX oX vX))
      exact bodyPost_ret (zdp (p:=4) (u:=5) Tryz.results73 _ _ (W.heap.size+1+1) _ _ rfl vX) rfl ⟨_,by rw [decide_eq_true (by have:=HNO.out;omega)];rfl,HKEY.out wX oX⟩
     ·have hle2:¬ ((no:Int)≤64):=by omega
      go_wp2_with (first
       |((with_reducible refine za0 (.tmp 4) (.tmp 28) (W.heap.size+1+1) 25 25 _ [.slice p6 no k6,.slice none 0 0] 2 u46 rfl ?_ ?_ ?_ ?_ zah rfl (zc4 rfl rfl) ?_);rfl;rfl;rfl;rfl;intro wX oX vX))
      exact bodyPost_ret (zdp (p:=4) (u:=5) Tryz.results73 _ _ (W.heap.size+1+1) _ _ rfl vX) rfl ⟨_,by rw [decide_eq_false (by have:=HNO.out;omega)];rfl,HKEY.out wX oX⟩
end Go.Proofs.YteclpnfckjfibaaGreatDoor

/- MN -/
namespace Go.Proofs.YteclpnfckjfibaaGreatDoor
open Go.RowKit
theorem zn8 {vs us:List ByteArray}:∀ p∈zay vs us,p.1 < vs.length∧p.2 < us.length:=fun p hp=>by
 unfold zay at hp
 obtain ⟨q,hq,h⟩:=List.mem_filterMap.1 hp
 have h1:=(List.mem_zipIdx' hq).1
 cases hk:zbn q.1 us with
 | none=>rw [hk] at h;cases h
 | some k=>
   rw [hk] at h
   cases h
   exact ⟨h1,ze7 hk⟩
theorem zqr (w:World) (P:Nat→Prop):tabE.rel w P [.slice none 0 0,.slice none 0 0] ⟨[],[]⟩:=⟨_,_,rfl,zag.nil _ _,zag.nil _ _,zmt,zmt,by simp,by simp⟩
theorem zmy {w:World} {base m n:Nat} {sh:List (Nat × Nat)} {A B:Value} (P:Nat→Prop) (hA:w.ownsRow base 3 1 A sh.length (sh.map fun p=>Value.int .i64 (p.1:Nat))) (hB:w.ownsRow base 3 1 B sh.length (sh.map fun p=>Value.int .i64 (p.2:Nat))) (hm:m≤2097152) (hn:n≤2097152) (hlt:∀ p∈sh,p.1 < m∧p.2 < n) (hP:∀ g,base≤g→g < w.heap.size→P g):ShIn w P sh A B:=by
 constructor
 ·refine zc1 (base:=base) P ?_ (fun z hz=>?_) (fun g e=>hP g (hA.lt g e).1 (hA.lt g e).2)
  ·rw [List.length_map,List.map_map]
   exact hA
  ·obtain ⟨p,hp,rfl⟩:=List.mem_map.1 hz
   exact zur (hlt p hp).1 hm
 ·refine zc1 (base:=base) P ?_ (fun z hz=>?_) (fun g e=>hP g (hB.lt g e).1 (hB.lt g e).2)
  ·rw [List.length_map,List.map_map]
   exact hB
  ·obtain ⟨p,hp,rfl⟩:=List.mem_map.1 hz
   exact zur (hlt p hp).2 hn
theorem agg_two {v:Value} {V R:Value} (h:v.cells=#[V,R]):v=.agg #[V,R]:=by
 cases v <;> simp only [Value.cells] at h
 case agg cs=>rw [h]
 all_goals (exfalso;have:=congrArg Array.size h;simp at this)
set_option maxHeartbeats 1600000 in
theorem z2d (sh:List (Nat × Nat)) (rows:List (List Val)) (A B R L u:Value) (mb gi:Nat) (r:List Val) (w:World) (hgi:w.heap[gi]?=some (.cells #[A,B,R,.map (some mb),L] 90)) (hG:Gd w) (hx:IxIn sh rows A B R mb L (Old w) w) (hu:zag valE w (Old w) u r)
 (hin:∀ x∈rows,∀ p∈sh,p.1 < r.length∧p.2 < x.length) (hin1:∀ p∈sh,p.1 < r.length) (hmr:∀ v∈r,mayP v 0=true) (hmx:∀ x∈rows,∀ v∈x,mayP v 0=true) (hwt:13*wAll (zbw sh r)≤700000000)
 (hsn:sh.length≤2097152) (hrn:r.length≤2097152) (hn:rows.length≤2097152):
 Calls Tryz.prog 80 #[u,.pointer (some ⟨gi,0,none⟩)] w fun e w'=>e=.returned (.bool (!zfq sh r rows))∧Below w.heap.size w w':=by
 have HT:=Lib.hid (zzp sh rows A B R L u mb r w (Old w) (fun _ h=>h) hG hx hu hin hin1 hmr hmx hwt hsn hrn hn)
 obtain ⟨pA,kA,pB,kB,rfl,rfl⟩:=hx.shd.slice
 obtain ⟨pR,kR,rfl⟩:=hx.rws.slice
 obtain ⟨pL,kL,rfl⟩:=hx.loose.1.slice
 obtain ⟨pu,ku,rfl⟩:=hu.slice
 generalize zfq sh r rows=q at*
 clear hx hu hin hin1 hmr hmx hwt hG
 cases q with
 | true=>
   go_enter Tryz.func80,Tryz.ntmps80
   go_wp2_with (first
    |((with_reducible refine zai (.tmp 1) gi 90 90 [.slice pA sh.length kA,.slice pB sh.length kB,.slice pR rows.length kR,.map (some mb),.slice pL (zbj sh rows).length kL] 5 _ hgi rfl Tryz.underlying90 rfl zh2 ?_ ?_ ?_ ?_);rfl;rfl;rfl)
    |(go_at_call 81;(with_reducible refine HT.out.mono ?_);rintro e w1 ⟨rfl,hb⟩))
   go_ret
   exact ⟨by first | rfl | simp,hb⟩
 | false=>
   go_enter Tryz.func80,Tryz.ntmps80
   go_wp2_with (first
    |((with_reducible refine zai (.tmp 1) gi 90 90 [.slice pA sh.length kA,.slice pB sh.length kB,.slice pR rows.length kR,.map (some mb),.slice pL (zbj sh rows).length kL] 5 _ hgi rfl Tryz.underlying90 rfl zh2 ?_ ?_ ?_ ?_);rfl;rfl;rfl)
    |(go_at_call 81;(with_reducible refine HT.out.mono ?_);rintro e w1 ⟨rfl,hb⟩))
   go_ret
   exact ⟨by first | rfl | simp,hb⟩
def zr0 (a b:TabL):TabL:=if (tabP a && tabP b)=true then ⟨a.vars,a.rows.filter fun r=>!zfq (zay a.vars b.vars) r b.rows⟩ else ⟨[],[]⟩
structure WtOk (a b:TabL):Prop where
 ra:∀ r∈a.rows,13*wAll (zbw (zay a.vars b.vars) r)≤700000000
 rb:∀ r∈b.rows,13*wAll (zbi (zay a.vars b.vars) r)≤700000000
set_option maxHeartbeats 12800000 in
set_option maxRecDepth 20000 in
theorem minusAt (a b:TabL) (VA RA VB RB:Value) (W:World) (hG:Gd W) (ha:tabE.rel W (Old W) [VA,RA] a) (hb:tabE.rel W (Old W) [VB,RB] b) (hwt:WtOk a b):Calls Tryz.prog 27 #[.agg #[VA,RA],.agg #[VB,RB]] W (zcd tabE (zr0 a b) W):=by
 have ha0:=ha
 have hb0:=hb
 obtain ⟨V',R',e,hva,hra,hcva,hcra,hlva,hlra⟩:=ha
 cases e
 obtain ⟨V',R',e,hvb,hrb,hcvb,hcrb,hlvb,hlrb⟩:=hb
 cases e
 obtain ⟨pA,kA,rfl⟩:=hva.slice
 obtain ⟨qA,lA,rfl⟩:=hra.slice
 obtain ⟨pB,kB,rfl⟩:=hvb.slice
 obtain ⟨qB,lB,rfl⟩:=hrb.slice
 obtain ⟨W1,hW1⟩:∃ W1,W1=((W.alloc (.cells #[.slice pA a.vars.length kA,.slice qA a.rows.length lA] 25)).alloc (.cells #[.slice pB b.vars.length kB,.slice qB b.rows.length lB] 25)).alloc (.cells #[.slice none 0 0,.slice none 0 0] 25):=⟨_,rfl⟩
 have b1:Below W.heap.size W W1:=by rw [hW1];exact (zdb _ _ _).alloc (by simp;omega) _
 have s1:W1.heap.size=W.heap.size+3:=by rw [hW1];simp
 have u2:W1.heap[W.heap.size]?=some (.cells #[.slice pA a.vars.length kA,.slice qA a.rows.length lA] 25):=by rw [hW1];exact zap _ (zap _ (zaf _ _ rfl))
 have u3:W1.heap[W.heap.size+1]?=some (.cells #[.slice pB b.vars.length kB,.slice qB b.rows.length lB] 25):=by rw [hW1];exact zap _ (zaf _ _ (by simp))
 have u4:W1.heap[W.heap.size+1+1]?=some (.cells #[.slice none 0 0,.slice none 0 0] 25):=by rw [hW1];exact zaf _ _ (by simp)
 have h1:=zc0 a _ _ W1 (hG.below b1) (tabE.stays (zae b1) ha0)
 have h2:∀ W',Below W1.heap.size W1 W'→Calls Tryz.prog 14 #[.agg #[.slice pB b.vars.length kB,.slice qB b.rows.length lB]] W' fun e w'=>e=.returned (.bool (tabP b))∧Below W'.heap.size W' w':=fun W' h=>by
  have h':=zab b1 h b1.size
  exact zc0 b _ _ W' (hG.below h') (tabE.stays (zae h') hb0)
 have HVA:Hid (∀ W',Below W1.heap.size W1 W'→zag za1 W' (Old W') (.slice pA a.vars.length kA) a.vars):=Lib.hid fun W' h=>hva.stays (zae (zab b1 h b1.size))
 have HVB:Hid (∀ W',Below W1.heap.size W1 W'→zag za1 W' (Old W') (.slice pB b.vars.length kB) b.vars):=Lib.hid fun W' h=>hvb.stays (zae (zab b1 h b1.size))
 have HRA:Hid (∀ W',Below W1.heap.size W1 W'→zag rowE W' (Old W') (.slice qA a.rows.length lA) a.rows):=Lib.hid fun W' h=>hra.stays (zae (zab b1 h b1.size))
 have HRB:Hid (∀ W',Below W1.heap.size W1 W'→zag rowE W' (Old W') (.slice qB b.rows.length lB) b.rows):=Lib.hid fun W' h=>hrb.stays (zae (zab b1 h b1.size))
 have HGD:Hid (Gd W1):=Lib.hid (hG.below b1)
 have HTA:Hid (tabP a=true→(∀ r∈a.rows,r.length=a.vars.length)∧∀ r∈a.rows,∀ v∈r,mayP v 0=true):=Lib.hid zb5
 have HTB:Hid (tabP b=true→(∀ r∈b.rows,r.length=b.vars.length)∧∀ r∈b.rows,∀ v∈r,mayP v 0=true):=Lib.hid zb5
 unfold zr0
 have HPA:Hid (tabP a=true→zi4 a.vars=true):=Lib.hid zh6
 have HPB:Hid (tabP b=true→zi4 b.vars=true):=Lib.hid zh6
 generalize hpa:tabP a=pa at*
 generalize hpb:tabP b=pb at*
 have H1:=Lib.hid h1
 have H2:=Lib.hid h2
 have HW:=Lib.hid hW1
 have HB1:=Lib.hid b1
 have HU:=Lib.hid (And.intro u2 (And.intro u3 u4))
 have HK:=Lib.hid (And.intro hcva hcvb)
 clear h1 h2 ha0 hb0 hva hra hcra hvb hrb hcrb hG hW1 b1 hcva hcvb u3 hpa hpb
 cases pa with
 | false=>
   simp only [Bool.false_and,Bool.false_eq_true,if_false]
   go_enter Tryz.func27,Tryz.ntmps27
   go_upto_region 1 with fail
   rw [← HW.out]
   go_upto_region 2 with (first
    |((with_reducible refine zai (.tmp 2) W.heap.size 25 25 [.slice pA a.vars.length kA,.slice qA a.rows.length lA] 2 _ u2 rfl Tryz.underlying25 rfl zah ?_ ?_ ?_ ?_);rfl;rfl;rfl)
    |(go_at_call 14;(with_reducible refine H1.out.mono ?_);rintro e w2 ⟨rfl,hb2⟩))
   have u42:=(hb2.block _ (zaa u4)).trans u4
   have B2:=Lib.hid (zab HB1.out hb2 HB1.out.size)
   clear hb2 u2 u4
   go_wp2_with (first
    |((with_reducible refine za0 (.tmp 4) (.tmp 16) (W.heap.size+1+1) 25 25 _ [.slice none 0 0,.slice none 0 0] 2 u42 rfl ?_ ?_ ?_ ?_ zah rfl (zc4 rfl rfl) ?_);rfl;rfl;rfl;rfl;intro wX oX vX))
   refine bodyPost_ret (results_cell_row (p:=4) (ty:=25) Tryz.results27 _ _ (W.heap.size+1+1) 25 _ (0,0) _ rfl vX Tryz.underlying25 rfl zah) rfl ⟨_,[_,_],rfl,rfl,zqr _ _,zam B2.out oX (by omega) B2.out.size⟩
 | true=>
   cases pb with
   | false=>
     simp only [Bool.and_false,Bool.false_eq_true,if_false]
     go_enter Tryz.func27,Tryz.ntmps27
     go_upto_region 1 with fail
     rw [← HW.out]
     go_upto_region 2 with (first
      |((with_reducible refine zai (.tmp 2) W.heap.size 25 25 [.slice pA a.vars.length kA,.slice qA a.rows.length lA] 2 _ u2 rfl Tryz.underlying25 rfl zah ?_ ?_ ?_ ?_);rfl;rfl;rfl)
      |((with_reducible refine zan ?_ (.tmp 3) (W.heap.size+1) 25 25 [.slice pB b.vars.length kB,.slice qB b.rows.length lB] 2 _ u32 rfl Tryz.underlying25 rfl zah ?_ ?_ ?_);rfl;rfl;rfl)
      |(go_at_call 14;(with_reducible refine H1.out.mono ?_);rintro e w2 ⟨rfl,hb2⟩;have u32:=(hb2.block _ (zaa HU.out.2.1)).trans HU.out.2.1)
      |(go_at_call 14;(with_reducible refine (H2.out _ hb2).mono ?_);rintro e w3 ⟨rfl,hb3⟩))
     have b3:=zab hb2 hb3 hb2.size
     have u42:=(b3.block _ (zaa u4)).trans u4
     have B2:=Lib.hid (zab HB1.out b3 HB1.out.size)
     clear hb2 hb3 b3 u2 u4 u32
     go_wp2_with (first
      |((with_reducible refine za0 (.tmp 4) (.tmp 16) (W.heap.size+1+1) 25 25 _ [.slice none 0 0,.slice none 0 0] 2 u42 rfl ?_ ?_ ?_ ?_ zah rfl (zc4 rfl rfl) ?_);rfl;rfl;rfl;rfl;intro wX oX vX))
     refine bodyPost_ret (results_cell_row (p:=4) (ty:=25) Tryz.results27 _ _ (W.heap.size+1+1) 25 _ (0,0) _ rfl vX Tryz.underlying25 rfl zah) rfl ⟨_,[_,_],rfl,rfl,zqr _ _,zam B2.out oX (by omega) B2.out.size⟩
   | true=>
     simp only [Bool.and_true,if_true]
     go_enter Tryz.func27,Tryz.ntmps27
     go_upto_region 1 with fail
     rw [← HW.out]
     go_upto_region 3 with (first
      |((with_reducible refine zai (.tmp 2) W.heap.size 25 25 [.slice pA a.vars.length kA,.slice qA a.rows.length lA] 2 _ u2 rfl Tryz.underlying25 rfl zah ?_ ?_ ?_ ?_);rfl;rfl;rfl)
      |((with_reducible refine zan ?_ (.tmp 3) (W.heap.size+1) 25 25 [.slice pB b.vars.length kB,.slice qB b.rows.length lB] 2 _ u32 rfl Tryz.underlying25 rfl zah ?_ ?_ ?_);rfl;rfl;rfl)
      |(go_at_call 14;(with_reducible refine H1.out.mono ?_);rintro e w2 ⟨rfl,hb2⟩;have u32:=(hb2.block _ (zaa HU.out.2.1)).trans HU.out.2.1)
      |(go_at_call 14;(with_reducible refine (H2.out _ hb2).mono ?_);rintro e w3 ⟨rfl,hb3⟩))
     have b3:=zab hb2 hb3 hb2.size
     have c23:=zad ((b3.block _ (zaa HU.out.1)).trans HU.out.1) 0 rfl
     have c33:=zad ((b3.block _ (zaa HU.out.2.1)).trans HU.out.2.1) 0 rfl
     have HS:=Lib.hid (zqc a.vars b.vars _ _ w3 (HVA.out _ b3) (HVB.out _ b3) hlva hlvb)
     have hsl:=ze8 a.vars b.vars
     have HSL:=Lib.hid (fun p hp=>zn8 (vs:=a.vars) (us:=b.vars) p hp)
     have HWA:=Lib.hid hwt.ra
     have HWB:=Lib.hid hwt.rb
     have B3:=Lib.hid b3
     clear hb2 hb3 b3 u2 u4 u32 hwt
     generalize hsq:zay a.vars b.vars=sh at*
     have HSQ:=Lib.hid hsq
     clear hsq
     go_upto_region 4 with (first
      |(go_at_call 76;(with_reducible refine HS.out.mono ?_);rintro e w4 ⟨A,B,rfl,hoA,hoB,hb4⟩;obtain ⟨pS,kS,rfl⟩:=zau hoA;obtain ⟨pT,kT,rfl⟩:=zau hoB)
      |((with_reducible refine za0 (.tmp 5) (.tmp 21) w4.heap.size 87 87 _ [.slice pS sh.length kS,.slice pT sh.length kT] 2 (zaf _ _ rfl) rfl ?_ ?_ ?_ ?_ zme rfl (zc4 rfl rfl) ?_);rfl;rfl;rfl;rfl;intro wX oX vX))
     have bX:Below w4.heap.size w4 wX:=zam (za5 w4 _) oX (Nat.le_refl _) (by simp)
     have b4:=zab (zab B3.out hb4 B3.out.size) bX (zab B3.out hb4 B3.out.size).size
     have hsh:ShIn wX (Old wX) sh (.slice pS sh.length kS) (.slice pT sh.length kT):=(zmy (Old w4) hoA hoB hlva hlvb HSL.out (fun g _ h=>h)).stays (zae bX)
     have c3X:=zad ((b4.block _ (zaa HU.out.2.1)).trans HU.out.2.1) 1 rfl
     have hta:=HTA.out (by simp)
     have htb:=HTB.out (by simp)
     have HNI:=Lib.hid (zih sh b.rows _ _ _ wX (HGD.out.below b4) hsh (HRB.out _ b4) (fun r hr p hp=>by rw [htb.1 r hr];exact (HSL.out p hp).2) htb.2 HWB.out (by omega) hlrb)
     have B4:=Lib.hid b4
     have HT:=Lib.hid (And.intro hta htb)
     clear hoA hoB hb4 oX bX b4 hsh hta htb c23 c33 HS
     go_upto_region 5 with (first
      |((with_reducible refine zai (.tmp 5) w4.heap.size 87 87 [.slice pS sh.length kS,.slice pT sh.length kT] 2 _ vX rfl Tryz.underlying87 rfl zme ?_ ?_ ?_ ?_);rfl;rfl;rfl)
      |(go_at_call 75;(with_reducible refine HNI.out.mono ?_);rintro e w5 ⟨mb,L,rfl,hix,hLo,hb5⟩;obtain ⟨pL,kL,rfl⟩:=hix.loose.1.slice)
      |((with_reducible refine za0 (.tmp 6) (.tmp 25) w5.heap.size 90 90 _ [.slice pS sh.length kS,.slice pT sh.length kT,.slice qB b.rows.length lB,.map (some mb),.slice pL (zbj sh b.rows).length kL] 5 (zaf _ _ rfl) rfl ?_ ?_ ?_ ?_ zh2 rfl (zky rfl rfl rfl rfl rfl) ?_);rfl;rfl;rfl;rfl;intro wY oY vY))
     have bY:Below w5.heap.size w5 wY:=zam (za5 w5 _) oY (Nat.le_refl _) (by simp)
     have b5:=zab (zab B4.out hb5 B4.out.size) bY (zab B4.out hb5 B4.out.size).size
     have hiY:=hix.stays (zae bY)
     have hs5w:W1.heap.size≤w5.heap.size:=(zab B4.out hb5 B4.out.size).size
     have HIX:=Lib.hid (And.intro hiY vY)
     have B5:=Lib.hid b5
     have v2Y:=(b5.block _ (zaa HU.out.1)).trans HU.out.1
     have v4Y:=(b5.block _ (zaa HU.out.2.2)).trans HU.out.2.2
     clear hix hLo hb5 oY bY b5 hiY vY vX HNI c3X
     go_upto_region 6 with fail
     refine wp_region_held_drew (S:=fun W'=>W'.heap[W.heap.size]?=some (.cells #[.slice pA a.vars.length kA,.slice qA a.rows.length lA] 25)) (by kernel_rfl) v2Y (fun hh=>?_)
     have bq:Below wY.heap.size wY wY.drew:=(Below.refl _ _).drew
     have v4q:wY.drew.heap[W.heap.size+1+1]?=some (.cells #[.slice none 0 0,.slice none 0 0] 25):=v4Y
     clear v2Y v4Y
     generalize wY.drew=wD at*
     have HWH:=Lib.hid (z1m (.pointer (some ⟨w5.heap.size,0,none⟩)) (fun r=>!zfq sh r b.rows) a.rows _ wD (HRA.out _ (zab B5.out bq B5.out.size)) hlra (fun x hx W' u hb hr=>by
      obtain ⟨v,e,hsx,_,hxl⟩:=hr
      cases e
      have hb':=zab bq hb bq.size
      have hbW:=zab B5.out hb' B5.out.size
      refine z2d sh b.rows _ _ _ _ u mb w5.heap.size x W' ((hb'.block _ (zaa HIX.out.2)).trans HIX.out.2) (HGD.out.below hbW) (HIX.out.1.stays (zae hb')) hsx (fun y hy p hp=>⟨by rw [HT.out.1.1 x hx];exact (HSL.out p hp).1,by rw [HT.out.2.1 y hy];exact (HSL.out p hp).2⟩) (fun p hp=>by rw [HT.out.1.1 x hx];exact (HSL.out p hp).1) (HT.out.1.2 x hx) HT.out.2.2 (HWA.out x hx) (by omega) hxl hlrb))
     have bwD:=zab B5.out bq B5.out.size
     clear bq
     obtain ⟨ft,hft⟩:∃ ft,ft=a.rows.filter fun r=>!zfq sh r b.rows:=⟨_,rfl⟩
     rw [← hft] at HWH
     have hfn:ft.length≤2097152:=by rw [hft];exact Nat.le_trans (List.length_filter_le _ _) hlra
     have HFT:=Lib.hid hft
     clear hft
     refine tg (i:=0) (.pointer (some ⟨W.heap.size,0,none⟩)) rfl (hh) ?_
     refine tg (i:=2) (.pointer (some ⟨W.heap.size,1,none⟩)) rfl (hh) ?_
     refine tg (i:=4) (.func (.func 80) #[] #[.pointer (some ⟨w5.heap.size,0,none⟩)]) rfl (hh) ?_
     refine tk (i:=1) (v:=.slice pA a.vars.length kA) rfl (Or.inl ⟨by rfl,fun W' h=>by have c0:=zad h 0 rfl;go_simp⟩) (hh) ?_
     refine tk (i:=3) (v:=.slice qA a.rows.length lA) rfl (Or.inl ⟨by rfl,fun W' h=>by have c0:=zad h 1 rfl;go_simp⟩) (hh) ?_
     refine tr 5 rfl (fun K hK=>?_)
     try rw [if_pos (by rfl)]
     go_simp
     refine HWH.out.mono ?_
     rintro e0 w7 ⟨VF,xsF,rfl,hoF,hrF,hb7⟩
     obtain ⟨pF,kF,rfl⟩:=zau hoF
     have hsF:zag rowE w7 (Old w7) (.slice pF ft.length kF) ft:=zbz hoF hrF (fun g hg=>Nat.lt_of_lt_of_le hg hb7.size) (fun g e=>(hoF.lt g e).2)
     have b7:=zab bwD hb7 bwD.size
     have HOT:=Lib.hid (zv4 ⟨a.vars,ft⟩ _ _ w7 ⟨_,_,rfl,HVA.out _ b7,hsF,HK.out.1,zda hoF,hlva,hfn⟩)
     replace hh:=(hb7.block _ (zaa hh)).trans hh
     replace v4q:=(hb7.block _ (zaa v4q)).trans v4q
     have h7s:=b7.size
     clear hoF hrF hsF hb7 bwD
     refine hK.out _ _ (hh) (fun _=>?_)
     clear hK K
     try simp only [putS]
     refine tg (i:=6) (.agg #[.slice pA a.vars.length kA,.slice pF ft.length kF]) rfl (hh) ?_
     refine tr 7 rfl (fun K hK=>?_)
     try rw [if_pos (by rfl)]
     go_simp
     refine HOT.out.mono ?_
     rintro e0 w8 ⟨u8,c8,rfl,hc8,hr8,hb8⟩
     obtain ⟨V8,R8,rfl,hr8'⟩:=id hr8
     obtain rfl:=agg_two (hc8.trans rfl)
     have hone8:=tabE.one hr8
     replace hh:=(hb8.block _ (zaa hh)).trans hh
     replace v4q:=(hb8.block _ (zaa v4q)).trans v4q
     have H8:=Lib.hid hr8
     have b8:=zab b7 hb8 b7.size
     have h8s:=hb8.size
     clear hc8 hr8 hr8' hb8 HOT
     refine hK.out _ _ (hh) (fun _=>?_)
     clear hK K
     try simp only [putS]
     refine tr 8 rfl (fun K hK=>?_)
     try rw [if_pos (by rfl)]
     refine zc7 (.tmp 4) (.tmp 34) (W.heap.size+1+1) 25 25 _ [V8,R8] 2 v4q rfl rfl rfl rfl zah rfl hone8 ?_
     intro w9 o9 v9
     replace hh:=(o9.block _ (zaa hh) (by omega)).trans hh
     refine hK.out _ _ (hh) (fun _=>?_)
     clear hK K
     try simp only [putS]
     refine wpAnyH_done (by kernel_rfl) ?_ _
     go_wp2_with fail
     have hB1:=HB1.out
     have b9:=zam (hB1.trans (b8.mono hB1.size)) o9 (by omega) (hB1.trans (b8.mono hB1.size)).size
     have hft:=HFT.out
     refine bodyPost_ret (results_cell_row (p:=4) (ty:=25) Tryz.results27 _ _ (W.heap.size+1+1) 25 _ (0,0) _ rfl v9 Tryz.underlying25 rfl zah) rfl ⟨_,[V8,R8],rfl,rfl,?_,b9⟩
     rw [HSQ.out,← hft]
     exact tabE.stays (fun g hg=>⟨⟨by have:=hg.1;have:=hB1.size;omega,Nat.lt_of_lt_of_le hg.2 o9.size⟩,o9.block g hg.2 (by have:=hg.1;omega)⟩) H8.out
end Go.Proofs.YteclpnfckjfibaaGreatDoor

/- JA -/
namespace Go.Proofs
open Go.Shelf
namespace YteclpnfckjfibaaGreatDoor
open Go.RowKit
def IsC (w:World) (g:Nat):Prop:=∃ o,w.heap[g]?=some o∧o.isCells=true
theorem zn9 {w:World} {g:Nat} {c:Array Value} {t:TypeId} {f:Nat × Nat} (h:w.heap[g]?=some (.cells c t f)):IsC w g:=⟨_,h,rfl⟩
theorem zuw {w:World} {g o:Nat} {v:Value} (h:w.cell? ⟨g,o,none⟩=some v):IsC w g:=by
 have hb:=World.block_lt_of_cell? w (a:=⟨g,o,none⟩) h
 cases hh:w.heap[g]? with
 | none=>rw [Array.getElem?_eq_none_iff] at hh;exact absurd hb (by simpa using hh)
 | some ob=>
   refine ⟨ob,hh,?_⟩
   cases ob with
   | cells c t=>rfl
   | _=>simp [World.cell?,hh] at h
theorem IsC.keep {w w':World} {g:Nat} (h:IsC w g) (e:w'.heap[g]?=w.heap[g]?):IsC w' g:=by
 obtain ⟨o,h1,h2⟩:=h
 exact ⟨o,e.trans h1,h2⟩
mutual
theorem zbe.isC {w:World} {P:Nat→Prop} {g off:Nat}:(v:Val)→zbe w P g off v→zbe w (fun g=>P g∧IsC w g) g off v
 | .mk k b n t x l,h=>by
   unfold zbe at h ⊢
   obtain ⟨h0,h1,h2,h3,h4,hf,L,h5,hl⟩:=h
   exact ⟨h0,h1,h2,h3,h4,hf,L,h5,zbb.isC l hl⟩
theorem zbb.isC {w:World} {P:Nat→Prop} {L:Value}:(l:List Val)→zbb w P L l→zbb w (fun g=>P g∧IsC w g) L l
 | [],h=>by
   unfold zbb at h ⊢
   exact h
 | v::r,h=>by
   unfold zbb at h ⊢
   obtain ⟨g,off,cap,e,hg,hv,hr⟩:=h
   refine ⟨g,off,cap,e,⟨hg,?_⟩,zbe.isC v hv,zb2.isC r hr⟩
   obtain ⟨k,b,n,t,x,q⟩:=v
   unfold zbe at hv
   exact zuw hv.1
theorem zb2.isC {w:World} {P:Nat→Prop} {g off:Nat}:(l:List Val)→zb2 w P g off l→zb2 w (fun g=>P g∧IsC w g) g off l
 | [],_=>by unfold zb2;trivial
 | v::r,h=>by
   unfold zb2 at h ⊢
   exact ⟨zbe.isC v h.1,zb2.isC r h.2⟩
end
theorem zux {w:World} {P:Nat→Prop}:{xs:List Value}→(l:List Val)→RowE valE w P xs l→RowE valE w (fun g=>P g∧IsC w g) xs l
 | _,[],h=>by unfold RowE at h ⊢;exact h
 | _,a::l,h=>by
   unfold RowE at h ⊢
   obtain ⟨c,ys,rfl,hc,hr⟩:=h
   refine ⟨c,ys,rfl,?_,zux l hr⟩
   obtain ⟨k,b,n,t,x,q⟩:=a
   obtain ⟨L,e,hf,hq⟩:=hc
   exact ⟨L,e,hf,zbb.isC q hq⟩
theorem zwl {α:Type} {E:Elem α} {w:World} {P:Nat→Prop} {g off:Nat} {xs:List Value} {l:List α} (hk:0 < E.k) (hr:w.rangeAt g off xs) (he:RowE E w P xs l) (hne:l≠[]):IsC w g:=by
 have hl:=RowE.len l he
 cases xs with
 | nil=>
   cases l with
   | nil=>exact absurd rfl hne
   | cons a l=>
     simp only [List.length_nil,List.length_cons,Nat.add_mul,Nat.one_mul] at hl
     omega
 | cons x xs=>exact zuw (hr 0 x rfl)
theorem zag.isC {w:World} {P:Nat→Prop} {v:Value} {l:List Val} (h:zag valE w P v l):zag valE w (fun g=>P g∧IsC w g) v l:=by
 obtain ⟨p,cap,rfl,h⟩:=h
 refine ⟨p,cap,rfl,fun hne=>?_⟩
 obtain ⟨g,off,xs,rfl,hg,hr,he⟩:=h hne
 exact ⟨g,off,xs,rfl,⟨hg,zwl (by decide) hr he hne⟩,hr,zux l he⟩
theorem z2e {w:World} {P:Nat→Prop} {c:List Value} {r:List Val} (h:rowE.rel w P c r):rowE.rel w (fun g=>P g∧IsC w g) c r:=by
 obtain ⟨v,e,hs,hc,hl⟩:=h
 exact ⟨v,e,hs.isC,hc,hl⟩
theorem zuy {w w':World} {P P':Nat→Prop}:{xs:List Value}→(l:List Int)→RowE intE w P xs l→RowE intE w' P' xs l
 | _,[],h=>by unfold RowE at h ⊢;exact h
 | _,a::l,h=>by
   unfold RowE at h ⊢
   obtain ⟨c,ys,rfl,hc,hr⟩:=h
   exact ⟨c,ys,rfl,hc,zuy l hr⟩
theorem zag.ints_off {w:World} {P:Nat→Prop} {v:Value} {l:List Int} {jb:Nat} {c:Array Value} {t:TypeId} (h:zag intE w P v l) (hj:w.heap[jb]?=some (.cells c t)) (hc:∀ (i:Nat) (z:Int),c[i]?≠some (.int .i64 z)):zag intE w (fun k=>P k∧k≠jb) v l:=by
 obtain ⟨p,cap,rfl,h⟩:=h
 refine ⟨p,cap,rfl,fun hne=>?_⟩
 obtain ⟨g,off,xs,rfl,hg,hr,he⟩:=h hne
 refine ⟨g,off,xs,rfl,⟨hg,?_⟩,hr,zuy l he⟩
 rintro rfl
 cases l with
 | nil=>exact hne rfl
 | cons z l=>
   unfold RowE at he
   obtain ⟨c',ys,rfl,⟨rfl,_⟩,_⟩:=he
   have:=hr 0 (.int .i64 z) rfl
   simp only [World.cell?,hj] at this
   exact hc _ z (by simpa using this)
theorem IxIn.off {sh:List (Nat × Nat)} {rows:List (List Val)} {A B R:Value} {mb:Nat} {L:Value} {P P':Nat→Prop} {w:World} {jb:Nat} {c:Array Value} {t:TypeId} (h:IxIn sh rows A B R mb L P w) (hj:w.heap[jb]?=some (.cells c t)) (hc:∀ (i:Nat) (z:Int),c[i]?≠some (.int .i64 z))
 (hR:zag rowE w P' R rows) (hP:∀ g,P g→g≠jb→P' g):IxIn sh rows A B R mb L P' w:=by
 obtain ⟨h1,h2,⟨h0,n,f,h3,h4,h5⟩,h6,h7⟩:=h
 have go:∀ {v:Value} {l:List Int},zag intE w P v l→zag intE w P' v l:=fun q=>(q.ints_off hj hc).stays fun g hg=>⟨hP g hg.1 hg.2,rfl⟩
 have hmb:mb≠jb:=by
  rintro rfl
  obtain ⟨D,⟨es,cl,e,_⟩,_⟩:=h4
  rw [hj] at e
  cases e
 exact ⟨⟨go h1.a,go h1.b⟩,hR,⟨hP _ h0 hmb,n,f,h3,h4,fun x=>⟨go (h5 x).1,(h5 x).2⟩⟩,go h6,h7⟩
structure JI (W0:World) (jb:Nat) (V Rj:Value) (bs:List (List Val)) (W:World):Prop where
 cell:W.heap[jb]?=some (.cells #[V,Rj] 25)
 own:∃ xs Q,W.ownsRow W0.heap.size 43 1 Rj bs.length xs∧RowE rowE W Q xs bs∧∀ g,Q g→W0.heap.size≤g∧g < W.heap.size∧Rj.ownBlock≠some g∧IsC W g
 kept:Kept (fun i=>i=jb) W0 W
theorem JI.stay {W0 W W':World} {jb:Nat} {V Rj:Value} {bs:List (List Val)} (h:JI W0 jb V Rj bs W) (hj:jb < W0.heap.size) (hk:∀ g,g < W.heap.size→(g < W0.heap.size∨IsC W g)→W'.heap[g]?=W.heap[g]?) (hs:W.heap.size≤W'.heap.size) (ho:W'.os=W.os) (ht:W'.tape=W.tape) (hu:W'.output=W.output):JI W0 jb V Rj bs W':=by
 obtain ⟨hc,⟨xs,Q,h1,h2,h3⟩,h4⟩:=h
 have hjc:=(hk jb (zaa hc) (.inl hj)).trans hc
 refine ⟨hjc,⟨xs,Q,zbx h1 fun g e=>?_,h2.stays (fun g hg=>⟨hg,hk g (h3 g hg).2.1 (.inr (h3 g hg).2.2.2)⟩),fun g hg=>?_⟩,?_⟩
 ·refine hk g (h1.lt g e).2 (.inr ?_)
  rcases h1.2 with ⟨rfl,_⟩ | ⟨g',cap,cur,rfl,_,hh,_⟩
  ·cases e
  ·obtain rfl:g'=g:=by simpa [Value.ownBlock] using e
   exact zn9 hh
 ·obtain ⟨a,b,c,d⟩:=h3 g hg
  exact ⟨a,Nat.lt_of_lt_of_le b hs,c,d.keep (hk g b (.inr d))⟩
 ·exact ⟨ho.trans h4.os,ht.trans h4.tape,hu.trans h4.output,Nat.le_trans h4.size hs,fun i hi hf=>(hk i (Nat.lt_of_lt_of_le hi h4.size) (.inl hi)).trans (h4.block i hi hf)⟩
theorem JI.below {W0 W W':World} {jb:Nat} {V Rj:Value} {bs:List (List Val)} (h:JI W0 jb V Rj bs W) (hj:jb < W0.heap.size) (b:Below W.heap.size W W'):JI W0 jb V Rj bs W':=
 h.stay hj (fun g hg _=>b.block g hg) b.size b.os b.tape b.output
theorem JI.grown {W0 W W':World} {jb:Nat} {V Rj:Value} {bs:List (List Val)} {r:Option Nat} (h:JI W0 jb V Rj bs W) (hj:jb < W0.heap.size) (g:W.grownBy W' r) (hr:∀ i,r=some i→W0.heap.size≤i∧∃ o,W.heap[i]?=some o∧o.isCells=false):JI W0 jb V Rj bs W':=
 h.stay hj (fun i hi hc=>g.block i hi fun e=>by
  obtain ⟨h1,o,h2,h3⟩:=hr i e.symm
  rcases hc with hc | ⟨o',h4,h5⟩
  ·omega
  ·rw [h2] at h4
   cases h4
   rw [h3] at h5
   cases h5) g.size g.os g.tape g.output
theorem JI.next {W0 W w3 w5:World} {jb:Nat} {V Rj R2:Value} {xs c:List Value} {Q:Nat→Prop} {bs:List (List Val)} {b:List Val} {o:Obj} (hcell:W.heap[jb]?=some (.cells #[V,Rj] 25)) (hown:W.ownsRow W0.heap.size 43 1 Rj bs.length xs) (hrow:RowE rowE W Q xs bs)
 (hq:∀ g,Q g→W0.heap.size≤g∧g < W.heap.size∧Rj.ownBlock≠some g∧IsC W g) (hk:Kept (fun i=>i=jb) W0 W) (hj:jb < W0.heap.size) (b3:Below W.heap.size W w3) (hc:rowE.rel w3 (New W w3) c b)
 (hown':w5.ownsRow W0.heap.size 43 1 R2 (bs.length+1) (xs++c)) (hg:(w3.alloc o).grownBy w5 Rj.ownBlock) (hloc:R2.ownBlock=Rj.ownBlock∨R2.ownBlock=some (w3.alloc o).heap.size):JI W0 jb V R2 (bs++[b]) (w5.setCell ⟨jb,1,none⟩ R2):=by
 have sz:(w3.alloc o).heap.size=w3.heap.size+1:=by simp
 have hjW:=zaa hcell
 have h3s:=b3.size
 have h5s:=hg.size
 have hset:∀ i,i≠jb→(w5.setCell ⟨jb,1,none⟩ R2).heap[i]?=w5.heap[i]?:=fun i h=>Below.heap_setCell _ _ _ _ h
 have blk:∀ g,g < w3.heap.size→Rj.ownBlock≠some g→w5.heap[g]?=w3.heap[g]?:=fun g h1 h2=>(hg.block g (by omega) (fun e=>h2 e.symm)).trans (Below.heap_alloc _ _ _ h1)
 have oR:∀ g,Rj.ownBlock=some g→W0.heap.size≤g:=fun g e=>(hown.lt g e).1
 have oR':∀ g,Rj.ownBlock=some g→g < W.heap.size:=fun g e=>(hown.lt g e).2
 have c5:w5.heap[jb]?=some (.cells #[V,Rj] 25):=(blk jb (by omega) (fun e=>by have:=oR jb e;omega)).trans ((b3.block jb hjW).trans hcell)
 have hc2:=z2e hc
 refine ⟨zb8 c5 1 _,⟨xs++c,fun g=>Q g∨(New W w3 g∧IsC w3 g),?_,?_,fun g hg'=>?_⟩,?_⟩
 ·have:=zbx hown' (w':=w5.setCell ⟨jb,1,none⟩ R2) (fun g e=>hset g (by have:=(hown'.lt g e).1;omega))
  simpa using this
 ·refine RowE.append bs [b] (hrow.stays (fun g h=>⟨.inl h,?_⟩) bs) (RowE.single (rowE.stays (fun g h=>⟨.inr h,?_⟩) hc2))
  ·obtain ⟨a1,a2,a3,_⟩:=hq g h
   exact (hset g (by omega)).trans ((blk g (by omega) a3).trans (b3.block g a2))
  ·have h1:=h.1.1
   have h2:=h.1.2
   exact (hset g (by omega)).trans (blk g h2 (fun e=>by have:=oR' g e;omega))
 ·have hno:∀ g,W0.heap.size≤g→g < w3.heap.size→Rj.ownBlock≠some g→R2.ownBlock≠some g:=fun g _ h2 h3 e=>by
   rcases hloc with q | q
   ·exact h3 (q.symm.trans e)
   ·rw [q] at e
    have:=Option.some.inj e
    omega
  rcases hg' with h | h
  ·obtain ⟨a1,a2,a3,a4⟩:=hq g h
   exact ⟨a1,by rw [World.size_setCell];omega,hno g a1 (by omega) a3,a4.keep ((hset g (by omega)).trans ((blk g (by omega) a3).trans (b3.block g a2)))⟩
  ·have h1:=h.1.1
   have h2:=h.1.2
   have hks:=hk.size
   exact ⟨by omega,by rw [World.size_setCell];omega,hno g (by omega) h2 (fun e=>by have:=oR' g e;omega),h.2.keep ((hset g (by omega)).trans (blk g h2 (fun e=>by have:=oR' g e;omega)))⟩
 ·exact (((hk.below b3).alloc o).grown hg (fun i e h=>absurd (oR i e) (by omega))).set (p:=⟨jb,1,none⟩) rfl _
def OwJ (jb:Nat) (W:World) (k:Nat):Prop:=k=jb∨∃ V R,W.heap[jb]?=some (.cells #[V,R] 25)∧R.ownBlock=some k
theorem zzq {jb N:Nat} (h:jb < N):OwN N (OwJ jb):=fun A B k b x=>by
 rcases x with rfl | ⟨V,R,h1,h2⟩
 ·exact .inl rfl
 ·exact .inr ⟨V,R,(b.block jb h).symm.trans h1,h2⟩
end YteclpnfckjfibaaGreatDoor
end Go.Proofs
