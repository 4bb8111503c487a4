/- Texts of one kind, one behind the other: each says ahead of itself what it shows. -/
import Derived.Test.YteclpnfckjfibaaGreatDoorBak
/- RP -/
namespace Go.Proofs.YteclpnfckjfibaaGreatDoor
open Go.RowKit
def zk9 (t:TabL) (vars:List ByteArray):List (List Val):=t.rows.map fun r=>(zdt vars t.vars).map (za7 r)
theorem cols_ok (vs us:List ByteArray):∀ c∈zdt vs us,zic us.length c:=by
 intro c hc
 obtain ⟨v,_,rfl⟩:=List.mem_map.1 hc
 cases h:zau v us with
 | none=>exact .inl rfl
 | some k=>exact .inr ⟨k,rfl,zc2 h⟩
set_option maxHeartbeats 1600000 in
set_option maxRecDepth 20000 in
theorem zu8 (r:List Val) (u C:Value) (cs:List Int) (gf:Nat) (W:World) (hu:rowE.rel W (Old W) [u] r) (hg:W.heap[gf]?=some (.cells #[C] 26)) (hC:zaf intE W (Old W) C cs) (hok:∀ c∈cs,zic r.length c) (hn:cs.length≤2097152):
 Calls Tryz.prog 113 #[u,.pointer (some ⟨gf,0,none⟩)] W (zb0 rowE (cs.map (za7 r)) W):=by
 obtain ⟨v,e,hs,hc,hl⟩:=hu
 cases e
 obtain ⟨p,k,rfl⟩:=hs.slice
 obtain ⟨pc,kc,rfl⟩:=hC.slice
 obtain ⟨W1,hW1⟩:∃ W1,W1=W.alloc (.cells #[.slice p r.length k] 43):=⟨_,rfl⟩
 have b1:Below W.heap.size W W1:=by rw [hW1];exact zaz _ _
 have u1:W1.heap[W.heap.size]?=some (.cells #[.slice p r.length k] 43):=by rw [hW1];exact zah _ _ rfl
 have hm:=(map114p (.pointer (some ⟨W.heap.size,0,none⟩)) (za7 r) cs (.slice pc cs.length kc) W1 (hC.stays (zad b1)) hn (fun x hx W' c hb hr=>by
  obtain ⟨rfl,_⟩:=hr
  have hb2:=zab b1 hb b1.size
  exact zu7 r _ x W.heap.size W' ((hb.block _ (zaa u1)).trans u1) (hs.stays (zad hb2)) (hok x hx))).mono (fun e w' h=>za8.before b1 h)
 have c0:=zac ((b1.block _ (zaa hg)).trans hg) 0 rfl
 have HM:=Lib.hid hm
 have HW:=Lib.hid hW1
 clear hm hW1 hs hc hC u1 b1 hg
 go_enter Tryz.func113,Tryz.ntmps113
 go_upto_region 1 with fail
 rw [← HW.out]
 go_wp2_with (first
  |(go_at_call 114;(with_reducible refine HM.out.mono ?_);rintro e w1 ⟨V2,xs,rfl,hown,hrow,hb⟩;have hown2:=hown;rw [List.length_map] at hown2;obtain ⟨p2,k2,rfl⟩:=zar hown2))
 go_ret
 exact ⟨_,[_],rfl,rfl,⟨_,rfl,za8.slice hown hrow,zcp hown,by simpa using hn⟩,hb⟩
set_option maxHeartbeats 3200000 in
set_option maxRecDepth 20000 in
theorem zxs (t:TabL) (vars:List ByteArray) (V R v:Value) (W:World) (h:tabE.rel W (Old W) [V,R] t) (hlen:∀ r∈t.rows,r.length=t.vars.length) (hv:zaf za0 W (Old W) v vars) (hvn:vars.length≤2097152):
 Calls Tryz.prog 72 #[.agg #[V,R],v] W (za8 rowE 43 W (zk9 t vars)):=by
 obtain ⟨V',R',e,hV,hR,hcv,hcr,hlv,hlr⟩:=h
 cases e
 obtain ⟨pV,kV,rfl⟩:=hV.slice
 obtain ⟨pR,kR,rfl⟩:=hR.slice
 obtain ⟨p,k,rfl⟩:=hv.slice
 obtain ⟨W1,hW1⟩:∃ W1,W1=W.alloc (.cells #[.slice pV t.vars.length kV,.slice pR t.rows.length kR] 25):=⟨_,rfl⟩
 have b1:Below W.heap.size W W1:=by rw [hW1];exact zaz _ _
 have u1:W1.heap[W.heap.size]?=some (.cells #[.slice pV t.vars.length kV,.slice pR t.rows.length kR] 25):=by rw [hW1];exact zah _ _ rfl
 have HC:=Lib.hid (zo8 vars t.vars _ _ W1 (hv.stays (zad b1)) (hV.stays (zad b1)) hvn hlv)
 have hcl:(zdt vars t.vars).length=vars.length:=by simp [zdt]
 have c0:=zac u1 0 rfl
 have HW:=Lib.hid hW1
 have HR:=Lib.hid hR
 have HU:=Lib.hid u1
 clear u1 hW1 hV hR hcv hcr hv
 go_enter Tryz.func72,Tryz.ntmps72
 go_upto_region 1 with fail
 rw [← HW.out]
 go_upto_region 2 with (first
  |(go_at_call 112;(with_reducible refine HC.out.mono ?_);rintro e w1 ⟨V2,xs,rfl,hown,hrow,hb⟩;have hown2:=hown;rw [hcl] at hown2;obtain ⟨p2,k2,rfl⟩:=zar hown2))
 obtain ⟨W2,hW2⟩:∃ W2,W2=w1.alloc (.cells #[.slice p2 vars.length k2] 26):=⟨_,rfl⟩
 have b2:Below w1.heap.size w1 W2:=by rw [hW2];exact zaz _ _
 have hb2:=zab b1 (zab hb b2 hb.size) b1.size
 have u2:W2.heap[w1.heap.size]?=some (.cells #[.slice p2 vars.length k2] 26):=by rw [hW2];exact zah _ _ rfl
 have hsl:zaf intE W2 (Old W2) (.slice p2 vars.length k2) (zdt vars t.vars):=(za8.slice hown hrow).stays (fun g hg=>⟨Nat.lt_of_lt_of_le hg.2 b2.size,b2.block g hg.2⟩)
 have hm:=(map103p (.pointer (some ⟨w1.heap.size,0,none⟩)) (fun r=>(zdt vars t.vars).map (za7 r)) t.rows (.slice pR t.rows.length kR) W2 (HR.out.stays (zad hb2)) hlr (fun x hx W' u hb3 hr=>
  zu8 x u _ _ w1.heap.size W' hr ((hb3.block _ (zaa u2)).trans u2) (hsl.stays (zad hb3)) (fun c hc=>by rw [hlen x hx];exact cols_ok _ _ c hc) (by rw [hcl];exact hvn))).mono (fun e w' h=>za8.before hb2 h)
 have c1:=zac (((zab hb b2 hb.size).block _ (zaa HU.out)).trans HU.out) 1 rfl
 have HM:=Lib.hid hm
 have HW2:=Lib.hid hW2
 clear hm hW2 hsl hown hown2 hrow hb hb2 b2 u2 c0 b1
 rw [← HW2.out]
 go_wp2_with (first
  |(go_at_call 103;(with_reducible refine HM.out.mono ?_);rintro e w2 ⟨V3,xs3,rfl,hown,hrow,hb⟩;have hown2:=hown;rw [List.length_map] at hown2;obtain ⟨p3,k3,rfl⟩:=zar hown2))
 go_ret
 exact ⟨_,xs3,rfl,hown,hrow,hb⟩
def srcP (vars a b:List ByteArray):List (Int × Int):=vars.map fun v=>(za3 (zau v a),za3 (zau v b))
def zc3 (a b:List Val) (s:Int × Int):Val:=if isB (za7 a s.1) then za7 a s.1 else za7 b s.2
end Go.Proofs.YteclpnfckjfibaaGreatDoor

/- RQ -/
namespace Go.Proofs.YteclpnfckjfibaaGreatDoor
open Go.RowKit
theorem zxt (a b:Int):∀ u∈[Value.int .i64 a,.int .i64 b],u.oneCell'=true:=zch rfl rfl
set_option maxHeartbeats 3200000 in
set_option maxRecDepth 20000 in
theorem zu9 (x:ByteArray) (A B:Value) (ta tb:List ByteArray) (ga gb:Nat) (W:World) (hga:W.heap[ga]?=some (.cells #[A] 22)) (hgb:W.heap[gb]?=some (.cells #[B] 22)) (ha:zaf za0 W (Old W) A ta) (hb:zaf za0 W (Old W) B tb) (han:ta.length≤2097152) (hbn:tb.length≤2097152):
 Calls Tryz.prog 123 #[.string x,.pointer (some ⟨ga,0,none⟩),.pointer (some ⟨gb,0,none⟩)] W (zb0 srcE (za3 (zau x ta),za3 (zau x tb)) W):=by
 obtain ⟨W0,hW0⟩:∃ W0,W0=W.alloc (.cells #[.int .i64 0,.int .i64 0] 138):=⟨_,rfl⟩
 have b0:Below W.heap.size W W0:=by rw [hW0];exact zaz _ _
 have u0:W0.heap[W.heap.size]?=some (.cells #[.int .i64 0,.int .i64 0] 138):=by rw [hW0];exact zah _ _ rfl
 have ca:W0.cell? ⟨ga,0,none⟩=some A:=zac ((b0.block _ (zaa hga)).trans hga) 0 rfl
 have cb:W0.cell? ⟨gb,0,none⟩=some B:=zac ((b0.block _ (zaa hgb)).trans hgb) 0 rfl
 have HA:=Lib.hid (zm5 A ta x (Old W0) W0.drew (ha.stays (P':=Old W0) (w':=W0.drew) (fun g hg=>⟨Nat.lt_of_lt_of_le hg b0.size,b0.block g hg⟩)) han)
 have HB:=Lib.hid (zm5 B tb x (Old W0) W0.drew (hb.stays (P':=Old W0) (w':=W0.drew) (fun g hg=>⟨Nat.lt_of_lt_of_le hg b0.size,b0.block g hg⟩)) hbn)
 have HWF:=Lib.hid (And.intro (zk7 (t:=x) han) (zk7 (t:=x) hbn))
 obtain ⟨za,hza⟩:∃ z,z=za3 (zau x ta):=⟨_,rfl⟩
 obtain ⟨zb,hzb⟩:∃ z,z=za3 (zau x tb):=⟨_,rfl⟩
 rw [← hza] at HA HWF ⊢
 rw [← hzb] at HB HWF ⊢
 obtain ⟨pa,ka,rfl⟩:=ha.slice
 obtain ⟨pb,kb,rfl⟩:=hb.slice
 have HW:=Lib.hid hW0
 have hga2:=zaa hga
 have hgb2:=zaa hgb
 clear hW0 ha hb hga hgb hza hzb
 go_enter Tryz.func123,Tryz.ntmps123
 go_upto_region 1 with fail
 rw [← HW.out]
 refine wp_region_held_drew (S:=fun W'=>W'.cell? ⟨ga,0,none⟩=some (.slice pa ta.length ka)∧W'.cell? ⟨gb,0,none⟩=some (.slice pb tb.length kb)) (by kernel_rfl) ⟨ca,cb⟩ (fun hh=>?_)
 clear hh
 have bw:=b0.drew
 replace ca:W0.drew.cell? ⟨ga,0,none⟩=some (.slice pa ta.length ka):=ca
 replace cb:W0.drew.cell? ⟨gb,0,none⟩=some (.slice pb tb.length kb):=cb
 replace u0:W0.drew.heap[W.heap.size]?=some (.cells #[.int .i64 0,.int .i64 0] 138):=u0
 clear b0 HW
 generalize W0.drew=wD at*
 refine tk (i:=0) (v:=.slice pa ta.length ka) rfl (Or.inl ⟨by rfl,fun W' h=>by have c0:=h.1;go_simp⟩) (⟨ca,cb⟩) ?_
 refine tg (i:=1) (.string x) rfl (⟨ca,cb⟩) ?_
 refine tk (i:=3) (v:=.slice pb tb.length kb) rfl (Or.inl ⟨by rfl,fun W' h=>by have c0:=h.2;go_simp⟩) (⟨ca,cb⟩) ?_
 refine tg (i:=4) (.string x) rfl (⟨ca,cb⟩) ?_
 refine tr 2 rfl (fun K hK=>?_)
 rw [if_pos (by rfl)]
 go_simp
 refine HA.out.mono ?_
 rintro e0 w3 ⟨rfl,e3⟩
 subst e3
 refine hK.out _ _ (⟨ca,cb⟩) (fun _=>?_)
 clear hK K
 try simp only [putS]
 refine tr 5 rfl (fun K hK=>?_)
 rw [if_pos (by rfl)]
 go_simp
 refine HB.out.mono ?_
 rintro e0 w4 ⟨rfl,e4⟩
 subst e4
 refine hK.out _ _ (⟨ca,cb⟩) (fun _=>?_)
 clear hK K
 try simp only [putS]
 refine tg (i:=6) (.agg #[.int .i64 za,.int .i64 zb]) rfl (⟨ca,cb⟩) ?_
 refine tr 7 rfl (fun K hK=>?_)
 try rw [if_pos (by rfl)]
 refine zcs (.tmp 4) (.tmp 11) W.heap.size 138 138 _ [.int .i64 za,.int .i64 zb] 2 u0 rfl rfl rfl rfl zfc rfl (zxt _ _) ?_
 intro w5 o5 u5
 have bX:=zam bw o5 (Nat.le_refl _) bw.size
 replace ca:=(World.cell?_of_block (a:=⟨ga,0,none⟩) (o5.block ga (by have:=hga2;have:=bw.size;omega) (by omega))).trans ca
 replace cb:=(World.cell?_of_block (a:=⟨gb,0,none⟩) (o5.block gb (by have:=hgb2;have:=bw.size;omega) (by omega))).trans cb
 refine hK.out _ _ (⟨ca,cb⟩) (fun _=>?_)
 clear hK K
 try simp only [putS]
 refine wpAnyH_done (by kernel_rfl) ?_ _
 go_wp2_with fail
 exact bodyPost_ret (results_cell_row (p:=4) (ty:=138) Tryz.results123 _ _ W.heap.size 138 _ (0,0) _ rfl u5 Tryz.underlying138 rfl zfc) rfl ⟨_,[_,_],rfl,rfl,⟨rfl,HWF.out⟩,bX⟩
theorem zzo {w w1 w2 w3:World} {d:List Value} {v:Val} {b:Nat} (h:zcz w2 (New w1 w2) d v) (h1:w.heap.size≤w1.heap.size) (o:Only b w2 w3) (hb:b < w1.heap.size):zcz w3 (New w w3) d v:=
 valE.stays (P:=New w1 w2) (P':=New w w3) (fun x hx=>⟨⟨Nat.le_trans h1 hx.1,Nat.lt_of_lt_of_le hx.2 o.size⟩,o.block x hx.2 (fun e=>by have:=hx.1;omega)⟩) h
def mrg (c:Val) (d:Val):Val:=if isB c then c else d
set_option maxHeartbeats 1600000 in
set_option maxRecDepth 20000 in
theorem zva (vars ta tb:List ByteArray) (v A B:Value) (W:World) (hv:zaf za0 W (Old W) v vars) (ha:zaf za0 W (Old W) A ta) (hb:zaf za0 W (Old W) B tb) (hvn:vars.length≤2097152) (han:ta.length≤2097152) (hbn:tb.length≤2097152):
 Calls Tryz.prog 74 #[v,A,B] W (za8 srcE 138 W (srcP vars ta tb)):=by
 obtain ⟨p,k,rfl⟩:=hv.slice
 obtain ⟨pa,ka,rfl⟩:=ha.slice
 obtain ⟨pb,kb,rfl⟩:=hb.slice
 obtain ⟨W1,hW1⟩:∃ W1,W1=(W.alloc (.cells #[.slice pa ta.length ka] 22)).alloc (.cells #[.slice pb tb.length kb] 22):=⟨_,rfl⟩
 have b1:Below W.heap.size W W1:=by rw [hW1];exact zc6 _ _ _
 have u1:W1.heap[W.heap.size]?=some (.cells #[.slice pa ta.length ka] 22):=by rw [hW1];exact zaq _ (zah _ _ rfl)
 have u2:W1.heap[W.heap.size+1]?=some (.cells #[.slice pb tb.length kb] 22):=by rw [hW1];exact zah _ _ (by simp)
 have hm:=(map122 (.pointer (some ⟨W.heap.size,0,none⟩)) (.pointer (some ⟨W.heap.size+1,0,none⟩)) (fun v=>(za3 (zau v ta),za3 (zau v tb))) vars (.slice p vars.length k) W1 (hv.stays (zad b1)) hvn (fun x hx W' c hb2 hr=>by
  have hb3:=zab b1 hb2 b1.size
  exact zu9 x _ _ ta tb W.heap.size (W.heap.size+1) W' ((hb2.block _ (zaa u1)).trans u1) ((hb2.block _ (zaa u2)).trans u2) (ha.stays (zad hb3)) (hb.stays (zad hb3)) han hbn)).mono (fun e w' h=>za8.before b1 h)
 have HM:=Lib.hid hm
 have HW:=Lib.hid hW1
 clear hm hW1 hv ha hb u1 u2 b1
 go_enter Tryz.func74,Tryz.ntmps74
 go_upto_region 1 with fail
 rw [← HW.out]
 go_wp2_with (first
  |(go_at_call 122;(with_reducible refine HM.out.mono ?_);rintro e w1 ⟨V2,xs,rfl,hown,hrow,hb⟩;have hown2:=hown;rw [List.length_map] at hown2;obtain ⟨p2,k2,rfl⟩:=zar hown2))
 go_ret
 exact ⟨_,xs,rfl,hown,hrow,hb⟩
set_option maxHeartbeats 3200000 in
set_option maxRecDepth 20000 in
theorem zvb (a b:List Val) (s:Int × Int) (A B:Value) (ga gb:Nat) (W:World) (hga:W.heap[ga]?=some (.cells #[A] 43)) (hgb:W.heap[gb]?=some (.cells #[B] 43)) (ha:zaf valE W (Old W) A a) (hb:zaf valE W (Old W) B b) (hs1:zic a.length s.1) (hs2:zic b.length s.2):
 Calls Tryz.prog 131 #[.agg #[.int .i64 s.1,.int .i64 s.2],.pointer (some ⟨ga,0,none⟩),.pointer (some ⟨gb,0,none⟩)] W (zb0 valE (zc3 a b s) W):=by
 obtain ⟨s1,s2⟩:=s
 obtain ⟨W0,hW0⟩:∃ W0,W0=(W.alloc (.cells #[.int .i64 s1,.int .i64 s2] 138)).alloc (.cells #[.int .i64 0,.bool false,.int .i64 0,.string ⟨#[]⟩,.string ⟨#[]⟩,.slice none 0 0] 48):=⟨_,rfl⟩
 have b0:Below W.heap.size W W0:=by rw [hW0];exact zc6 _ _ _
 have v0:W0.heap[W.heap.size]?=some (.cells #[.int .i64 s1,.int .i64 s2] 138):=by rw [hW0];exact zaq _ (zah _ _ rfl)
 have u0:W0.heap[W.heap.size+1]?=some (.cells #[.int .i64 0,.bool false,.int .i64 0,.string ⟨#[]⟩,.string ⟨#[]⟩,.slice none 0 0] 48):=by rw [hW0];exact zah _ _ (by simp)
 have ca:W0.cell? ⟨ga,0,none⟩=some A:=zac ((b0.block _ (zaa hga)).trans hga) 0 rfl
 have cb:W0.cell? ⟨gb,0,none⟩=some B:=zac ((b0.block _ (zaa hgb)).trans hgb) 0 rfl
 have H1:Hid (∀ w',Below W0.heap.size W0 w'→Calls Tryz.prog 117 #[A,.int .i64 s1] w' fun e w2=>∃ d,e=.returned (.agg d.toArray)∧zcz w2 (Old W) d (za7 a s1)∧Below w'.heap.size w' w2):=Lib.hid fun w' h=>by
  have h2:=zab b0 h b0.size
  exact zm7 a A s1 (Old W) w' (fun x hx=>Nat.lt_of_lt_of_le hx h2.size) (ha.stays (fun x hx=>⟨hx,h2.block x hx⟩)) hs1
 have H2:Hid (∀ w',Below W0.heap.size W0 w'→Calls Tryz.prog 117 #[B,.int .i64 s2] w' fun e w2=>∃ d,e=.returned (.agg d.toArray)∧zcz w2 (Old W) d (za7 b s2)∧Below w'.heap.size w' w2):=Lib.hid fun w' h=>by
  have h2:=zab b0 h b0.size
  exact zm7 b B s2 (Old W) w' (fun x hx=>Nat.lt_of_lt_of_le hx h2.size) (hb.stays (fun x hx=>⟨hx,h2.block x hx⟩)) hs2
 have e:zc3 a b (s1,s2)=mrg (za7 a s1) (za7 b s2):=rfl
 rw [e]
 generalize za7 a s1=va at H1 ⊢
 generalize za7 b s2=vb at H2 ⊢
 obtain ⟨pa,ka,rfl⟩:=ha.slice
 obtain ⟨pb,kb,rfl⟩:=hb.slice
 have c1:=zac v0 0 rfl
 have HV:=Lib.hid v0
 have hz0:W0.heap.size=W.heap.size+2:=by rw [hW0];simp
 have HW:=Lib.hid hW0
 clear hW0 ha hb hga hgb e hs1 hs2 v0
 go_enter Tryz.func131,Tryz.ntmps131
 go_upto_region 1 with fail
 rw [← HW.out]
 go_upto_region 2 with (first
  |(go_at_call 117;(with_reducible refine (H1.out W0 (Below.refl _ _)).mono ?_);rintro e w1 ⟨d,rfl,hd,hb1⟩;have hld:d.length=6:=valE.len hd;have hod:=valE.one hd;have HD:=Lib.hid hd;clear hd)
  |((with_reducible refine zas (.tmp 5) (.tmp 9) w1.heap.size 48 48 _ d 6 (zah _ _ rfl) hld ?_ ?_ ?_ ?_ zai rfl hod ?_);rfl;rfl;rfl;rfl;intro wX oX uX))
 have bX:Below W0.heap.size W0 wX:=zab hb1 (zam (zaz w1 _) oX (Nat.le_refl _) (by simp)) hb1.size
 have hz1:=hb1.size
 have hdX:zcz wX (Old W) d va:=valE.stays (fun x hx=>⟨hx,(oX.block x (by have:x < W.heap.size:=hx;simp;omega) (by have:x < W.heap.size:=hx;omega)).trans (Below.heap_alloc _ _ _ (by have:x < W.heap.size:=hx;omega))⟩) HD.out
 have hld2:d.toArray.size=6:=by simp [hld]
 have H3:=Lib.hid (zdr va wX d (Old W) hdX)
 obtain ⟨q,hq⟩:∃ q,q=isB va:=⟨_,rfl⟩
 rw [← hq] at H3
 have HQ:=Lib.hid hq
 have HDX:=Lib.hid hdX
 have HX:=Lib.hid uX
 have g5:W0.heap.size≤w1.heap.size:=hz1
 clear hq hdX oX HD hb1 ca c1
 cases q with
 | true=>
   go_upto_region 4 with (first
    |((with_reducible refine zag (.tmp 5) w1.heap.size 48 48 d 6 _ uX hld Tryz.underlying48 rfl zai ?_ ?_ ?_ ?_);rfl;rfl;rfl)
    |(go_at_call 126;(with_reducible refine H3.out.mono ?_);rintro e w3 ⟨rfl,h3⟩))
   have uY:=(h3.block _ (zaa HX.out)).trans HX.out
   have bY:=zab bX h3.is bX.size
   have H4:=Lib.hid (zo5 va w3 d (valE.stays (fun x hx=>⟨Nat.lt_of_lt_of_le hx (Nat.le_trans b0.size bY.size),h3.block x (by have:x < W.heap.size:=hx;have:=bX.size;omega)⟩) HDX.out))
   have em:mrg va vb=va:=by unfold mrg;rw [← HQ.out];rfl
   clear uX h3 bX HDX
   go_wp2_with (first
    |((with_reducible refine zag (.tmp 5) w1.heap.size 48 48 d 6 _ uY hld Tryz.underlying48 rfl zai ?_ ?_ ?_ ?_);rfl;rfl;rfl)
    |(go_at_call 116;(with_reducible refine H4.out.mono ?_);rintro e w5 ⟨v5,d5,rfl,e5,hd5,hb5⟩;obtain rfl:v5=.agg d5.toArray:=zu6 hd5 e5;have b5:=zab bY hb5 bY.size;have u5:=(b5.block _ (zaa u0)).trans u0;have hl5:d5.length=6:=valE.len hd5;have ho5:=valE.one hd5;have HD5:=Lib.hid hd5;clear hd5)
    |((with_reducible refine zas (.tmp 4) (.tmp 18) (W.heap.size+1) 48 48 _ d5 6 u5 hl5 ?_ ?_ ?_ ?_ zai rfl ho5 ?_);rfl;rfl;rfl;rfl;intro wW oW uW))
   have zb:=bY.size
   have bW:=zam (zab b0 b5 b0.size) oW (Nat.le_succ _) (zab b0 b5 b0.size).size
   exact bodyPost_ret (results_cell_row (p:=4) (ty:=48) Tryz.results131 _ _ (W.heap.size+1) 48 d5.toArray (0,0) _ rfl uW Tryz.underlying48 rfl (by rw [zai];simp [hl5])) rfl ⟨_,d5,rfl,rfl,(by rw [em];exact zzo HD5.out (by omega) oW (by omega)),bW⟩
 | false=>
   go_upto_region 3 with (first
    |((with_reducible refine zag (.tmp 5) w1.heap.size 48 48 d 6 _ uX hld Tryz.underlying48 rfl zai ?_ ?_ ?_ ?_);rfl;rfl;rfl)
    |(go_at_call 126;(with_reducible refine H3.out.mono ?_);rintro e w3 ⟨rfl,h3⟩))
   have uY:=(h3.block _ (zaa HX.out)).trans HX.out
   have bY:=zab bX h3.is bX.size
   have cb3:=zaw cb bY
   have c13:=zac ((bY.block _ (by omega)).trans HV.out) 1 rfl
   have em:mrg va vb=vb:=by unfold mrg;rw [← HQ.out];rfl
   clear uX h3 bX HDX cb
   go_upto_region 4 with (first
    |(go_at_call 117;(with_reducible refine (H2.out _ bY).mono ?_);rintro e w4 ⟨d4,rfl,hd4,hb4⟩;have hl4:d4.length=6:=valE.len hd4;have ho4:=valE.one hd4;have HD4:=Lib.hid hd4;clear hd4;have uZ:=(hb4.block _ (zaa uY)).trans uY)
    |((with_reducible refine zas (.tmp 5) (.tmp 16) w1.heap.size 48 48 _ d4 6 uZ hl4 ?_ ?_ ?_ ?_ zai hld2 ho4 ?_);rfl;rfl;rfl;rfl;intro wZ oZ vZ))
   have b4:=zab bY hb4 bY.size
   have bZ:Below W0.heap.size W0 wZ:=zam b4 oZ g5 b4.size
   have hz3:=bY.size
   have H4:=Lib.hid (zo5 vb wZ d4 (valE.stays (fun x hx=>⟨Nat.lt_of_lt_of_le hx (Nat.le_trans b0.size bZ.size),oZ.block x (by have:x < W.heap.size:=hx;have:=hb4.size;omega) (by have:x < W.heap.size:=hx;omega)⟩) HD4.out))
   clear uY uZ bY hb4 b4 cb3 c13 HD4
   go_wp2_with (first
    |((with_reducible refine zag (.tmp 5) w1.heap.size 48 48 d4 6 _ vZ hl4 Tryz.underlying48 rfl zai ?_ ?_ ?_ ?_);rfl;rfl;rfl)
    |(go_at_call 116;(with_reducible refine H4.out.mono ?_);rintro e w5 ⟨v5,d5,rfl,e5,hd5,hb5⟩;obtain rfl:v5=.agg d5.toArray:=zu6 hd5 e5;have b5:=zab bZ hb5 bZ.size;have u5:=(b5.block _ (zaa u0)).trans u0;have hl5:d5.length=6:=valE.len hd5;have ho5:=valE.one hd5;have HD5:=Lib.hid hd5;clear hd5)
    |((with_reducible refine zas (.tmp 4) (.tmp 18) (W.heap.size+1) 48 48 _ d5 6 u5 hl5 ?_ ?_ ?_ ?_ zai rfl ho5 ?_);rfl;rfl;rfl;rfl;intro wW oW uW))
   have zb:=bZ.size
   have bW:=zam (zab b0 b5 b0.size) oW (Nat.le_succ _) (zab b0 b5 b0.size).size
   exact bodyPost_ret (results_cell_row (p:=4) (ty:=48) Tryz.results131 _ _ (W.heap.size+1) 48 d5.toArray (0,0) _ rfl uW Tryz.underlying48 rfl (by rw [zai];simp [hl5])) rfl ⟨_,d5,rfl,rfl,(by rw [em];exact zzo HD5.out (by omega) oW (by omega)),bW⟩
set_option maxHeartbeats 1600000 in
set_option maxRecDepth 20000 in
theorem zxu (a b:List Val) (src:List (Int × Int)) (A B S:Value) (W:World) (ha:zaf valE W (Old W) A a) (hb:zaf valE W (Old W) B b) (hs:zaf srcE W (Old W) S src) (hok:∀ s∈src,zic a.length s.1∧zic b.length s.2) (hn:src.length≤2097152):
 Calls Tryz.prog 78 #[A,B,S] W (zb0 rowE (src.map (zc3 a b)) W):=by
 obtain ⟨pa,ka,rfl⟩:=ha.slice
 obtain ⟨pb,kb,rfl⟩:=hb.slice
 obtain ⟨ps,ks,rfl⟩:=hs.slice
 obtain ⟨W1,hW1⟩:∃ W1,W1=(W.alloc (.cells #[.slice pa a.length ka] 43)).alloc (.cells #[.slice pb b.length kb] 43):=⟨_,rfl⟩
 have b1:Below W.heap.size W W1:=by rw [hW1];exact zc6 _ _ _
 have u1:W1.heap[W.heap.size]?=some (.cells #[.slice pa a.length ka] 43):=by rw [hW1];exact zaq _ (zah _ _ rfl)
 have u2:W1.heap[W.heap.size+1]?=some (.cells #[.slice pb b.length kb] 43):=by rw [hW1];exact zah _ _ (by simp)
 have hm:=(map130 (.pointer (some ⟨W.heap.size,0,none⟩)) (.pointer (some ⟨W.heap.size+1,0,none⟩)) (zc3 a b) src (.slice ps src.length ks) W1 (hs.stays (zad b1)) hn (fun x hx W' c hb2 hr=>by
  have hb3:=zab b1 hb2 b1.size
  obtain ⟨rfl,_⟩:=hr
  exact zvb a b x _ _ W.heap.size (W.heap.size+1) W' ((hb2.block _ (zaa u1)).trans u1) ((hb2.block _ (zaa u2)).trans u2) (ha.stays (zad hb3)) (hb.stays (zad hb3)) (hok x hx).1 (hok x hx).2)).mono (fun e w' h=>za8.before b1 h)
 have HM:=Lib.hid hm
 have HW:=Lib.hid hW1
 clear hm hW1 ha hb hs u1 u2 b1
 go_enter Tryz.func78,Tryz.ntmps78
 go_upto_region 1 with fail
 rw [← HW.out]
 go_wp2_with (first
  |(go_at_call 130;(with_reducible refine HM.out.mono ?_);rintro e w1 ⟨V2,xs,rfl,hown,hrow,hb⟩;have hown2:=hown;rw [List.length_map] at hown2;obtain ⟨p2,k2,rfl⟩:=zar hown2))
 go_ret
 exact ⟨_,[_],rfl,rfl,⟨_,rfl,za8.slice hown hrow,zcp hown,by simpa using hn⟩,hb⟩
end Go.Proofs.YteclpnfckjfibaaGreatDoor
