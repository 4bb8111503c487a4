/- Texts of one kind, one behind the other: each says ahead of itself what it shows. -/
import Derived.Test.YteclpnfckjfibaaGreatDoorCag
import Derived.Laws.AppendOwnNone
import Derived.Test.YteclpnfckjfibaaGreatDoorCad
import Derived.Test.YteclpnfckjfibaaGreatDoorCab
import Derived.WalkKit
import Derived.OwnWalk
import Derived.Maps.AppendAt
import Derived.Lib.AppendStr
import Derived.Deep.LoopGhost
namespace Go.Proofs.YteclpnfckjfibaaGreatDoor
open Go.RowKit
set_option maxHeartbeats 12800000
set_option maxRecDepth 20000
theorem z1j (a b:Int):∀ u∈[Value.int .i64 a,.int .i64 b],u.oneCell'=true:=zc4 rfl rfl
theorem zyf (x:ByteArray) (A B:Value) (ta tb:List ByteArray) (ga gb:Nat) (W:World) (hga:W.heap[ga]?=some (.cells #[A] 22)) (hgb:W.heap[gb]?=some (.cells #[B] 22)) (ha:zag za1 W (Old W) A ta) (hb:zag za1 W (Old W) B tb) (han:ta.length≤2097152) (hbn:tb.length≤2097152):
 Calls Tryz.prog 123 #[.string x,.pointer (some ⟨ga,0,none⟩),.pointer (some ⟨gb,0,none⟩)] W (zcd srcE (zcm (zbn x ta),zcm (zbn x tb)) W):=by
 obtain ⟨W0,hW0⟩:∃ W0,W0=W.alloc (.cells #[.int .i64 0,.int .i64 0] 138):=⟨_,rfl⟩
 have b0:Below W.heap.size W W0:=by rw [hW0];exact za5 _ _
 have u0:W0.heap[W.heap.size]?=some (.cells #[.int .i64 0,.int .i64 0] 138):=by rw [hW0];exact zaf _ _ rfl
 have ca:W0.cell? ⟨ga,0,none⟩=some A:=zad ((b0.block _ (zaa hga)).trans hga) 0 rfl
 have cb:W0.cell? ⟨gb,0,none⟩=some B:=zad ((b0.block _ (zaa hgb)).trans hgb) 0 rfl
 have HA:=Lib.hid (zqb A ta x (Old W0) W0.drew (ha.stays (P':=Old W0) (w':=W0.drew) (fun g hg=>⟨Nat.lt_of_lt_of_le hg b0.size,b0.block g hg⟩)) han)
 have HB:=Lib.hid (zqb B tb x (Old W0) W0.drew (hb.stays (P':=Old W0) (w':=W0.drew) (fun g hg=>⟨Nat.lt_of_lt_of_le hg b0.size,b0.block g hg⟩)) hbn)
 have HWF:=Lib.hid (And.intro (znq (t:=x) han) (znq (t:=x) hbn))
 obtain ⟨za,hza⟩:∃ z,z=zcm (zbn x ta):=⟨_,rfl⟩
 obtain ⟨zb,hzb⟩:∃ z,z=zcm (zbn x tb):=⟨_,rfl⟩
 rw [← hza] at HA HWF ⊢
 rw [← hzb] at HB HWF ⊢
 obtain ⟨pa,ka,rfl⟩:=ha.slice
 obtain ⟨pb,kb,rfl⟩:=hb.slice
 have HW:=Lib.hid hW0
 have hga2:=zaa hga
 have hgb2:=zaa hgb
 clear hW0 ha hb hga hgb hza hzb
 go_enter Tryz.func123,Tryz.ntmps123
 go_upto_region 1 with fail
 rw [← HW.out]
 refine wp_region_held_drew (S:=fun W'=>W'.cell? ⟨ga,0,none⟩=some (.slice pa ta.length ka)∧W'.cell? ⟨gb,0,none⟩=some (.slice pb tb.length kb)) (by kernel_rfl) ⟨ca,cb⟩ (fun hh=>?_)
 clear hh
 have bw:=b0.drew
 replace ca:W0.drew.cell? ⟨ga,0,none⟩=some (.slice pa ta.length ka):=ca
 replace cb:W0.drew.cell? ⟨gb,0,none⟩=some (.slice pb tb.length kb):=cb
 replace u0:W0.drew.heap[W.heap.size]?=some (.cells #[.int .i64 0,.int .i64 0] 138):=u0
 clear b0 HW
 generalize W0.drew=wD at*
 refine tk (i:=0) (v:=.slice pa ta.length ka) rfl (Or.inl ⟨by rfl,fun W' h=>by have c0:=h.1;go_simp⟩) (⟨ca,cb⟩) ?_
 refine tg (i:=1) (.string x) rfl (⟨ca,cb⟩) ?_
 refine tk (i:=3) (v:=.slice pb tb.length kb) rfl (Or.inl ⟨by rfl,fun W' h=>by have c0:=h.2;go_simp⟩) (⟨ca,cb⟩) ?_
 refine tg (i:=4) (.string x) rfl (⟨ca,cb⟩) ?_
 refine tr 2 rfl (fun K hK=>?_)
 rw [if_pos (by rfl)]
 go_simp
 refine HA.out.mono ?_
 rintro e0 w3 ⟨rfl,e3⟩
 subst e3
 refine hK.out _ _ (⟨ca,cb⟩) (fun _=>?_)
 clear hK K
 try simp only [putS]
 refine tr 5 rfl (fun K hK=>?_)
 rw [if_pos (by rfl)]
 go_simp
 refine HB.out.mono ?_
 rintro e0 w4 ⟨rfl,e4⟩
 subst e4
 refine hK.out _ _ (⟨ca,cb⟩) (fun _=>?_)
 clear hK K
 try simp only [putS]
 refine tg (i:=6) (.agg #[.int .i64 za,.int .i64 zb]) rfl (⟨ca,cb⟩) ?_
 refine tr 7 rfl (fun K hK=>?_)
 try rw [if_pos (by rfl)]
 refine zc7 (.tmp 4) (.tmp 11) W.heap.size 138 138 _ [.int .i64 za,.int .i64 zb] 2 u0 rfl rfl rfl rfl zhx rfl (z1j _ _) ?_
 intro w5 o5 u5
 have bX:=zam bw o5 (Nat.le_refl _) bw.size
 replace ca:=(World.cell?_of_block (a:=⟨ga,0,none⟩) (o5.block ga (by have:=hga2;have:=bw.size;omega) (by omega))).trans ca
 replace cb:=(World.cell?_of_block (a:=⟨gb,0,none⟩) (o5.block gb (by have:=hgb2;have:=bw.size;omega) (by omega))).trans cb
 refine hK.out _ _ (⟨ca,cb⟩) (fun _=>?_)
 clear hK K
 try simp only [putS]
 refine wpAnyH_done (by kernel_rfl) ?_ _
 go_wp2_with fail
 exact bodyPost_ret (results_cell_row (p:=4) (ty:=138) Tryz.results123 _ _ W.heap.size 138 _ (0,0) _ rfl u5 Tryz.underlying138 rfl zhx) rfl ⟨_,[_,_],rfl,rfl,⟨rfl,HWF.out⟩,bX⟩
theorem z3t {w w1 w2 w3:World} {d:List Value} {v:Val} {b:Nat} (h:zc3 w2 (New w1 w2) d v) (h1:w.heap.size≤w1.heap.size) (o:Only b w2 w3) (hb:b < w1.heap.size):zc3 w3 (New w w3) d v:=
 valE.stays (P:=New w1 w2) (P':=New w w3) (fun x hx=>⟨⟨Nat.le_trans h1 hx.1,Nat.lt_of_lt_of_le hx.2 o.size⟩,o.block x hx.2 (fun e=>by have:=hx.1;omega)⟩) h
def mrg (c:Val) (d:Val):Val:=if isB c then c else d
theorem zyg (vars ta tb:List ByteArray) (v A B:Value) (W:World) (hv:zag za1 W (Old W) v vars) (ha:zag za1 W (Old W) A ta) (hb:zag za1 W (Old W) B tb) (hvn:vars.length≤2097152) (han:ta.length≤2097152) (hbn:tb.length≤2097152):
 Calls Tryz.prog 74 #[v,A,B] W (zbo srcE 138 W (srcP vars ta tb)):=by
 obtain ⟨p,k,rfl⟩:=hv.slice
 obtain ⟨pa,ka,rfl⟩:=ha.slice
 obtain ⟨pb,kb,rfl⟩:=hb.slice
 obtain ⟨W1,hW1⟩:∃ W1,W1=(W.alloc (.cells #[.slice pa ta.length ka] 22)).alloc (.cells #[.slice pb tb.length kb] 22):=⟨_,rfl⟩
 have b1:Below W.heap.size W W1:=by rw [hW1];exact zdb _ _ _
 have u1:W1.heap[W.heap.size]?=some (.cells #[.slice pa ta.length ka] 22):=by rw [hW1];exact zap _ (zaf _ _ rfl)
 have u2:W1.heap[W.heap.size+1]?=some (.cells #[.slice pb tb.length kb] 22):=by rw [hW1];exact zaf _ _ (by simp)
 have hm:=(map122 (.pointer (some ⟨W.heap.size,0,none⟩)) (.pointer (some ⟨W.heap.size+1,0,none⟩)) (fun v=>(zcm (zbn v ta),zcm (zbn v tb))) vars (.slice p vars.length k) W1 (hv.stays (zae b1)) hvn (fun x hx W' c hb2 hr=>by
  have hb3:=zab b1 hb2 b1.size
  exact zyf x _ _ ta tb W.heap.size (W.heap.size+1) W' ((hb2.block _ (zaa u1)).trans u1) ((hb2.block _ (zaa u2)).trans u2) (ha.stays (zae hb3)) (hb.stays (zae hb3)) han hbn)).mono (fun e w' h=>zbo.before b1 h)
 have HM:=Lib.hid hm
 have HW:=Lib.hid hW1
 clear hm hW1 hv ha hb u1 u2 b1
 go_enter Tryz.func74,Tryz.ntmps74
 go_upto_region 1 with fail
 rw [← HW.out]
 go_wp2_with (first
  |(go_at_call 122;(with_reducible refine HM.out.mono ?_);rintro e w1 ⟨V2,xs,rfl,hown,hrow,hb⟩;have hown2:=hown;rw [List.length_map] at hown2;obtain ⟨p2,k2,rfl⟩:=zau hown2))
 go_ret
 exact ⟨_,xs,rfl,hown,hrow,hb⟩
theorem zyh (a b:List Val) (s:Int × Int) (A B:Value) (ga gb:Nat) (W:World) (hga:W.heap[ga]?=some (.cells #[A] 43)) (hgb:W.heap[gb]?=some (.cells #[B] 43)) (ha:zag valE W (Old W) A a) (hb:zag valE W (Old W) B b) (hs1:zqe a.length s.1) (hs2:zqe b.length s.2):
 Calls Tryz.prog 131 #[.agg #[.int .i64 s.1,.int .i64 s.2],.pointer (some ⟨ga,0,none⟩),.pointer (some ⟨gb,0,none⟩)] W (zcd valE (zrg a b s) W):=by
 obtain ⟨s1,s2⟩:=s
 obtain ⟨W0,hW0⟩:∃ W0,W0=(W.alloc (.cells #[.int .i64 s1,.int .i64 s2] 138)).alloc (.cells #[.int .i64 0,.bool false,.int .i64 0,.string ⟨#[]⟩,.string ⟨#[]⟩,.slice none 0 0] 48):=⟨_,rfl⟩
 have b0:Below W.heap.size W W0:=by rw [hW0];exact zdb _ _ _
 have v0:W0.heap[W.heap.size]?=some (.cells #[.int .i64 s1,.int .i64 s2] 138):=by rw [hW0];exact zap _ (zaf _ _ rfl)
 have u0:W0.heap[W.heap.size+1]?=some (.cells #[.int .i64 0,.bool false,.int .i64 0,.string ⟨#[]⟩,.string ⟨#[]⟩,.slice none 0 0] 48):=by rw [hW0];exact zaf _ _ (by simp)
 have ca:W0.cell? ⟨ga,0,none⟩=some A:=zad ((b0.block _ (zaa hga)).trans hga) 0 rfl
 have cb:W0.cell? ⟨gb,0,none⟩=some B:=zad ((b0.block _ (zaa hgb)).trans hgb) 0 rfl
 have H1:Hid (∀ w',Below W0.heap.size W0 w'→Calls Tryz.prog 117 #[A,.int .i64 s1] w' fun e w2=>∃ d,e=.returned (.agg d.toArray)∧zc3 w2 (Old W) d (zfx a s1)∧Below w'.heap.size w' w2):=Lib.hid fun w' h=>by
  have h2:=zab b0 h b0.size
  exact zuj a A s1 (Old W) w' (fun x hx=>Nat.lt_of_lt_of_le hx h2.size) (ha.stays (fun x hx=>⟨hx,h2.block x hx⟩)) hs1
 have H2:Hid (∀ w',Below W0.heap.size W0 w'→Calls Tryz.prog 117 #[B,.int .i64 s2] w' fun e w2=>∃ d,e=.returned (.agg d.toArray)∧zc3 w2 (Old W) d (zfx b s2)∧Below w'.heap.size w' w2):=Lib.hid fun w' h=>by
  have h2:=zab b0 h b0.size
  exact zuj b B s2 (Old W) w' (fun x hx=>Nat.lt_of_lt_of_le hx h2.size) (hb.stays (fun x hx=>⟨hx,h2.block x hx⟩)) hs2
 have e:zrg a b (s1,s2)=mrg (zfx a s1) (zfx b s2):=rfl
 rw [e]
 generalize zfx a s1=va at H1 ⊢
 generalize zfx b s2=vb at H2 ⊢
 obtain ⟨pa,ka,rfl⟩:=ha.slice
 obtain ⟨pb,kb,rfl⟩:=hb.slice
 have c1:=zad v0 0 rfl
 have HV:=Lib.hid v0
 have hz0:W0.heap.size=W.heap.size+2:=by rw [hW0];simp
 have HW:=Lib.hid hW0
 clear hW0 ha hb hga hgb e hs1 hs2 v0
 go_enter Tryz.func131,Tryz.ntmps131
 go_upto_region 1 with fail
 rw [← HW.out]
 go_upto_region 2 with (first
  |(go_at_call 117;(with_reducible refine (H1.out W0 (Below.refl _ _)).mono ?_);rintro e w1 ⟨d,rfl,hd,hb1⟩;have hld:d.length=6:=valE.len hd;have hod:=valE.one hd;have HD:=Lib.hid hd;clear hd)
  |((with_reducible refine za0 (.tmp 5) (.tmp 9) w1.heap.size 48 48 _ d 6 (zaf _ _ rfl) hld ?_ ?_ ?_ ?_ zao rfl hod ?_);rfl;rfl;rfl;rfl;intro wX oX uX))
 have bX:Below W0.heap.size W0 wX:=zab hb1 (zam (za5 w1 _) oX (Nat.le_refl _) (by simp)) hb1.size
 have hz1:=hb1.size
 have hdX:zc3 wX (Old W) d va:=valE.stays (fun x hx=>⟨hx,(oX.block x (by have:x < W.heap.size:=hx;simp;omega) (by have:x < W.heap.size:=hx;omega)).trans (Below.heap_alloc _ _ _ (by have:x < W.heap.size:=hx;omega))⟩) HD.out
 have hld2:d.toArray.size=6:=by simp [hld]
 have H3:=Lib.hid (zd0 va wX d (Old W) hdX)
 obtain ⟨q,hq⟩:∃ q,q=isB va:=⟨_,rfl⟩
 rw [← hq] at H3
 have HQ:=Lib.hid hq
 have HDX:=Lib.hid hdX
 have HX:=Lib.hid uX
 have g5:W0.heap.size≤w1.heap.size:=hz1
 clear hq hdX oX HD hb1 ca c1
 cases q with
 | true=>
   go_upto_region 4 with (first
    |((with_reducible refine zai (.tmp 5) w1.heap.size 48 48 d 6 _ uX hld Tryz.underlying48 rfl zao ?_ ?_ ?_ ?_);rfl;rfl;rfl)
    |(go_at_call 126;(with_reducible refine H3.out.mono ?_);rintro e w3 ⟨rfl,h3⟩))
   have uY:=(h3.block _ (zaa HX.out)).trans HX.out
   have bY:=zab bX h3.is bX.size
   have H4:=Lib.hid (zuh va w3 d (valE.stays (fun x hx=>⟨Nat.lt_of_lt_of_le hx (Nat.le_trans b0.size bY.size),h3.block x (by have:x < W.heap.size:=hx;have:=bX.size;omega)⟩) HDX.out))
   have em:mrg va vb=va:=by unfold mrg;rw [← HQ.out];rfl
   clear uX h3 bX HDX
   go_wp2_with (first
    |((with_reducible refine zai (.tmp 5) w1.heap.size 48 48 d 6 _ uY hld Tryz.underlying48 rfl zao ?_ ?_ ?_ ?_);rfl;rfl;rfl)
    |(go_at_call 116;(with_reducible refine H4.out.mono ?_);rintro e w5 ⟨v5,d5,rfl,e5,hd5,hb5⟩;obtain rfl:v5=.agg d5.toArray:=z3s hd5 e5;have b5:=zab bY hb5 bY.size;have u5:=(b5.block _ (zaa u0)).trans u0;have hl5:d5.length=6:=valE.len hd5;have ho5:=valE.one hd5;have HD5:=Lib.hid hd5;clear hd5)
    |((with_reducible refine za0 (.tmp 4) (.tmp 18) (W.heap.size+1) 48 48 _ d5 6 u5 hl5 ?_ ?_ ?_ ?_ zao rfl ho5 ?_);rfl;rfl;rfl;rfl;intro wW oW uW))
   have zb:=bY.size
   have bW:=zam (zab b0 b5 b0.size) oW (Nat.le_succ _) (zab b0 b5 b0.size).size
   exact bodyPost_ret (results_cell_row (p:=4) (ty:=48) Tryz.results131 _ _ (W.heap.size+1) 48 d5.toArray (0,0) _ rfl uW Tryz.underlying48 rfl (by rw [zao];simp [hl5])) rfl ⟨_,d5,rfl,rfl,(by rw [em];exact z3t HD5.out (by omega) oW (by omega)),bW⟩
 | false=>
   go_upto_region 3 with (first
    |((with_reducible refine zai (.tmp 5) w1.heap.size 48 48 d 6 _ uX hld Tryz.underlying48 rfl zao ?_ ?_ ?_ ?_);rfl;rfl;rfl)
    |(go_at_call 126;(with_reducible refine H3.out.mono ?_);rintro e w3 ⟨rfl,h3⟩))
   have uY:=(h3.block _ (zaa HX.out)).trans HX.out
   have bY:=zab bX h3.is bX.size
   have cb3:=zav cb bY
   have c13:=zad ((bY.block _ (by omega)).trans HV.out) 1 rfl
   have em:mrg va vb=vb:=by unfold mrg;rw [← HQ.out];rfl
   clear uX h3 bX HDX cb
   go_upto_region 4 with (first
    |(go_at_call 117;(with_reducible refine (H2.out _ bY).mono ?_);rintro e w4 ⟨d4,rfl,hd4,hb4⟩;have hl4:d4.length=6:=valE.len hd4;have ho4:=valE.one hd4;have HD4:=Lib.hid hd4;clear hd4;have uZ:=(hb4.block _ (zaa uY)).trans uY)
    |((with_reducible refine za0 (.tmp 5) (.tmp 16) w1.heap.size 48 48 _ d4 6 uZ hl4 ?_ ?_ ?_ ?_ zao hld2 ho4 ?_);rfl;rfl;rfl;rfl;intro wZ oZ vZ))
   have b4:=zab bY hb4 bY.size
   have bZ:Below W0.heap.size W0 wZ:=zam b4 oZ g5 b4.size
   have hz3:=bY.size
   have H4:=Lib.hid (zuh vb wZ d4 (valE.stays (fun x hx=>⟨Nat.lt_of_lt_of_le hx (Nat.le_trans b0.size bZ.size),oZ.block x (by have:x < W.heap.size:=hx;have:=hb4.size;omega) (by have:x < W.heap.size:=hx;omega)⟩) HD4.out))
   clear uY uZ bY hb4 b4 cb3 c13 HD4
   go_wp2_with (first
    |((with_reducible refine zai (.tmp 5) w1.heap.size 48 48 d4 6 _ vZ hl4 Tryz.underlying48 rfl zao ?_ ?_ ?_ ?_);rfl;rfl;rfl)
    |(go_at_call 116;(with_reducible refine H4.out.mono ?_);rintro e w5 ⟨v5,d5,rfl,e5,hd5,hb5⟩;obtain rfl:v5=.agg d5.toArray:=z3s hd5 e5;have b5:=zab bZ hb5 bZ.size;have u5:=(b5.block _ (zaa u0)).trans u0;have hl5:d5.length=6:=valE.len hd5;have ho5:=valE.one hd5;have HD5:=Lib.hid hd5;clear hd5)
    |((with_reducible refine za0 (.tmp 4) (.tmp 18) (W.heap.size+1) 48 48 _ d5 6 u5 hl5 ?_ ?_ ?_ ?_ zao rfl ho5 ?_);rfl;rfl;rfl;rfl;intro wW oW uW))
   have zb:=bZ.size
   have bW:=zam (zab b0 b5 b0.size) oW (Nat.le_succ _) (zab b0 b5 b0.size).size
   exact bodyPost_ret (results_cell_row (p:=4) (ty:=48) Tryz.results131 _ _ (W.heap.size+1) 48 d5.toArray (0,0) _ rfl uW Tryz.underlying48 rfl (by rw [zao];simp [hl5])) rfl ⟨_,d5,rfl,rfl,(by rw [em];exact z3t HD5.out (by omega) oW (by omega)),bW⟩
theorem z1k (a b:List Val) (src:List (Int × Int)) (A B S:Value) (W:World) (ha:zag valE W (Old W) A a) (hb:zag valE W (Old W) B b) (hs:zag srcE W (Old W) S src) (hok:∀ s∈src,zqe a.length s.1∧zqe b.length s.2) (hn:src.length≤2097152):
 Calls Tryz.prog 78 #[A,B,S] W (zcd rowE (src.map (zrg a b)) W):=by
 obtain ⟨pa,ka,rfl⟩:=ha.slice
 obtain ⟨pb,kb,rfl⟩:=hb.slice
 obtain ⟨ps,ks,rfl⟩:=hs.slice
 obtain ⟨W1,hW1⟩:∃ W1,W1=(W.alloc (.cells #[.slice pa a.length ka] 43)).alloc (.cells #[.slice pb b.length kb] 43):=⟨_,rfl⟩
 have b1:Below W.heap.size W W1:=by rw [hW1];exact zdb _ _ _
 have u1:W1.heap[W.heap.size]?=some (.cells #[.slice pa a.length ka] 43):=by rw [hW1];exact zap _ (zaf _ _ rfl)
 have u2:W1.heap[W.heap.size+1]?=some (.cells #[.slice pb b.length kb] 43):=by rw [hW1];exact zaf _ _ (by simp)
 have hm:=(map130 (.pointer (some ⟨W.heap.size,0,none⟩)) (.pointer (some ⟨W.heap.size+1,0,none⟩)) (zrg a b) src (.slice ps src.length ks) W1 (hs.stays (zae b1)) hn (fun x hx W' c hb2 hr=>by
  have hb3:=zab b1 hb2 b1.size
  obtain ⟨rfl,_⟩:=hr
  exact zyh a b x _ _ W.heap.size (W.heap.size+1) W' ((hb2.block _ (zaa u1)).trans u1) ((hb2.block _ (zaa u2)).trans u2) (ha.stays (zae hb3)) (hb.stays (zae hb3)) (hok x hx).1 (hok x hx).2)).mono (fun e w' h=>zbo.before b1 h)
 have HM:=Lib.hid hm
 have HW:=Lib.hid hW1
 clear hm hW1 ha hb hs u1 u2 b1
 go_enter Tryz.func78,Tryz.ntmps78
 go_upto_region 1 with fail
 rw [← HW.out]
 go_wp2_with (first
  |(go_at_call 130;(with_reducible refine HM.out.mono ?_);rintro e w1 ⟨V2,xs,rfl,hown,hrow,hb⟩;have hown2:=hown;rw [List.length_map] at hown2;obtain ⟨p2,k2,rfl⟩:=zau hown2))
 go_ret
 exact ⟨_,[_],rfl,rfl,⟨_,rfl,zbo.slice hown hrow,zda hown,by simpa using hn⟩,hb⟩
theorem za6 {P:Program} {w:World} {ops:Array Oper} {rest:List Oper} {o:Oper} {a:Act} {Q:Exit→Act→World→Prop} (hgd:o.guard=none) (s x:Operand) (t:TypeId)
 (ho:o.op=.call { callee:=.builtin .append,args:=#[s,x],argTypes:=#[t,t] })
 (base:Nat) (e:TypeId) (i:TypeInfo) (z:Value) (size bytes:Nat) (ht:P.underlying t=some (.slice e)) (hi:P.info? e=some i) (hz:i.zero=some z)
 (hsize:i.size=size) (hby:i.bytes=bytes) (hzs:z.cells.size=size) (hsz:0 < size)
 (v:Value) (n:Nat) (xs:List Value) (hs:a.eval s=v) (hown:w.ownsRow base e size v n xs)
 (ao:Option Addr) (m c:Nat) (news:List Value) (hx:a.eval x=.slice ao m c) (hl:news.length=m*size) (hnone:ao=none→m=0∧c=0) (hnews:∀ ad,ao=some ad→∀ (j:Nat) (u:Value),news[j]?=some u→w.cell? (ad.add j)=some u) (h1:∀ u∈news,u.oneCell'=true)
 (h63:n+m≤maxLen) (hbytes:(n+m)*bytes≤140737488355328) (hbase:base≤w.heap.size)
 (h:∀ v' w',w'.ownsRow base e size v' (n+m) (xs++news)→w.grownBy w' v.ownBlock→(v'.ownBlock=v.ownBlock∨v'.ownBlock=some w.heap.size)→wpList P ops Q rest (a.put o.dst v') w'):wpList P ops Q (o::rest) a w:=by
 cases ao with
 | some ad=>exact wpList_append_own_at w hgd s x t ho base e i z size bytes ht hi hz hsize hby hzs hsz v n xs hs hown ad m c news hx hl (hnews ad rfl) h1 h63 hbytes hbase fun v' w' h2 h3 _ h5=>h v' w' h2 h3 h5
 | none=>
   obtain ⟨rfl,rfl⟩:=hnone rfl
   have hn:news=[]:=List.eq_nil_of_length_eq_zero (by simpa using hl)
   subst hn
   refine wpList_append_own_none hgd s x t ho base e i size ht hi v n xs hs hown hx (h v w ?_ (World.grownBy.refl _ _) (.inl rfl))
   simpa using hown
theorem zbr {w:World} {base size n m:Nat} {e:TypeId} {v:Value} {xs:List Value} (h:w.ownsRow base e size v n xs) (q:n=m):w.ownsRow base e size v m xs:=q ▸ h
theorem zag.news {α:Type} {E:Elem α} {w:World} {P:Nat→Prop} {p:Option Addr} {n cap:Nat} {l:List α} (h:zag E w P (.slice p n cap) l):∃ xs,xs.length=l.length*E.k∧RowE E w P xs l∧∀ ad,p=some ad→∀ (j:Nat) (u:Value),xs[j]?=some u→w.cell? (ad.add j)=some u:=by
 obtain ⟨p',cap',e,h⟩:=h
 cases e
 by_cases q:l=[]
 ·subst q
  exact ⟨[],by simp,RowE.nil,fun ad _ j u hu=>by simp at hu⟩
 ·obtain ⟨g,off,xs,rfl,_,hr,he⟩:=h q
  refine ⟨xs,he.len l,he,fun ad e j u hu=>?_⟩
  cases e
  rw [Addr.add_mid]
  exact hr j u hu
theorem AccB.more {β:Type} {E:Elem β} {D:TypeId} {P:Nat→Prop} {w wr w5:World} {A A2:Value} {xs ys:List Value} {bs cs:List β} (hP:∀ x,P x→x < w.heap.size) (hown:wr.ownsRow w.heap.size D E.k A bs.length xs) (hrow:RowE E wr P xs bs) (hbel:Below w.heap.size w wr)
 (hc:RowE E wr P ys cs) (hown':w5.ownsRow w.heap.size D E.k A2 (bs.length+cs.length) (xs++ys)) (hg:wr.grownBy w5 A.ownBlock):AccB E D P w (bs++cs) A2 w5:=by
 have s0:=hbel.size
 have off:∀ g,P g→w5.heap[g]?=wr.heap[g]?:=fun g h=>by
  have hlt:=hP g h
  exact hg.block g (by omega) (fun e=>by have:=(hown.lt g e.symm).1;omega)
 exact ⟨⟨xs++ys,by simpa using hown',RowE.append bs cs (hrow.stays (fun g h=>⟨h,off g h⟩)) (hc.stays (fun g h=>⟨h,off g h⟩))⟩,hbel.grown hg (by omega) (fun g e=>(hown.lt g e).1)⟩
theorem z1l (B:Value) (q:ByteArray→Bool) (l:List ByteArray) (v:Value) (w:World) (h:zag za1 w (Old w) v l) (hn:l.length≤2097152)
 (each:∀ x∈l,∀ W c,Below w.heap.size w W→za1.rel W (Old W) c x→Calls Tryz.prog 119 #[.string x,B] W fun e w'=>e=.returned (.bool (q x))∧Below W.heap.size W w'):
 Calls Tryz.prog 118 #[v,.func (.func 119) #[] #[B]] w (zdy za1 9 (Old w) w (l.filter q)):=by
 obtain ⟨n,hln⟩:∃ n,n=l.length:=⟨_,rfl⟩
 obtain ⟨p,cap,rfl⟩:=h.slice
 rw [← hln] at hn
 obtain ⟨i0,hi,hz0,hz1,hz2⟩:=info_parts ze6
 have HL:=Lib.hid hln
 have HH:=Lib.hid h
 have HE:=Lib.hid each
 rw [← hln]
 clear h hln each
 go_enter Tryz.func118,Tryz.ntmps118
 go_wp2_with fail
 go_loopg [5,10] n (fun gg s5 s10 wr=>∃ j:Nat,j+gg=n∧s10=.int .i64 j∧Hid (AccB za1 9 (Old w) w ((l.take j).filter q) s5 wr))
 case atStart=>exact ⟨0,by omega,rfl,Lib.hid (AccB.startOwn za1 9 (Old w) (World.ownsRow_nil _ _ _ _) (Below.refl _ _))⟩
 case round=>
  obtain ⟨j,hjg,rfl,HA⟩:=hrel
  by_cases hlt:(j:Int) < n
  ·have hj1:j < l.length:=by have:=HL.out;omega
   have hbel:=HA.out.bel
   obtain ⟨g,off,cap',c,e0,hg,hrl,hra⟩:=(HH.out.stays (P':=Old w) (fun x hx=>⟨hx,hbel.block x hx⟩)).at_ j hj1
   injection e0 with e1 e2 e3
   subst e1
   replace hra:wr.rangeAt g (off+j*1) c:=hra
   have hjl:((l.take j).filter q).length≤j:=by have:=List.length_filter_le q (l.take j);rw [List.length_take] at this;omega
   have hold:=za1.stays (P':=Old wr) (fun x hx=>⟨Nat.lt_of_lt_of_le hx hbel.size,rfl⟩) hrl
   obtain ⟨rfl,hwf⟩:=id hrl
   have c0:wr.cell? ⟨g,off+j,none⟩=some (.string l[j]):=by
    have:=hra 0 _ rfl
    simpa using this
   have hcall:=HE.out l[j] (List.getElem_mem hj1) wr _ hbel hold
   obtain ⟨r,hr⟩:∃ r,r=q l[j]:=⟨_,rfl⟩
   rw [← hr] at hcall
   have HC:=Lib.hid hcall
   have HR:=Lib.hid hr
   have HD:=Lib.hid hrl
   clear hcall hr hra e2 e3 hbel hold hrl
   cases r with
   | false=>
     go_wp2_with (first
      |(go_at_call 119;(with_reducible refine HC.out.mono ?_);rintro e w3 ⟨rfl,hb3⟩))
     have HA2:Hid (AccB za1 9 (Old w) w ((l.take (j+1)).filter q) _ w3):=Lib.hid (by
      rw [List.take_succ_eq_append_getElem hj1,List.filter_append,show [l[j]].filter q=[] by simp [← HR.out],List.append_nil]
      obtain ⟨⟨xs,h1,h2⟩,h3⟩:=HA.out
      exact ⟨⟨xs,zbh h1 hb3,h2.stays (fun x hx=>⟨hx,hb3.block x (Nat.lt_of_lt_of_le hx h3.size)⟩)⟩,zab h3 hb3 h3.size⟩)
     clear hb3 HA
     go_roundg (gk - 1)
     case measure=>omega
     case rel=>exact ⟨j+1,by omega,by go_num,HA2⟩
   | true=>
     go_wp2_with (first
      |(go_at_call 119;(with_reducible refine HC.out.mono ?_);rintro e w3 ⟨rfl,hb3⟩
        obtain ⟨⟨xs,hown,hrow⟩,hbel⟩:=HA.out
        replace hown:wr.ownsRow w.heap.size 9 1 _ _ xs:=hown
        have hown3:=zbh hown hb3
        have hs3:=hb3.size
        have hsb:=hbel.size
        have HY:=Lib.hid (And.intro hown (And.intro hrow (And.intro hbel hb3)))
        clear hown hrow hbel hb3 HA)
      |(at_builtin;refine wpList_append_own_at _ rfl _ _ 132 rfl w.heap.size 9 i0 (.string ⟨#[]⟩) 1 16 Tryz.underlying132 hi hz0 hz1 hz2 rfl (by decide) _ _ _ rfl (hown3.alloc _) ⟨w3.heap.size,0,none⟩ 1 1 [.string l[j]] rfl rfl (zb1 _ _ _) (by simp [Value.oneCell']) ?_ ?_ ?_ ?_))
     all_goals (try (first |(unfold maxLen;omega) | omega |(simp;omega)))
     intro v' w5 hown' hgrow _ hloc
     have acc:AccB za1 9 (Old w) w ((l.take (j+1)).filter q) v' w5:=by
      rw [List.take_succ_eq_append_getElem hj1,List.filter_append,show [l[j]].filter q=[l[j]] by simp [← HR.out]]
      exact AccB.next (fun x hx=>hx) HY.out.1 HY.out.2.1 HY.out.2.2.1 (Below.refl _ _) HY.out.2.2.2 (za1.stays (P':=Old w) (fun x hx=>⟨hx,HY.out.2.2.2.block x (Nat.lt_of_lt_of_le hx HY.out.2.2.1.size)⟩) HD.out) hown' hgrow (by simpa using hloc)
     have ACC:=Lib.hid acc
     clear acc hown' hgrow hloc hown3 HY
     go_wp2_with fail
     go_roundg (gk - 1)
     case measure=>omega
     case rel=>exact ⟨j+1,by omega,by go_num,ACC⟩
  ·have e:l.take j=l:=by rw [List.take_of_length_le];have:=HL.out;omega
   have hA:=HA.out
   rw [e] at hA
   obtain ⟨⟨xs,hown,hrow⟩,hbel⟩:=hA
   have HX:=Lib.hid (And.intro hown (And.intro hrow hbel))
   clear hown hrow hbel HA
   go_wp2_with fail
   go_ret
   exact ⟨_,xs,rfl,HX.out.1,HX.out.2.1,HX.out.2.2⟩
theorem z1m (B:Value) (q:(List Val)→Bool) (l:List (List Val)) (v:Value) (w:World) (h:zag rowE w (Old w) v l) (hn:l.length≤2097152)
 (each:∀ x∈l,∀ W u,Below w.heap.size w W→rowE.rel W (Old W) [u] x→Calls Tryz.prog 80 #[u,B] W fun e w'=>e=.returned (.bool (q x))∧Below W.heap.size W w'):
 Calls Tryz.prog 70 #[v,.func (.func 80) #[] #[B]] w (zdy rowE 43 (Old w) w (l.filter q)):=by
 obtain ⟨n,hln⟩:∃ n,n=l.length:=⟨_,rfl⟩
 obtain ⟨p,cap,rfl⟩:=h.slice
 rw [← hln] at hn
 obtain ⟨i0,hi,hz0,hz1,hz2⟩:=info_parts zhw
 have HL:=Lib.hid hln
 have HH:=Lib.hid h
 have HE:=Lib.hid each
 rw [← hln]
 clear h hln each
 go_enter Tryz.func70,Tryz.ntmps70
 go_wp2_with fail
 go_loopg [5,10] n (fun gg s5 s10 wr=>∃ j:Nat,j+gg=n∧s10=.int .i64 j∧Hid (AccB rowE 43 (Old w) w ((l.take j).filter q) s5 wr))
 case atStart=>exact ⟨0,by omega,rfl,Lib.hid (AccB.startOwn rowE 43 (Old w) (World.ownsRow_nil _ _ _ _) (Below.refl _ _))⟩
 case round=>
  obtain ⟨j,hjg,rfl,HA⟩:=hrel
  by_cases hlt:(j:Int) < n
  ·have hj1:j < l.length:=by have:=HL.out;omega
   have hbel:=HA.out.bel
   obtain ⟨g,off,cap',c,e0,hg,hrl,hra⟩:=(HH.out.stays (P':=Old w) (fun x hx=>⟨hx,hbel.block x hx⟩)).at_ j hj1
   injection e0 with e1 e2 e3
   subst e1
   replace hra:wr.rangeAt g (off+j*1) c:=hra
   have hjl:((l.take j).filter q).length≤j:=by have:=List.length_filter_le q (l.take j);rw [List.length_take] at this;omega
   have hold:=rowE.stays (P':=Old wr) (fun x hx=>⟨Nat.lt_of_lt_of_le hx hbel.size,rfl⟩) hrl
   obtain ⟨u,rfl⟩:∃ u,c=[u]:=by obtain ⟨v,rfl,_⟩:=id hrl;exact ⟨v,rfl⟩
   have c0:wr.cell? ⟨g,off+j,none⟩=some u:=by
    have:=hra 0 _ rfl
    simpa using this
   have hcall:=HE.out l[j] (List.getElem_mem hj1) wr u hbel hold
   obtain ⟨pu,nu,ku,rfl⟩:∃ p n k,u=.slice p n k:=by
    obtain ⟨v,e,hs,_⟩:=hrl
    cases e
    obtain ⟨p,k,rfl⟩:=hs.slice
    exact ⟨_,_,_,rfl⟩
   obtain ⟨r,hr⟩:∃ r,r=q l[j]:=⟨_,rfl⟩
   rw [← hr] at hcall
   have HC:=Lib.hid hcall
   have HR:=Lib.hid hr
   have HD:=Lib.hid hrl
   clear hcall hr hra e2 e3 hbel hold hrl
   cases r with
   | false=>
     go_wp2_with (first
      |(go_at_call 80;(with_reducible refine HC.out.mono ?_);rintro e w3 ⟨rfl,hb3⟩))
     have HA2:Hid (AccB rowE 43 (Old w) w ((l.take (j+1)).filter q) _ w3):=Lib.hid (by
      rw [List.take_succ_eq_append_getElem hj1,List.filter_append,show [l[j]].filter q=[] by simp [← HR.out],List.append_nil]
      obtain ⟨⟨xs,h1,h2⟩,h3⟩:=HA.out
      exact ⟨⟨xs,zbh h1 hb3,h2.stays (fun x hx=>⟨hx,hb3.block x (Nat.lt_of_lt_of_le hx h3.size)⟩)⟩,zab h3 hb3 h3.size⟩)
     clear hb3 HA
     go_roundg (gk - 1)
     case measure=>omega
     case rel=>exact ⟨j+1,by omega,by go_num,HA2⟩
   | true=>
     go_wp2_with (first
      |(go_at_call 80;(with_reducible refine HC.out.mono ?_);rintro e w3 ⟨rfl,hb3⟩
        obtain ⟨⟨xs,hown,hrow⟩,hbel⟩:=HA.out
        replace hown:wr.ownsRow w.heap.size 43 1 _ _ xs:=hown
        have hown3:=zbh hown hb3
        have hs3:=hb3.size
        have hsb:=hbel.size
        have HY:=Lib.hid (And.intro hown (And.intro hrow (And.intro hbel hb3)))
        clear hown hrow hbel hb3 HA)
      |(at_builtin;refine wpList_append_own_at _ rfl _ _ 79 rfl w.heap.size 43 i0 (.slice none 0 0) 1 24 Tryz.underlying79 hi hz0 hz1 hz2 rfl (by decide) _ _ _ rfl (hown3.alloc _) ⟨w3.heap.size,0,none⟩ 1 1 [.slice pu nu ku] rfl rfl (zb1 _ _ _) (by simp [Value.oneCell']) ?_ ?_ ?_ ?_))
     all_goals (try (first |(unfold maxLen;omega) | omega |(simp;omega)))
     intro v' w5 hown' hgrow _ hloc
     have acc:AccB rowE 43 (Old w) w ((l.take (j+1)).filter q) v' w5:=by
      rw [List.take_succ_eq_append_getElem hj1,List.filter_append,show [l[j]].filter q=[l[j]] by simp [← HR.out]]
      exact AccB.next (fun x hx=>hx) HY.out.1 HY.out.2.1 HY.out.2.2.1 (Below.refl _ _) HY.out.2.2.2 (rowE.stays (P':=Old w) (fun x hx=>⟨hx,HY.out.2.2.2.block x (Nat.lt_of_lt_of_le hx HY.out.2.2.1.size)⟩) HD.out) hown' hgrow (by simpa using hloc)
     have ACC:=Lib.hid acc
     clear acc hown' hgrow hloc hown3 HY
     go_wp2_with fail
     go_roundg (gk - 1)
     case measure=>omega
     case rel=>exact ⟨j+1,by omega,by go_num,ACC⟩
  ·have e:l.take j=l:=by rw [List.take_of_length_le];have:=HL.out;omega
   have hA:=HA.out
   rw [e] at hA
   obtain ⟨⟨xs,hown,hrow⟩,hbel⟩:=hA
   have HX:=Lib.hid (And.intro hown (And.intro hrow hbel))
   clear hown hrow hbel HA
   go_wp2_with fail
   go_ret
   exact ⟨_,xs,rfl,HX.out.1,HX.out.2.1,HX.out.2.2⟩
theorem z1n (B B2:Value) (q:Int→Bool) (l:List Int) (v:Value) (w:World) (h:zag intE w (Old w) v l) (hn:l.length≤2097152)
 (each:∀ x∈l,∀ W c,Below w.heap.size w W→intE.rel W (Old W) c x→Calls Tryz.prog 176 #[.int .i64 x,B,B2] W fun e w'=>e=.returned (.bool (q x))∧Below W.heap.size W w'):
 Calls Tryz.prog 175 #[v,.func (.func 176) #[] #[B,B2]] w (zdy intE 3 (Old w) w (l.filter q)):=by
 obtain ⟨n,hln⟩:∃ n,n=l.length:=⟨_,rfl⟩
 obtain ⟨p,cap,rfl⟩:=h.slice
 rw [← hln] at hn
 obtain ⟨i0,hi,hz0,hz1,hz2⟩:=info_parts zee
 have HL:=Lib.hid hln
 have HH:=Lib.hid h
 have HE:=Lib.hid each
 rw [← hln]
 clear h hln each
 go_enter Tryz.func175,Tryz.ntmps175
 go_wp2_with fail
 go_loopg [5,10] n (fun gg s5 s10 wr=>∃ j:Nat,j+gg=n∧s10=.int .i64 j∧Hid (AccB intE 3 (Old w) w ((l.take j).filter q) s5 wr))
 case atStart=>exact ⟨0,by omega,rfl,Lib.hid (AccB.startOwn intE 3 (Old w) (World.ownsRow_nil _ _ _ _) (Below.refl _ _))⟩
 case round=>
  obtain ⟨j,hjg,rfl,HA⟩:=hrel
  by_cases hlt:(j:Int) < n
  ·have hj1:j < l.length:=by have:=HL.out;omega
   have hbel:=HA.out.bel
   obtain ⟨g,off,cap',c,e0,hg,hrl,hra⟩:=(HH.out.stays (P':=Old w) (fun x hx=>⟨hx,hbel.block x hx⟩)).at_ j hj1
   injection e0 with e1 e2 e3
   subst e1
   replace hra:wr.rangeAt g (off+j*1) c:=hra
   have hjl:((l.take j).filter q).length≤j:=by have:=List.length_filter_le q (l.take j);rw [List.length_take] at this;omega
   have hold:=intE.stays (P':=Old wr) (fun x hx=>⟨Nat.lt_of_lt_of_le hx hbel.size,rfl⟩) hrl
   obtain ⟨rfl,hwf⟩:=id hrl
   have c0:wr.cell? ⟨g,off+j,none⟩=some (.int .i64 l[j]):=by
    have:=hra 0 _ rfl
    simpa using this
   have hcall:=HE.out l[j] (List.getElem_mem hj1) wr _ hbel hold
   obtain ⟨r,hr⟩:∃ r,r=q l[j]:=⟨_,rfl⟩
   rw [← hr] at hcall
   have HC:=Lib.hid hcall
   have HR:=Lib.hid hr
   have HD:=Lib.hid hrl
   clear hcall hr hra e2 e3 hbel hold hrl
   cases r with
   | false=>
     go_wp2_with (first
      |(go_at_call 176;(with_reducible refine HC.out.mono ?_);rintro e w3 ⟨rfl,hb3⟩))
     have HA2:Hid (AccB intE 3 (Old w) w ((l.take (j+1)).filter q) _ w3):=Lib.hid (by
      rw [List.take_succ_eq_append_getElem hj1,List.filter_append,show [l[j]].filter q=[] by simp [← HR.out],List.append_nil]
      obtain ⟨⟨xs,h1,h2⟩,h3⟩:=HA.out
      exact ⟨⟨xs,zbh h1 hb3,h2.stays (fun x hx=>⟨hx,hb3.block x (Nat.lt_of_lt_of_le hx h3.size)⟩)⟩,zab h3 hb3 h3.size⟩)
     clear hb3 HA
     go_roundg (gk - 1)
     case measure=>omega
     case rel=>exact ⟨j+1,by omega,by go_num,HA2⟩
   | true=>
     go_wp2_with (first
      |(go_at_call 176;(with_reducible refine HC.out.mono ?_);rintro e w3 ⟨rfl,hb3⟩
        obtain ⟨⟨xs,hown,hrow⟩,hbel⟩:=HA.out
        replace hown:wr.ownsRow w.heap.size 3 1 _ _ xs:=hown
        have hown3:=zbh hown hb3
        have hs3:=hb3.size
        have hsb:=hbel.size
        have HY:=Lib.hid (And.intro hown (And.intro hrow (And.intro hbel hb3)))
        clear hown hrow hbel hb3 HA)
      |(at_builtin;refine wpList_append_own_at _ rfl _ _ 188 rfl w.heap.size 3 i0 (.int .i64 0) 1 8 Tryz.underlying188 hi hz0 hz1 hz2 rfl (by decide) _ _ _ rfl (hown3.alloc _) ⟨w3.heap.size,0,none⟩ 1 1 [.int .i64 l[j]] rfl rfl (zb1 _ _ _) (by simp [Value.oneCell']) ?_ ?_ ?_ ?_))
     all_goals (try (first |(unfold maxLen;omega) | omega |(simp;omega)))
     intro v' w5 hown' hgrow _ hloc
     have acc:AccB intE 3 (Old w) w ((l.take (j+1)).filter q) v' w5:=by
      rw [List.take_succ_eq_append_getElem hj1,List.filter_append,show [l[j]].filter q=[l[j]] by simp [← HR.out]]
      exact AccB.next (fun x hx=>hx) HY.out.1 HY.out.2.1 HY.out.2.2.1 (Below.refl _ _) HY.out.2.2.2 (intE.stays (P':=Old w) (fun x hx=>⟨hx,HY.out.2.2.2.block x (Nat.lt_of_lt_of_le hx HY.out.2.2.1.size)⟩) HD.out) hown' hgrow (by simpa using hloc)
     have ACC:=Lib.hid acc
     clear acc hown' hgrow hloc hown3 HY
     go_wp2_with fail
     go_roundg (gk - 1)
     case measure=>omega
     case rel=>exact ⟨j+1,by omega,by go_num,ACC⟩
  ·have e:l.take j=l:=by rw [List.take_of_length_le];have:=HL.out;omega
   have hA:=HA.out
   rw [e] at hA
   obtain ⟨⟨xs,hown,hrow⟩,hbel⟩:=hA
   have HX:=Lib.hid (And.intro hown (And.intro hrow hbel))
   clear hown hrow hbel HA
   go_wp2_with fail
   go_ret
   exact ⟨_,xs,rfl,HX.out.1,HX.out.2.1,HX.out.2.2⟩
theorem zv7 (P:Nat→Prop) (l1 l2:List ByteArray) (v1 v2:Value) (g:Nat) (w:World) (hP:∀ x,P x→x < w.heap.size) (hg:w.heap[g]?=some (.cells #[v1,v2] 132)) (h1:zag za1 w P v1 l1) (h2:zag za1 w P v2 l2) (k1:capK v1) (k2:capK v2) (hn1:l1.length≤2097152) (hn2:l2.length≤2097152):
 Calls Tryz.prog 121 #[.slice (some ⟨g,0,none⟩) 2 2] w (zdy za1 9 P w (l1++l2)):=by
 obtain ⟨i0,hi,hz0,hz1,hz2⟩:=info_parts ze6
 obtain ⟨p1,c1,rfl⟩:=h1.slice
 obtain ⟨p2,c2,rfl⟩:=h2.slice
 obtain ⟨n1,hl1⟩:∃ n,n=l1.length:=⟨_,rfl⟩
 obtain ⟨n2,hl2⟩:∃ n,n=l2.length:=⟨_,rfl⟩
 rw [← hl1,← hl2] at hg
 rw [← hl1] at hn1 h1 k1
 rw [← hl2] at hn2 h2 k2
 have hgr:=zx0 (n1+n2) (by omega) w
 rw [show ((n1+n2:Nat):Int)=(n1:Int)+n2 by omega] at hgr
 have HG:=Lib.hid hgr
 clear hgr
 have H1:=Lib.hid h1
 have H2:=Lib.hid h2
 have HU:=Lib.hid hg
 have HN1:Hid (p1=none→n1=0∧c1=0):=Lib.hid fun e=>by
  have hc:=k1.2 n1 c1 (by rw [e])
  have:=k1.1 p1 n1 c1 rfl
  exact ⟨by omega,hc⟩
 have HN2:Hid (p2=none→n2=0∧c2=0):=Lib.hid fun e=>by
  have hc:=k2.2 n2 c2 (by rw [e])
  have:=k2.1 p2 n2 c2 rfl
  exact ⟨by omega,hc⟩
 have HL1:=Lib.hid hl1
 have HL2:=Lib.hid hl2
 have d0:=zad hg 0 rfl
 have d1:=zad hg 1 rfl
 clear h1 h2 hg k1 k2 hl1 hl2
 go_enter Tryz.func121,Tryz.ntmps121
 go_wp2_with fail
 go_loopg [3,11] 2 (fun gg s3 s11 wr=>∃ j:Nat,j+gg=2∧s11=.int .i64 j∧s3=.int .i64 (if j=0 then 0 else if j=1 then (n1:Int) else (n1:Int)+n2)∧wr=w)
 case atStart=>exact ⟨0,by omega,rfl,rfl,rfl⟩
 case round=>
  obtain ⟨j,hjg,rfl,rfl,rfl⟩:=hrel
  rcases (show j=0∨j=1∨j=2 by omega) with rfl | rfl | rfl
  ·have t1:¬ ((n1:Int) < 0):=by omega
   go_wp2_with fail
   go_roundg (gk - 1)
   case measure=>omega
   case rel=>exact ⟨1,by omega,by go_num,by simp,rfl⟩
  ·have t1:¬ ((n1:Int)+n2 < 0):=by omega
   go_wp2_with fail
   go_roundg (gk - 1)
   case measure=>omega
   case rel=>exact ⟨2,by omega,by go_num,by simp,rfl⟩
  ·go_wp2_with (first
    |(go_at_call 172;(with_reducible refine HG.out.mono ?_);rintro e w1 ⟨v3,rfl,ho1,hb1⟩))
   have ACC0:=Lib.hid (AccB.startOwn za1 9 P ho1 hb1)
   clear ho1 hb1 d0 d1
   go_loopg [6,27] 2 (fun gg s6 s27 wx=>∃ j:Nat,j+gg=2∧s27=.int .i64 j∧Hid (AccB za1 9 P wr (if j=0 then [] else if j=1 then l1 else l1++l2) s6 wx))
   case atStart=>exact ⟨0,by omega,rfl,by simpa using ACC0⟩
   case round=>
    clear ACC0
    obtain ⟨j,hjg,rfl,HA⟩:=hrel
    rename World=>wx
    obtain ⟨⟨xs,hown,hrow⟩,hbel⟩:=HA.out
    have hsz:=hbel.size
    rcases (show j=0∨j=1∨j=2 by omega) with rfl | rfl | rfl
    ·replace hown:wx.ownsRow wr.heap.size 9 1 _ 0 xs:=hown
     obtain ⟨ys,hy1,hy2,hy3⟩:=(H1.out.stays (P':=P) (fun x hx=>⟨hx,hbel.block x (hP x hx)⟩)).news
     replace hy1:ys.length=n1*1:=by rw [hy1,HL1.out];rfl
     have hyo:=hy2.one
     have d0:=zad ((hbel.block _ (zaa HU.out)).trans HU.out) 0 rfl
     have HY:=Lib.hid (And.intro hown (And.intro hrow (And.intro hbel hy2)))
     clear hrow hbel hy2 HA
     go_wp2_with (first
      |(at_builtin;refine za6 rfl _ _ 132 rfl wr.heap.size 9 i0 (.string ⟨#[]⟩) 1 16 Tryz.underlying132 hi hz0 hz1 hz2 rfl (by decide) _ 0 xs rfl hown p1 n1 c1 ys rfl hy1 HN1.out hy3 hyo (by unfold maxLen;omega) (by omega) hsz ?_))
     intro v' w5 hown' hgrow hloc
     have acc:AccB za1 9 P wr l1 v' w5:=by
      have:=AccB.more (bs:=[]) hP HY.out.1 HY.out.2.1 HY.out.2.2.1 HY.out.2.2.2 (by rw [← HL1.out,List.length_nil,Nat.zero_add];exact hown') hgrow
      exact this
     have ACC:=Lib.hid acc
     clear acc hown' hgrow hloc hown HY hy3 d0 hyo
     go_wp2_with fail
     go_roundg (gk - 1)
     case measure=>omega
     case rel=>exact ⟨1,by omega,by go_num,by simpa using ACC⟩
    ·replace hown:=zbr (m:=n1) hown HL1.out.symm
     obtain ⟨ys,hy1,hy2,hy3⟩:=(H2.out.stays (P':=P) (fun x hx=>⟨hx,hbel.block x (hP x hx)⟩)).news
     replace hy1:ys.length=n2*1:=by rw [hy1,HL2.out];rfl
     have hyo:=hy2.one
     have d0:=zad ((hbel.block _ (zaa HU.out)).trans HU.out) 1 rfl
     have HY:=Lib.hid (And.intro hown (And.intro hrow (And.intro hbel hy2)))
     clear hrow hbel hy2 HA
     go_wp2_with (first
      |(at_builtin;refine za6 rfl _ _ 132 rfl wr.heap.size 9 i0 (.string ⟨#[]⟩) 1 16 Tryz.underlying132 hi hz0 hz1 hz2 rfl (by decide) _ n1 xs rfl hown p2 n2 c2 ys rfl hy1 HN2.out hy3 hyo (by unfold maxLen;omega) (by omega) hsz ?_))
     intro v' w5 hown' hgrow hloc
     have acc:AccB za1 9 P wr (l1++l2) v' w5:=by
      have h0:=HY.out.1
      rw [HL1.out] at h0
      exact AccB.more hP h0 HY.out.2.1 HY.out.2.2.1 HY.out.2.2.2 (by rw [← HL1.out,← HL2.out];exact hown') hgrow
     have ACC:=Lib.hid acc
     clear acc hown' hgrow hloc hown HY hy3 d0 hyo
     go_wp2_with fail
     go_roundg (gk - 1)
     case measure=>omega
     case rel=>exact ⟨2,by omega,by go_num,by simpa using ACC⟩
    ·have hown2:wx.ownsRow wr.heap.size 9 1 _ (l1++l2).length xs:=hown
     have hrow2:RowE za1 wx P xs (l1++l2):=hrow
     have HX:=Lib.hid (And.intro hown2 (And.intro hrow2 hbel))
     clear hown hrow hbel HA hown2 hrow2
     go_wp2_with fail
     go_ret
     exact ⟨_,xs,rfl,HX.out.1,HX.out.2.1,HX.out.2.2⟩
theorem zyi (l1 l2:List ByteArray) (v1 v2:Value) (g:Nat) (w:World) (hg:w.heap[g]?=some (.cells #[v1,v2] 132)) (h1:zag za1 w (Old w) v1 l1) (h2:zag za1 w (Old w) v2 l2) (k1:capK v1) (k2:capK v2) (hn1:l1.length≤2097152) (hn2:l2.length≤2097152):
 Calls Tryz.prog 121 #[.slice (some ⟨g,0,none⟩) 2 2] w (zdy za1 9 (Old w) w (l1++l2)):=zv7 (Old w) l1 l2 v1 v2 g w (fun _ h=>h) hg h1 h2 k1 k2 hn1 hn2
theorem zv8 (P:Nat→Prop) (l1 l2:List Int) (v1 v2:Value) (g:Nat) (w:World) (hP:∀ x,P x→x < w.heap.size) (hg:w.heap[g]?=some (.cells #[v1,v2] 188)) (h1:zag intE w P v1 l1) (h2:zag intE w P v2 l2) (k1:capK v1) (k2:capK v2) (hn1:l1.length≤2097152) (hn2:l2.length≤2097152):
 Calls Tryz.prog 177 #[.slice (some ⟨g,0,none⟩) 2 2] w (zdy intE 3 P w (l1++l2)):=by
 obtain ⟨i0,hi,hz0,hz1,hz2⟩:=info_parts zee
 obtain ⟨p1,c1,rfl⟩:=h1.slice
 obtain ⟨p2,c2,rfl⟩:=h2.slice
 obtain ⟨n1,hl1⟩:∃ n,n=l1.length:=⟨_,rfl⟩
 obtain ⟨n2,hl2⟩:∃ n,n=l2.length:=⟨_,rfl⟩
 rw [← hl1,← hl2] at hg
 rw [← hl1] at hn1 h1 k1
 rw [← hl2] at hn2 h2 k2
 have hgr:=zx3 (n1+n2) (by omega) w
 rw [show ((n1+n2:Nat):Int)=(n1:Int)+n2 by omega] at hgr
 have HG:=Lib.hid hgr
 clear hgr
 have H1:=Lib.hid h1
 have H2:=Lib.hid h2
 have HU:=Lib.hid hg
 have HN1:Hid (p1=none→n1=0∧c1=0):=Lib.hid fun e=>by
  have hc:=k1.2 n1 c1 (by rw [e])
  have:=k1.1 p1 n1 c1 rfl
  exact ⟨by omega,hc⟩
 have HN2:Hid (p2=none→n2=0∧c2=0):=Lib.hid fun e=>by
  have hc:=k2.2 n2 c2 (by rw [e])
  have:=k2.1 p2 n2 c2 rfl
  exact ⟨by omega,hc⟩
 have HL1:=Lib.hid hl1
 have HL2:=Lib.hid hl2
 have d0:=zad hg 0 rfl
 have d1:=zad hg 1 rfl
 clear h1 h2 hg k1 k2 hl1 hl2
 go_enter Tryz.func177,Tryz.ntmps177
 go_wp2_with fail
 go_loopg [3,11] 2 (fun gg s3 s11 wr=>∃ j:Nat,j+gg=2∧s11=.int .i64 j∧s3=.int .i64 (if j=0 then 0 else if j=1 then (n1:Int) else (n1:Int)+n2)∧wr=w)
 case atStart=>exact ⟨0,by omega,rfl,rfl,rfl⟩
 case round=>
  obtain ⟨j,hjg,rfl,rfl,rfl⟩:=hrel
  rcases (show j=0∨j=1∨j=2 by omega) with rfl | rfl | rfl
  ·have t1:¬ ((n1:Int) < 0):=by omega
   go_wp2_with fail
   go_roundg (gk - 1)
   case measure=>omega
   case rel=>exact ⟨1,by omega,by go_num,by simp,rfl⟩
  ·have t1:¬ ((n1:Int)+n2 < 0):=by omega
   go_wp2_with fail
   go_roundg (gk - 1)
   case measure=>omega
   case rel=>exact ⟨2,by omega,by go_num,by simp,rfl⟩
  ·go_wp2_with (first
    |(go_at_call 211;(with_reducible refine HG.out.mono ?_);rintro e w1 ⟨v3,rfl,ho1,hb1⟩))
   have ACC0:=Lib.hid (AccB.startOwn intE 3 P ho1 hb1)
   clear ho1 hb1 d0 d1
   go_loopg [6,27] 2 (fun gg s6 s27 wx=>∃ j:Nat,j+gg=2∧s27=.int .i64 j∧Hid (AccB intE 3 P wr (if j=0 then [] else if j=1 then l1 else l1++l2) s6 wx))
   case atStart=>exact ⟨0,by omega,rfl,by simpa using ACC0⟩
   case round=>
    clear ACC0
    obtain ⟨j,hjg,rfl,HA⟩:=hrel
    rename World=>wx
    obtain ⟨⟨xs,hown,hrow⟩,hbel⟩:=HA.out
    have hsz:=hbel.size
    rcases (show j=0∨j=1∨j=2 by omega) with rfl | rfl | rfl
    ·replace hown:wx.ownsRow wr.heap.size 3 1 _ 0 xs:=hown
     obtain ⟨ys,hy1,hy2,hy3⟩:=(H1.out.stays (P':=P) (fun x hx=>⟨hx,hbel.block x (hP x hx)⟩)).news
     replace hy1:ys.length=n1*1:=by rw [hy1,HL1.out];rfl
     have hyo:=hy2.one
     have d0:=zad ((hbel.block _ (zaa HU.out)).trans HU.out) 0 rfl
     have HY:=Lib.hid (And.intro hown (And.intro hrow (And.intro hbel hy2)))
     clear hrow hbel hy2 HA
     go_wp2_with (first
      |(at_builtin;refine za6 rfl _ _ 188 rfl wr.heap.size 3 i0 (.int .i64 0) 1 8 Tryz.underlying188 hi hz0 hz1 hz2 rfl (by decide) _ 0 xs rfl hown p1 n1 c1 ys rfl hy1 HN1.out hy3 hyo (by unfold maxLen;omega) (by omega) hsz ?_))
     intro v' w5 hown' hgrow hloc
     have acc:AccB intE 3 P wr l1 v' w5:=by
      have:=AccB.more (bs:=[]) hP HY.out.1 HY.out.2.1 HY.out.2.2.1 HY.out.2.2.2 (by rw [← HL1.out,List.length_nil,Nat.zero_add];exact hown') hgrow
      exact this
     have ACC:=Lib.hid acc
     clear acc hown' hgrow hloc hown HY hy3 d0 hyo
     go_wp2_with fail
     go_roundg (gk - 1)
     case measure=>omega
     case rel=>exact ⟨1,by omega,by go_num,by simpa using ACC⟩
    ·replace hown:=zbr (m:=n1) hown HL1.out.symm
     obtain ⟨ys,hy1,hy2,hy3⟩:=(H2.out.stays (P':=P) (fun x hx=>⟨hx,hbel.block x (hP x hx)⟩)).news
     replace hy1:ys.length=n2*1:=by rw [hy1,HL2.out];rfl
     have hyo:=hy2.one
     have d0:=zad ((hbel.block _ (zaa HU.out)).trans HU.out) 1 rfl
     have HY:=Lib.hid (And.intro hown (And.intro hrow (And.intro hbel hy2)))
     clear hrow hbel hy2 HA
     go_wp2_with (first
      |(at_builtin;refine za6 rfl _ _ 188 rfl wr.heap.size 3 i0 (.int .i64 0) 1 8 Tryz.underlying188 hi hz0 hz1 hz2 rfl (by decide) _ n1 xs rfl hown p2 n2 c2 ys rfl hy1 HN2.out hy3 hyo (by unfold maxLen;omega) (by omega) hsz ?_))
     intro v' w5 hown' hgrow hloc
     have acc:AccB intE 3 P wr (l1++l2) v' w5:=by
      have h0:=HY.out.1
      rw [HL1.out] at h0
      exact AccB.more hP h0 HY.out.2.1 HY.out.2.2.1 HY.out.2.2.2 (by rw [← HL1.out,← HL2.out];exact hown') hgrow
     have ACC:=Lib.hid acc
     clear acc hown' hgrow hloc hown HY hy3 d0 hyo
     go_wp2_with fail
     go_roundg (gk - 1)
     case measure=>omega
     case rel=>exact ⟨2,by omega,by go_num,by simpa using ACC⟩
    ·have hown2:wx.ownsRow wr.heap.size 3 1 _ (l1++l2).length xs:=hown
     have hrow2:RowE intE wx P xs (l1++l2):=hrow
     have HX:=Lib.hid (And.intro hown2 (And.intro hrow2 hbel))
     clear hown hrow hbel HA hown2 hrow2
     go_wp2_with fail
     go_ret
     exact ⟨_,xs,rfl,HX.out.1,HX.out.2.1,HX.out.2.2⟩
theorem zyj (l1 l2:List Int) (v1 v2:Value) (g:Nat) (w:World) (hg:w.heap[g]?=some (.cells #[v1,v2] 188)) (h1:zag intE w (Old w) v1 l1) (h2:zag intE w (Old w) v2 l2) (k1:capK v1) (k2:capK v2) (hn1:l1.length≤2097152) (hn2:l2.length≤2097152):
 Calls Tryz.prog 177 #[.slice (some ⟨g,0,none⟩) 2 2] w (zdy intE 3 (Old w) w (l1++l2)):=zv8 (Old w) l1 l2 v1 v2 g w (fun _ h=>h) hg h1 h2 k1 k2 hn1 hn2
structure Own (base n:Nat) (v:Value) (w0 w:World):Prop where
 row:∃ xs,w.ownsRow base 5 1 v n xs
 lo:base≤w.heap.size
 bel:Below base w0 w
def zb3 (n:Int) (i:Nat):UInt8:=UInt8.ofNat ((n / (2:Int) ^ (8*i)) % 256).toNat
theorem zif (n:Int) (i:Nat):((zb3 n i).toNat:Int)=n / (2:Int) ^ (8*i) % 256:=by
 unfold zb3
 have h0:0≤n / (2:Int) ^ (8*i) % 256:=Int.emod_nonneg _ (by decide)
 have h1:n / (2:Int) ^ (8*i) % 256 < 256:=Int.emod_lt_of_pos _ (by decide)
 generalize n / (2:Int) ^ (8*i) % 256=z at h0 h1 ⊢
 rw [UInt8.toNat_ofNat']
 omega
def beB (n:Int):Nat→List UInt8
 | 0=>[]
 | i+1=>zb3 n i::beB n i
theorem zbf (n:Int):(k:Nat)→(beB n k).length=k
 | 0=>rfl
 | k+1=>by simp [beB,zbf n k]
def txtB (t:ByteArray):List UInt8:=t.data.toList
theorem zeh (t:ByteArray):(txtB t).length=t.size:=Array.length_toList
def lenB (t:ByteArray):List UInt8:=beB t.size 4++txtB t
theorem zfi (t:ByteArray):(lenB t).length=4+t.size:=by
 unfold lenB
 rw [List.length_append,zbf,zeh]
mutual
def encP:Val→List UInt8
 | .mk k b n t x l=>zb3 k 0::(if k=1 then [if b then 1 else 0] else if k=2∨k=6∨k=7 then beB n 8 else if k=3∨k=4∨k=8∨k=9 then lenB t
    else if k=10 then lenB t++lenB x else if k=5 then beB l.length 4++zar l else [])
def zar:List Val→List UInt8
 | []=>[]
 | v::r=>encP v++zar r
end
mutual
def wOne:Val→Nat
 | .mk _ _ _ t x l=>1+t.size+x.size+wAll l
def wAll:List Val→Nat
 | []=>0
 | v::r=>wOne v+wAll r
end
theorem zuk:{l:List Val}→{v:Val}→v∈l→wOne v≤wAll l
 | [],_,h=>absurd h (by simp)
 | u::r,v,h=>by
   unfold wAll
   rcases List.mem_cons.1 h with h | h
   ·rw [h];omega
   ·have:=zuk h;omega
theorem zqf:(l:List Val)→l.length≤wAll l
 | []=>by simp
 | .mk k b n t x q::r=>by
   unfold wAll wOne
   have:=zqf r
   simp only [List.length_cons]
   omega
mutual
theorem zul:(v:Val)→(encP v).length≤13*wOne v
 | .mk k b n t x l=>by
   have h:=zdu l
   unfold encP wOne
   rw [List.length_cons]
   split
   ·simp;omega
   split
   ·rw [zbf];omega
   split
   ·rw [zfi];omega
   split
   ·rw [List.length_append,zfi,zfi];omega
   split
   ·rw [List.length_append,zbf];omega
   ·simp;omega
theorem zdu:(l:List Val)→(zar l).length≤13*wAll l
 | []=>by simp [zar]
 | v::r=>by
   have:=zul v
   have:=zdu r
   unfold zar wAll
   rw [List.length_append]
   omega
end
theorem zi6:(l:List Val)→(j:Nat)→(h:j < l.length)→zar (l.take (j+1))=zar (l.take j)++encP (l[j]'h)
 | [],_,h=>absurd h (by simp)
 | v::r,0,_=>by simp [zar]
 | v::r,j+1,h=>by
   have:=zi6 r j (by simpa using h)
   simp [zar,this,List.append_assoc]
theorem zns:(l:List Val)→(j:Nat)→(h:j < l.length)→wAll (l.take j)+wOne (l[j]'h)≤wAll l
 | [],_,h=>absurd h (by simp)
 | v::r,0,_=>by
   show wAll (v::r.take 0 |>.take 0)+wOne v≤_
   simp [wAll]
 | v::r,j+1,h=>by
   have:=zns r j (by simpa using h)
   show wAll (v::r.take j)+wOne (r[j]'(by simpa using h))≤wAll (v::r)
   unfold wAll
   omega
theorem zbd (a b:List UInt8):vals (a++b)=vals a++vals b:=by simp [vals]
theorem zs6 (a:List UInt8):(vals a).length=a.length:=by simp [vals]
def Bts (w:World) (A:Value) (l:List UInt8):Prop:=∃ p cap,A=.slice p l.length cap∧(l=[]∨∃ g off,p=some ⟨g,off,none⟩∧∀ j c,l[j]?=some c→w.cell? ⟨g,off+j,none⟩=some (.int .u8 c.toNat))
theorem Bts.below {w w':World} {A:Value} {l:List UInt8} (h:Bts w A l) (b:Below w.heap.size w w'):Bts w' A l:=by
 obtain ⟨p,cap,e,h⟩:=h
 refine ⟨p,cap,e,?_⟩
 rcases h with h | ⟨g,off,e2,h⟩
 ·exact .inl h
 ·exact .inr ⟨g,off,e2,fun j c hj=>(b.cell (p:=⟨g,off+j,none⟩) (World.block_lt_of_cell? w _ (h j c hj))).trans (h j c hj)⟩
structure OwnB (w0:World) (A:Value) (l:List UInt8) (w:World):Prop where
 own:w.ownsRow w0.heap.size 5 1 A l.length (vals l)
 bel:Below w0.heap.size w0 w
theorem OwnB.lo {w0 w:World} {A:Value} {l:List UInt8} (h:OwnB w0 A l w):w0.heap.size≤w.heap.size:=h.bel.size
theorem OwnB.alloc {w0 w:World} {A:Value} {l:List UInt8} (h:OwnB w0 A l w) (o:Obj):OwnB w0 A l (w.alloc o):=⟨h.own.alloc o,h.bel.alloc h.lo o⟩
theorem OwnB.start (w:World):OwnB w (.slice none 0 0) [] w:=⟨World.ownsRow_nil _ _ _ _,Below.refl _ _⟩
theorem OwnB.say {w0 w w1:World} {A A':Value} {l l':List UInt8} {n:Nat} {xs:List Value} (h:OwnB w0 A l w) (hown:w1.ownsRow w0.heap.size 5 1 A' n xs) (hg:w.grownBy w1 A.ownBlock) (hn:n=l'.length) (hx:xs=vals l'):OwnB w0 A' l' w1:=by
 subst hn hx
 exact ⟨hown,h.bel.grown hg h.lo (fun k hk=>(h.own.lt k hk).1)⟩
theorem OwnB.after {w0 w w1:World} {A:Value} {l:List UInt8} (h:OwnB w0 A l w) (hb:Below w.heap.size w w1):OwnB w0 A l w1:=by
 refine ⟨⟨h.own.1,?_⟩,zab h.bel hb h.lo⟩
 rcases h.own.2 with h0 | ⟨g,cap,cur,e,h1,h2,h3⟩
 ·exact .inl h0
 ·exact .inr ⟨g,cap,cur,e,h1,(hb.block g (zaa h2)).trans h2,h3⟩
theorem OwnB.bts {w0 w:World} {A:Value} {l:List UInt8} (h:OwnB w0 A l w):Bts w A l:=by
 rcases h.own.2 with ⟨e,h0⟩ | ⟨g,cap,cur,e,_⟩
 ·have:=List.length_eq_zero_iff.1 h0
  subst this
  exact ⟨none,0,e,.inl rfl⟩
 ·refine ⟨_,cap,e,.inr ⟨g,0,rfl,fun j c hj=>?_⟩⟩
  have hj':=(List.getElem?_eq_some_iff.1 hj).1
  have hown:=h.own
  rw [e] at hown
  rw [Nat.zero_add,hown.cellAt j (by omega)]
  unfold vals
  rw [List.getElem?_map,hj]
  rfl
theorem OwnB.ne {w0 w:World} {A:Value} {l:List UInt8} (h:OwnB w0 A l w):some w.heap.size≠A.ownBlock:=fun e=>by have:=(h.own.lt _ e.symm).2;omega
theorem Six.grown {W w1:World} {g:Nat} {k:Int} {b:Bool} {n:Int} {t x:ByteArray} {p:Option Addr} {len cap:Nat} {r:Option Nat} (S:Six W g k b n t x p len cap) (hg:W.grownBy w1 r) (hne:some g≠r):Six w1 g k b n t x p len cap:=
 (hg.block g S.lt hne).trans S
def Bx (w w':World):Prop:=∀ (g:Nat) (c:Array Value),w.heap[g]?=some (Obj.cells c 48)→w'.heap[g]?=some (Obj.cells c 48)
theorem Bx.refl (w:World):Bx w w:=fun _ _ h=>h
theorem Bx.trans {w w1 w2:World} (h:Bx w w1) (k:Bx w1 w2):Bx w w2:=fun g c e=>k g c (h g c e)
theorem Bx.below {w w':World} (h:Below w.heap.size w w'):Bx w w':=fun g _ e=>(h.block g (zaa e)).trans e
theorem OwnB.bx {w0 w w1:World} {A:Value} {l:List UInt8} (h:OwnB w0 A l w) (hg:w.grownBy w1 A.ownBlock):Bx w w1:=fun g c e=>by
 refine (hg.block g (zaa e) (fun e2=>?_)).trans e
 rcases h.own.2 with ⟨e3,_⟩ | ⟨g2,cap,cur,e3,_,h2,_⟩
 ·rw [e3] at e2;cases e2
 ·rw [e3] at e2
  obtain rfl:g=g2:=Option.some.inj e2
  rw [e] at h2
  injection h2 with h3
  injection h3 with _ h4
  exact absurd h4 (by decide)
theorem Six.bx {w w':World} {g:Nat} {k:Int} {b:Bool} {n:Int} {t x:ByteArray} {p:Option Addr} {len cap:Nat} (S:Six w g k b n t x p len cap) (h:Bx w w'):Six w' g k b n t x p len cap:=h _ _ S
theorem OwnB.drew {w0 w:World} {A:Value} {l:List UInt8} (h:OwnB w0 A l w):OwnB w0 A l w.drew:=⟨h.own,h.bel.drew⟩
theorem zcj (c:UInt8) {x:Int} (h:(c.toNat:Int)=x):vals [c]=[.int .u8 x]:=by subst h;rfl
theorem zqg (n:Int):(k:Nat)→k≤8→beB (n % 18446744073709551616) k=beB n k
 | 0,_=>rfl
 | i+1,h=>by
   unfold beB
   rw [zqg n i (by omega)]
   congr 1
   unfold zb3
   congr 2
   have:i=0∨i=1∨i=2∨i=3∨i=4∨i=5∨i=6∨i=7:=by omega
   rcases this with rfl | rfl | rfl | rfl | rfl | rfl | rfl | rfl <;> omega
theorem zdv (w0 w:World) (A:Value) (l:List UInt8) (n:Int) (k:Nat) (hk:k≤8) (_h0:0≤n) (_h1:n < 18446744073709551616) (h:OwnB w0 A l w) (hl:l.length≤1000000000):
 Calls Tryz.prog 208 #[A,.int .u64 n,.int .i64 k] w fun e w'=>∃ A',e=.returned A'∧OwnB w0 A' (l++beB n k) w'∧Bx w w':=by
 obtain ⟨i0,hi,hz0,hz1,hz2⟩:=info_parts zfw
 go_enter Tryz.func208,Tryz.ntmps208
 go_wp2_with fail
 go_loopg [0,7] k (fun gg s0 s7 wr=>∃ L:List UInt8,s7=.int .i64 ((gg:Int) - 1)∧OwnB w0 s0 L wr∧gg≤8∧L.length+gg≤1000000008∧Hid (L++beB n gg=l++beB n k)∧Hid (Bx w wr))
 case atStart=>exact ⟨l,rfl,h,hk,by omega,Lib.hid rfl,Lib.hid (Bx.refl _)⟩
 case round=>
  clear h
  obtain ⟨L,rfl,O,hg,hL,HE,HB⟩:=hrel
  cases gk with
  | zero=>
    have HE2:=HE.out
    have e0:L=l++beB n k:=by simpa [beB] using HE2
    subst e0
    have HO:=Lib.hid O
    clear O HE HE2
    go_wp2_with fail
    go_ret
    exact ⟨_,rfl,HO.out,HB.out⟩
  | succ i=>
    have hown:=O.own
    have hlo:=O.lo
    have e1:((i+1:Nat):Int) - 1=i:=by omega
    rw [e1]
    go_wp2_with (at_builtin;refine wpList_append_own _ rfl _ _ 101 rfl w0.heap.size 5 i0 (.int .u8 0) 1 1 Tryz.underlying101 hi hz0 hz1 hz2 rfl (by decide) _ _ _ rfl (hown.alloc _) ⟨wr.heap.size,0,none⟩ 1 1 [_] rfl rfl (cell_one_new _ _ _) ?_ ?_ ?_ ?_ ?_)
    all_goals (try (first | rfl |(unfold maxLen;omega) | omega |(simp;omega) |(intro u hu;simp at hu;subst hu;rfl)))
    intro v' w1 hown' hgrow _
    have O2:=(O.alloc _).say (l':=L++[zb3 n i]) hown' hgrow (by simp) (by rw [zbd,zcj _ (zif n i)])
    have HB2:=Lib.hid ((HB.out.trans (Bx.below (za5 _ _))).trans ((O.alloc _).bx hgrow))
    have HO:=Lib.hid O2
    have HE2:Hid ((L++[zb3 n i])++beB n i=l++beB n k):=Lib.hid (by rw [← HE.out];simp [beB])
    have hL2:(L++[zb3 n i]).length+i≤1000000008:=by simp;omega
    clear hown hown' hgrow O O2 HE hL HB
    go_wp2_with fail
    go_roundg i
    case measure=>omega
    case rel=>exact ⟨L++[zb3 n i],rfl,HO.out,by omega,hL2,HE2,HB2⟩
theorem zyk (t:ByteArray) (ht:t.size≤2097152):(0:Int)≤t.size∧(t.size:Int) < 18446744073709551616:=by omega
theorem zdd (w0 w:World) (A:Value) (l:List UInt8) (t:ByteArray) (ht:t.size≤2097152) (h:OwnB w0 A l w) (hl:l.length≤900000000):
 Calls Tryz.prog 209 #[A,.string t] w fun e w'=>∃ A',e=.returned A'∧OwnB w0 A' (l++lenB t) w'∧Bx w w':=by
 obtain ⟨i0,hi,hz0,hz1,hz2⟩:=info_parts zfw
 obtain ⟨n,hn⟩:∃ n,n=t.size:=⟨_,rfl⟩
 have hc:Calls Tryz.prog 208 #[A,.int .u64 t.size,.int .i64 4] w fun e w'=>∃ A',e=.returned A'∧OwnB w0 A' (l++beB t.size 4) w'∧Bx w w':=zdv w0 w A l (t.size:Int) 4 (by omega) (zyk t ht).1 (zyk t ht).2 h (by omega)
 have HC:=Lib.hid hc
 clear h hc
 go_enter Tryz.func209,Tryz.ntmps209
 go_wp2_with (first
  |(go_at_call 208;(with_reducible refine HC.out.mono ?_);rintro e w1 ⟨v1,rfl,O,hbx⟩;have hown:=O.own;have hlo:=O.lo)
  |(at_builtin;refine Lib.wpList_append_own_string _ rfl _ _ 101 9 rfl w0.heap.size 5 i0 Tryz.underlying101 Tryz.underlying9 hi hz0 hz1 hz2 _ _ _ rfl hown t rfl ?_ ?_ hlo ?_))
 all_goals (try (first | rfl |(rw [List.length_append,zbf];unfold maxLen;omega) |(rw [List.length_append,zbf];omega)))
 intro v' w2 hown' hgrow _
 have O2:=O.say (l':=l++lenB t) hown' hgrow (by simp only [lenB,List.length_append,zeh];omega) (by unfold lenB;rw [← List.append_assoc,zbd (b:=txtB t)];rfl)
 have HB:=Lib.hid (hbx.trans (O.bx hgrow))
 have HO:=Lib.hid O2
 clear hown hown' hgrow O O2 hbx
 go_wp2_with fail
 go_ret
 exact ⟨_,rfl,HO.out,HB.out⟩
end Go.Proofs.YteclpnfckjfibaaGreatDoor
