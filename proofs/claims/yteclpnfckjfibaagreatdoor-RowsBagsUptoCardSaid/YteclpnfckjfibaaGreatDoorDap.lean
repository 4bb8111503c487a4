/- Texts of one kind, one behind the other: each says ahead of itself what it shows. -/
import Derived.Test.YteclpnfckjfibaaGreatDoorDao
import Derived.Test.YteclpnfckjfibaaGreatDoorDam
import Derived.Test.YteclpnfckjfibaaGreatDoorDan
import Derived.Test.YteclpnfckjfibaaGreatDoorDad
import Derived.Test.YteclpnfckjfibaaGreatDoorDaf
import Derived.Test.YteclpnfckjfibaaGreatDoorDag
import Derived.Test.YteclpnfckjfibaaGreatDoorDah
import Derived.Test.YteclpnfckjfibaaGreatDoorDai
import Derived.Test.YteclpnfckjfibaaGreatDoorDak
namespace Go.Proofs.YteclpnfckjfibaaGreatDoor
open Go.RowKit
set_option maxHeartbeats 12800000
set_option maxRecDepth 20000
def zlb (a b:TabL):Bool:=((tabP a && tabP b) && decide (a.vars=b.vars)) && decide ((a.rows.map zao).Perm (b.rows.map zao))
theorem zn8 (a b:TabL) (VA RA VB RB:Value) (W:World) (hG:Gd W) (ha:tabE.rel W (Old W) [VA,RA] a) (hb:tabE.rel W (Old W) [VB,RB] b) (hwa:∀ r∈a.rows,13*wAll r≤700000000) (hwb:∀ r∈b.rows,13*wAll r≤700000000):Calls Tryz.prog 35 #[.agg #[VA,RA],.agg #[VB,RB]] W fun e w'=>e=.returned (.bool (zlb a b))∧Below W.heap.size W w':=by
 have ha0:=ha
 have hb0:=hb
 obtain ⟨V',R',e,hva,hra,hcva,hcra,hlva,hlra⟩:=ha
 cases e
 obtain ⟨V',R',e,hvb,hrb,hcvb,hcrb,hlvb,hlrb⟩:=hb
 cases e
 obtain ⟨pA,kA,rfl⟩:=hva.slice
 obtain ⟨qA,lA,rfl⟩:=hra.slice
 obtain ⟨pB,kB,rfl⟩:=hvb.slice
 obtain ⟨qB,lB,rfl⟩:=hrb.slice
 obtain ⟨W1,hW1⟩:∃ W1,W1=(W.alloc (.cells #[.slice pA a.vars.length kA,.slice qA a.rows.length lA] 25)).alloc (.cells #[.slice pB b.vars.length kB,.slice qB b.rows.length lB] 25):=⟨_,rfl⟩
 have b1:Below W.heap.size W W1:=by rw [hW1];exact zcr _ _ _
 have u2:W1.heap[W.heap.size]?=some (.cells #[.slice pA a.vars.length kA,.slice qA a.rows.length lA] 25):=by rw [hW1];exact zaq _ (zaf _ _ rfl)
 have u3:W1.heap[W.heap.size+1]?=some (.cells #[.slice pB b.vars.length kB,.slice qB b.rows.length lB] 25):=by rw [hW1];exact zaf _ _ (by simp)
 have H1:Hid (Calls Tryz.prog 14 #[.agg #[.slice pA a.vars.length kA,.slice qA a.rows.length lA]] W1 fun e w'=>e=.returned (.bool (tabP a))∧Below W1.heap.size W1 w'):=Lib.hid (zct a _ _ W1 (hG.below b1) (tabE.stays (zae b1) ha0))
 have H2:Hid (∀ W',Below W1.heap.size W1 W'→Calls Tryz.prog 14 #[.agg #[.slice pB b.vars.length kB,.slice qB b.rows.length lB]] W' fun e w'=>e=.returned (.bool (tabP b))∧Below W'.heap.size W' w'):=Lib.hid fun W' h=>zct b _ _ W' (hG.below (zab b1 h b1.size)) (tabE.stays (zae (zab b1 h b1.size)) hb0)
 have H3:Hid (∀ W',Below W1.heap.size W1 W'→Calls Tryz.prog 87 #[.slice pA a.vars.length kA,.slice pB b.vars.length kB] W' fun e w'=>e=.returned (.bool (decide (a.vars=b.vars)))∧Below W'.heap.size W' w'):=Lib.hid fun W' h=>by
  have h':=zab b1 h b1.size
  exact equal87 a.vars b.vars _ _ W' (hva.stays (zae h')) (hvb.stays (zae h')) hlva hlvb
 have H4:Hid (tabP a=true→tabP b=true→∀ W',Below W1.heap.size W1 W'→Calls Tryz.prog 88 #[.slice qA a.rows.length lA,.slice qB b.rows.length lB] W' fun e w'=>e=.returned (.bool (decide ((a.rows.map zao).Perm (b.rows.map zao))))∧Below W'.heap.size W' w'):=Lib.hid fun h1 h2 W' h=>by
  have h':=zab b1 h b1.size
  exact zzt a.rows b.rows _ _ W' (hG.below h') (hra.stays (zae h')) (hrb.stays (zae h')) (zbk h1).2 (zbk h2).2 hwa hwb hlra hlrb
 have HW:=Lib.hid hW1
 have HB1:=Lib.hid b1
 have HU:=Lib.hid (And.intro u2 u3)
 unfold zlb
 generalize hpa:tabP a=pa at*
 generalize hpb:tabP b=pb at*
 generalize hdv:decide (a.vars=b.vars)=dv at*
 generalize hdp:decide ((a.rows.map zao).Perm (b.rows.map zao))=dp at*
 clear ha0 hb0 hva hra hcva hcra hvb hrb hcvb hcrb hG hW1 b1 u3 hpa hpb hdv hdp hwa hwb
 cases pa with
 | false=>
   try simp only [Bool.false_and]
   go_enter Tryz.func35,Tryz.ntmps35
   go_upto_region 1 with fail
   rw [← HW.out]
   go_wp2_with (first
    |((with_reducible refine zah (.tmp 2) W.heap.size 25 25 [.slice pA a.vars.length kA,.slice qA a.rows.length lA] 2 _ u2 rfl Tryz.underlying25 rfl zag ?_ ?_ ?_ ?_);rfl;rfl;rfl)
    |((with_reducible refine zay ?_ (.tmp 3) (W.heap.size+1) 25 25 [.slice pB b.vars.length kB,.slice qB b.rows.length lB] 2 _ u3b rfl Tryz.underlying25 rfl zag ?_ ?_ ?_);rfl;rfl;rfl)
    |(go_at_call 14;(with_reducible refine H1.out.mono ?_);rintro e w2 ⟨rfl,hb2⟩;have u3b:=(hb2.block _ (zaa HU.out.2)).trans HU.out.2)
    |(go_at_call 14;(with_reducible refine (H2.out _ hb2).mono ?_);rintro e w3 ⟨rfl,hb3⟩;have b3:=zab hb2 hb3 hb2.size;have c2:=zad ((b3.block _ (zaa HU.out.1)).trans HU.out.1) 0 rfl;have c3:=zad ((b3.block _ (zaa HU.out.2)).trans HU.out.2) 0 rfl)
    |(go_at_call 87;(with_reducible refine (H3.out _ b3).mono ?_);rintro e w4 ⟨rfl,hb4⟩;have b4:=zab b3 hb4 b3.size;have d2:=zad ((b4.block _ (zaa HU.out.1)).trans HU.out.1) 1 rfl;have d3:=zad ((b4.block _ (zaa HU.out.2)).trans HU.out.2) 1 rfl)
    |(go_at_call 88;(with_reducible refine (H4.out (by simp) (by simp) _ b4).mono ?_);rintro e w5 ⟨rfl,hb5⟩))
   go_ret
   exact ⟨by first | rfl | simp,HB1.out.trans ((hb2).mono HB1.out.size)⟩
 | true=>
   cases pb with
   | false=>
     try simp only [Bool.false_and,Bool.and_false]
     go_enter Tryz.func35,Tryz.ntmps35
     go_upto_region 1 with fail
     rw [← HW.out]
     go_wp2_with (first
      |((with_reducible refine zah (.tmp 2) W.heap.size 25 25 [.slice pA a.vars.length kA,.slice qA a.rows.length lA] 2 _ u2 rfl Tryz.underlying25 rfl zag ?_ ?_ ?_ ?_);rfl;rfl;rfl)
      |((with_reducible refine zay ?_ (.tmp 3) (W.heap.size+1) 25 25 [.slice pB b.vars.length kB,.slice qB b.rows.length lB] 2 _ u3b rfl Tryz.underlying25 rfl zag ?_ ?_ ?_);rfl;rfl;rfl)
      |(go_at_call 14;(with_reducible refine H1.out.mono ?_);rintro e w2 ⟨rfl,hb2⟩;have u3b:=(hb2.block _ (zaa HU.out.2)).trans HU.out.2)
      |(go_at_call 14;(with_reducible refine (H2.out _ hb2).mono ?_);rintro e w3 ⟨rfl,hb3⟩;have b3:=zab hb2 hb3 hb2.size;have c2:=zad ((b3.block _ (zaa HU.out.1)).trans HU.out.1) 0 rfl;have c3:=zad ((b3.block _ (zaa HU.out.2)).trans HU.out.2) 0 rfl)
      |(go_at_call 87;(with_reducible refine (H3.out _ b3).mono ?_);rintro e w4 ⟨rfl,hb4⟩;have b4:=zab b3 hb4 b3.size;have d2:=zad ((b4.block _ (zaa HU.out.1)).trans HU.out.1) 1 rfl;have d3:=zad ((b4.block _ (zaa HU.out.2)).trans HU.out.2) 1 rfl)
      |(go_at_call 88;(with_reducible refine (H4.out (by simp) (by simp) _ b4).mono ?_);rintro e w5 ⟨rfl,hb5⟩))
     go_ret
     exact ⟨by first | rfl | simp,HB1.out.trans ((zab hb2 hb3 hb2.size).mono HB1.out.size)⟩
   | true=>
     cases dv with
     | false=>
       try simp only [Bool.false_and,Bool.and_false,Bool.and_true]
       go_enter Tryz.func35,Tryz.ntmps35
       go_upto_region 1 with fail
       rw [← HW.out]
       go_wp2_with (first
        |((with_reducible refine zah (.tmp 2) W.heap.size 25 25 [.slice pA a.vars.length kA,.slice qA a.rows.length lA] 2 _ u2 rfl Tryz.underlying25 rfl zag ?_ ?_ ?_ ?_);rfl;rfl;rfl)
        |((with_reducible refine zay ?_ (.tmp 3) (W.heap.size+1) 25 25 [.slice pB b.vars.length kB,.slice qB b.rows.length lB] 2 _ u3b rfl Tryz.underlying25 rfl zag ?_ ?_ ?_);rfl;rfl;rfl)
        |(go_at_call 14;(with_reducible refine H1.out.mono ?_);rintro e w2 ⟨rfl,hb2⟩;have u3b:=(hb2.block _ (zaa HU.out.2)).trans HU.out.2)
        |(go_at_call 14;(with_reducible refine (H2.out _ hb2).mono ?_);rintro e w3 ⟨rfl,hb3⟩;have b3:=zab hb2 hb3 hb2.size;have c2:=zad ((b3.block _ (zaa HU.out.1)).trans HU.out.1) 0 rfl;have c3:=zad ((b3.block _ (zaa HU.out.2)).trans HU.out.2) 0 rfl)
        |(go_at_call 87;(with_reducible refine (H3.out _ b3).mono ?_);rintro e w4 ⟨rfl,hb4⟩;have b4:=zab b3 hb4 b3.size;have d2:=zad ((b4.block _ (zaa HU.out.1)).trans HU.out.1) 1 rfl;have d3:=zad ((b4.block _ (zaa HU.out.2)).trans HU.out.2) 1 rfl)
        |(go_at_call 88;(with_reducible refine (H4.out (by simp) (by simp) _ b4).mono ?_);rintro e w5 ⟨rfl,hb5⟩))
       go_ret
       exact ⟨by first | rfl | simp,HB1.out.trans ((zab b3 hb4 b3.size).mono HB1.out.size)⟩
     | true=>
       cases dp with
       | false=>
         try simp only [Bool.and_false,Bool.and_true]
         go_enter Tryz.func35,Tryz.ntmps35
         go_upto_region 1 with fail
         rw [← HW.out]
         go_wp2_with (first
          |((with_reducible refine zah (.tmp 2) W.heap.size 25 25 [.slice pA a.vars.length kA,.slice qA a.rows.length lA] 2 _ u2 rfl Tryz.underlying25 rfl zag ?_ ?_ ?_ ?_);rfl;rfl;rfl)
          |((with_reducible refine zay ?_ (.tmp 3) (W.heap.size+1) 25 25 [.slice pB b.vars.length kB,.slice qB b.rows.length lB] 2 _ u3b rfl Tryz.underlying25 rfl zag ?_ ?_ ?_);rfl;rfl;rfl)
          |(go_at_call 14;(with_reducible refine H1.out.mono ?_);rintro e w2 ⟨rfl,hb2⟩;have u3b:=(hb2.block _ (zaa HU.out.2)).trans HU.out.2)
          |(go_at_call 14;(with_reducible refine (H2.out _ hb2).mono ?_);rintro e w3 ⟨rfl,hb3⟩;have b3:=zab hb2 hb3 hb2.size;have c2:=zad ((b3.block _ (zaa HU.out.1)).trans HU.out.1) 0 rfl;have c3:=zad ((b3.block _ (zaa HU.out.2)).trans HU.out.2) 0 rfl)
          |(go_at_call 87;(with_reducible refine (H3.out _ b3).mono ?_);rintro e w4 ⟨rfl,hb4⟩;have b4:=zab b3 hb4 b3.size;have d2:=zad ((b4.block _ (zaa HU.out.1)).trans HU.out.1) 1 rfl;have d3:=zad ((b4.block _ (zaa HU.out.2)).trans HU.out.2) 1 rfl)
          |(go_at_call 88;(with_reducible refine (H4.out (by simp) (by simp) _ b4).mono ?_);rintro e w5 ⟨rfl,hb5⟩))
         go_ret
         exact ⟨by first | rfl | simp,HB1.out.trans ((zab b4 hb5 b4.size).mono HB1.out.size)⟩
       | true=>
         try simp only [Bool.and_true]
         go_enter Tryz.func35,Tryz.ntmps35
         go_upto_region 1 with fail
         rw [← HW.out]
         go_wp2_with (first
          |((with_reducible refine zah (.tmp 2) W.heap.size 25 25 [.slice pA a.vars.length kA,.slice qA a.rows.length lA] 2 _ u2 rfl Tryz.underlying25 rfl zag ?_ ?_ ?_ ?_);rfl;rfl;rfl)
          |((with_reducible refine zay ?_ (.tmp 3) (W.heap.size+1) 25 25 [.slice pB b.vars.length kB,.slice qB b.rows.length lB] 2 _ u3b rfl Tryz.underlying25 rfl zag ?_ ?_ ?_);rfl;rfl;rfl)
          |(go_at_call 14;(with_reducible refine H1.out.mono ?_);rintro e w2 ⟨rfl,hb2⟩;have u3b:=(hb2.block _ (zaa HU.out.2)).trans HU.out.2)
          |(go_at_call 14;(with_reducible refine (H2.out _ hb2).mono ?_);rintro e w3 ⟨rfl,hb3⟩;have b3:=zab hb2 hb3 hb2.size;have c2:=zad ((b3.block _ (zaa HU.out.1)).trans HU.out.1) 0 rfl;have c3:=zad ((b3.block _ (zaa HU.out.2)).trans HU.out.2) 0 rfl)
          |(go_at_call 87;(with_reducible refine (H3.out _ b3).mono ?_);rintro e w4 ⟨rfl,hb4⟩;have b4:=zab b3 hb4 b3.size;have d2:=zad ((b4.block _ (zaa HU.out.1)).trans HU.out.1) 1 rfl;have d3:=zad ((b4.block _ (zaa HU.out.2)).trans HU.out.2) 1 rfl)
          |(go_at_call 88;(with_reducible refine (H4.out (by simp) (by simp) _ b4).mono ?_);rintro e w5 ⟨rfl,hb5⟩))
         go_ret
         exact ⟨by first | rfl | simp,HB1.out.trans ((zab b4 hb5 b4.size).mono HB1.out.size)⟩
theorem z2f:mayP zit 0=true:=by decide
theorem zrv {vs:List ByteArray} (h:zci vs=true):vs.Nodup:=by
 unfold zci at h
 rw [decide_eq_true_eq] at h
 unfold List.Nodup at h
 rw [List.pairwise_map] at h
 exact h.imp fun q e=>q (by rw [e])
theorem zrw {vs:List ByteArray} (h:vs.Nodup):zci vs=true:=by
 unfold zci
 rw [decide_eq_true_eq]
 unfold List.Nodup
 rw [List.pairwise_map]
 exact h.imp fun q e=>q (zuk e)
theorem zip {vs:List ByteArray} (h:zeb vs=true):vs.length≤64∧(∀ x∈vs,zcc x=true)∧vs.Nodup:=by
 unfold zeb at h
 simp only [Bool.and_eq_true,decide_eq_true_eq,List.all_eq_true] at h
 exact ⟨h.1.1,h.1.2,zrv h.2⟩
theorem zti {vs:List ByteArray} (h1:vs.length≤64) (h2:∀ x∈vs,zcc x=true) (h3:vs.Nodup):zeb vs=true:=by
 unfold zeb
 simp only [Bool.and_eq_true,decide_eq_true_eq,List.all_eq_true]
 exact ⟨⟨h1,h2⟩,zrw h3⟩
theorem zrx {t:TabL} (hv:zeb t.vars=true) (hr:∀ r∈t.rows,r.length=t.vars.length) (hm:∀ r∈t.rows,∀ v∈r,mayP v 0=true):tabP t=true:=by
 unfold tabP
 simp only [Bool.and_eq_true,List.all_eq_true]
 refine ⟨hv,fun r h=>?_⟩
 unfold rowP
 simp only [Bool.and_eq_true,decide_eq_true_eq,List.all_eq_true]
 exact ⟨hr r h,hm r h⟩
theorem zzu {t:TabL} {l:List (List Val)} (h:tabP t=true) (hl:∀ r∈l,r∈t.rows):tabP ⟨t.vars,l⟩=true:=
 zrx (t:=⟨t.vars,l⟩) (show zeb t.vars=true from zcn h) (fun r hr=>(zbk h).1 r (hl r hr)) (fun r hr=>(zbk h).2 r (hl r hr))
theorem zry (vs:List ByteArray):za0 vs vs=vs:=by
 unfold za0
 rw [List.filter_eq_nil_iff.2,List.append_nil]
 intro x hx
 rw [(zkv _ _).2 hx]
 simp
theorem zl4 {vs:List ByteArray} (h:vs.Nodup) (i:Nat) (hi:i < vs.length):zbl vs[i] vs=some i:=
 zh3 hi rfl fun j hj hlt e=>by
  exact (List.pairwise_iff_getElem.1 h) j i hj hi hlt e
theorem zrz (r:List Val) (k:Nat):zd7 r (k:Int)=atV r k:=by
 unfold zd7
 rw [if_neg (by omega)]
 simp
theorem z2g {vs:List ByteArray} (h:vs.Nodup) {r:List Val} (hr:r.length=vs.length):(zis vs vs).map (zd7 r)=r:=by
 refine List.ext_getElem (by simp [zis,hr]) fun i h1 h2=>?_
 simp only [zis,List.getElem_map]
 have hi:i < vs.length:=by simpa [zis] using h1
 rw [zl4 h i hi]
 show zd7 r (i:Int)=_
 rw [zrz,zh4 h2]
theorem zn9 {t:TabL} (h:tabP t=true):zcg t t.vars=t.rows:=by
 unfold zcg
 exact (List.map_congr_left (g:=fun r=>r) fun r hr=>z2g (zip (zcn h)).2.2 ((zbk h).1 r hr)).trans (List.map_id' _)
theorem tab_app {V:List ByteArray} {l m:List (List Val)} (h1:tabP ⟨V,l⟩=true) (h2:tabP ⟨V,m⟩=true):tabP ⟨V,l++m⟩=true:=by
 refine zrx (t:=⟨V,l++m⟩) (show zeb V=true from zcn h1) (fun r hr=>?_) (fun r hr=>?_)
 ·rcases List.mem_append.1 hr with h | h
  ·exact (zbk h1).1 r h
  ·exact (zbk h2).1 r h
 ·rcases List.mem_append.1 hr with h | h
  ·exact (zbk h1).2 r h
  ·exact (zbk h2).2 r h
theorem z2h {a b:TabL} (ha:tabP a=true) (hb:tabP b=true) (hl:a.vars.length+b.vars.length≤64):zb9 a b=⟨za0 a.vars b.vars,zcg a (za0 a.vars b.vars)++zcg b (za0 a.vars b.vars)⟩:=by
 unfold zb9
 rw [if_pos ⟨by rw [ha,hb];rfl,Nat.le_trans (zn6 _ _) hl⟩]
theorem zwg {V:List ByteArray} {l m:List (List Val)} (h1:tabP ⟨V,l⟩=true) (h2:tabP ⟨V,m⟩=true):zb9 ⟨V,l⟩ ⟨V,m⟩=⟨V,l++m⟩:=by
 unfold zb9
 rw [if_pos ⟨by rw [h1,h2];rfl,by show (za0 V V).length≤64;rw [zry];exact (zip (zcn h1)).1⟩]
 show TabL.mk (za0 V V) (zcg ⟨V,l⟩ (za0 V V)++zcg ⟨V,m⟩ (za0 V V))=_
 rw [zry]
 have e1:=zn9 h1
 have e2:=zn9 h2
 rw [e1,e2]
theorem zlc {a b:TabL} (ha:tabP a=true) (hb:tabP b=true):zcd a b=⟨a.vars,a.rows.filter fun r=>!zeh (za4 a.vars b.vars) r b.rows⟩:=by
 unfold zcd
 rw [if_pos (by rw [ha,hb];rfl)]
theorem zzv {α β:Type} (f:α→Bool) (g:α→β) (d:α) (all:List α):(l:List α)→(k:Nat)→(∀ j,j < l.length→all.getD (k+j) d=l.getD j d)→((l.zipIdx k).filter fun p=>f p.1).map (fun p=>g (all.getD p.2 d))=(l.filter f).map g
 | [],_,_=>rfl
 | x::r,k,h=>by
   have h0:all.getD k d=x:=by simpa using h 0 (by simp)
   have ih:=zzv f g d all r (k+1) (fun j hj=>by
    have:=h (j+1) (by simpa using hj)
    rw [show k+1+j=k+(j+1) by omega,this]
    simp)
   rw [List.zipIdx_cons,List.filter_cons,List.filter_cons]
   by_cases q:f x=true
   ·rw [if_pos q,if_pos q,List.map_cons,List.map_cons,ih,h0]
   ·rw [if_neg q,if_neg q,ih]
theorem zpg (sh:List (Nat × Nat)) (src:List (Int × Int)) (rows:List (List Val)) (x:List Val):zl2 sh src rows x=(rows.filter (fitB sh x)).map (zib src x):=by
 unfold zl2 fitN
 rw [List.map_map]
 exact zzv (fitB sh x) (zib src x) [] rows rows 0 (fun j _=>by rw [Nat.zero_add])
theorem join_eq {a b:TabL} (ha:tabP a=true) (hb:tabP b=true) (hl:a.vars.length+b.vars.length≤64):
 zon a b=⟨za0 a.vars b.vars,zbn (za4 a.vars b.vars) (srcP (za0 a.vars b.vars) a.vars b.vars) a.rows b.rows⟩:=by
 unfold zon
 rw [if_pos ⟨by rw [ha,hb];rfl,Nat.le_trans (zn6 _ _) hl⟩]
theorem zph {a b:TabL} (ha:tabP a=true) (hb:tabP b=true) (hv:a.vars=b.vars) (h:a.rows.Perm b.rows):zlb a b=true:=by
 unfold zlb
 rw [ha,hb,decide_eq_true hv,decide_eq_true (h.map zao)]
 rfl
theorem zwh {t:TabL} {V:List ByteArray} (h:tabP t=true) (hv:zeb V=true):zin t V=⟨V,zcg t V⟩:=by
 unfold zin
 rw [if_pos (by rw [h,hv];rfl)]
theorem zr0 {t:TabL} (h:tabP t=true):zin t t.vars=t:=by
 rw [zwh h (zcn h),zn9 h]
theorem zm0 (q:List (List Val)→List Val→Bool) (l:List (List Val)):(n:Nat)→n≤l.length→∀ r∈zch q l n,r∈l
 | 0,_,r,h=>by simp [zch] at h
 | n+1,hn,r,h=>by
   have e:l.getD n []=l[n]:=by rw [List.getD_eq_getElem?_getD,List.getElem?_eq_getElem (by omega)];rfl
   unfold zch at h
   rw [e] at h
   split at h
   ·rcases List.mem_append.1 h with h | h
    ·exact zm0 q l n (by omega) r h
    ·rw [List.mem_singleton.1 h]
     exact List.getElem_mem _
   ·exact zm0 q l n (by omega) r h
theorem zl5 {t:TabL} (h:tabP t=true):zc7 t=⟨t.vars,zch newQ t.rows t.rows.length⟩:=by
 unfold zc7
 rw [if_pos h]
theorem zuw {t:TabL} (h:tabP t=true):tabP (zc7 t)=true:=by
 rw [zl5 h]
 exact zzu h (zm0 newQ t.rows _ (Nat.le_refl _))
theorem zpi {a:TabL} (h:tabP a=true):zlb a a=true:=zph h h rfl (List.Perm.refl _)
mutual
def ztj:Val→Nat
 | .mk _ _ _ t x l=>1+t.size / 64+x.size / 64+zld l
def zld:List Val→Nat
 | []=>0
 | v::r=>ztj v+zld r
end
mutual
theorem sz_le:(v:Val)→ztj v≤wOne v
 | .mk k b n t x l=>by
   have h:=zux l
   unfold ztj wOne
   omega
theorem zux:(l:List Val)→zld l≤wAll l
 | []=>by unfold zld;omega
 | v::r=>by
   have h1:=sz_le v
   have h2:=zux r
   unfold zld wAll
   omega
end
mutual
theorem w_le:(v:Val)→wOne v≤127*ztj v
 | .mk k b n t x l=>by
   have h:=ws_le l
   unfold ztj wOne
   omega
theorem ws_le:(l:List Val)→wAll l≤127*zld l
 | []=>by unfold wAll;omega
 | v::r=>by
   have h1:=w_le v
   have h2:=ws_le r
   unfold zld wAll
   omega
end
mutual
theorem zwi:(v:Val)→(n:Int)→0≤n→n+wOne v≤1152921504606846976→zi3 v n=n+ztj v
 | .mk k b m t x l,n,h0,h=>by
   unfold wOne at h
   have hs:=zux l
   have e:=zl6 l 0 (by omega) (by omega)
   unfold zi3 ztj
   rw [e]
   unfold addW wrap64
   omega
theorem zl6:(l:List Val)→(n:Int)→0≤n→n+wAll l≤1152921504606846976→zbt l n=n+zld l
 | [],n,_,_=>by unfold zbt zld;omega
 | v::r,n,h0,h=>by
   unfold wAll at h
   have h1:=sz_le v
   unfold zbt zld
   rw [zwi v n h0 (by omega),zl6 r _ (by omega) (by omega)]
   omega
end
def zbz:List (List Val)→Int→Int
 | [],n=>n
 | r::l,n=>zbz l (addW (addW n 1) (zbt r 0))
theorem zle:(l:List (List Val))→(n:Int)→(j:Nat)→(h:j < l.length)→zbz (l.take (j+1)) n=addW (addW (zbz (l.take j) n) 1) (zbt (l[j]'h) 0)
 | [],_,j,h=>absurd h (by simp)
 | v::r,n,0,_=>by
   show zbz (v::r.take 0) n=addW (addW (zbz [] n) 1) (zbt v 0)
   simp [zbz]
 | v::r,n,j+1,h=>by
   show zbz (v::r.take (j+1)) n=addW (addW (zbz (v::r.take j) n) 1) (zbt (r[j]'(by simpa using h)) 0)
   unfold zbz
   exact zle r _ j (by simpa using h)
def zoa:List (List Val)→Nat
 | []=>0
 | r::l=>1+zld r+zoa l
theorem zja:(l:List (List Val))→(n:Int)→0≤n→(∀ r∈l,wAll r≤2097152)→n+4194304*l.length≤1152921504606846976→zbz l n=n+zoa l
 | [],n,_,_,_=>by unfold zbz zoa;omega
 | r::l,n,h0,hw,h=>by
   have h1:=hw r (by simp)
   have hs:=zux r
   rw [List.length_cons] at h
   unfold zbz zoa
   have e1:zbt r 0=zld r:=by rw [zl6 r 0 (by omega) (by omega)];omega
   have e2:addW (addW n 1) (zbt r 0)=n+(1+zld r:Nat):=by
    rw [e1]
    unfold addW wrap64
    omega
   rw [e2,zja l _ (by omega) (fun q hq=>hw q (by simp [hq])) (by omega)]
   omega
theorem zpj:{l:List (List Val)}→{r:List Val}→r∈l→zld r≤zoa l
 | q::l,r,h=>by
   unfold zoa
   rcases List.mem_cons.1 h with e | h
   ·subst e;omega
   ·have:=zpj h;omega
theorem zuy (m:Nat):(l:List Val)→(∀ v∈l,wOne v≤m)→wAll l≤l.length*m
 | [],_=>by unfold wAll;omega
 | v::r,h=>by
   have h1:=h v (by simp)
   have h2:=zuy m r (fun u hu=>h u (by simp [hu]))
   unfold wAll
   rw [List.length_cons,Nat.add_mul,Nat.one_mul]
   omega
def zdz (l:List (List Val)):Prop:=∀ r∈l,∀ v∈r,wOne v≤381000
theorem zob {r:List Val} (hn:r.length≤64) (h:∀ v∈r,wOne v≤381000):13*wAll r≤700000000:=by
 have h1:=zuy 381000 r h
 have h2:r.length*381000≤64*381000:=Nat.mul_le_mul_right _ hn
 omega
theorem zfi {t:TabL} (ht:tabP t=true) (h:zdz t.rows):∀ r∈t.rows,13*wAll r≤700000000:=fun r hr=>
 zob (by rw [(zbk ht).1 r hr];exact zk9 (zcn ht)) (h r hr)
theorem zl7:wOne zit≤381000:=by
 show 1+0+0+0≤381000
 omega
theorem zwj {r:List Val} (h:∀ v∈r,wOne v≤381000) (c:Int):wOne (zd7 r c)≤381000:=by
 unfold zd7
 split
 ·exact zl7
 ·by_cases q:c.toNat < r.length
  ·rw [zh4 q]
   exact h _ (List.getElem_mem q)
  ·unfold atV
   rw [List.getD_eq_getElem?_getD,List.getElem?_eq_none (by omega)]
   exact zl7
theorem zuz {r:List Val} (h:∀ v∈r,wOne v≤381000) (i:Nat):wOne (atV r i)≤381000:=by
 have:=zwj h (i:Int)
 rwa [zrz] at this
theorem zzw {l m:List (List Val)} (h1:zdz l) (h2:zdz m):zdz (l++m):=fun r hr=>(List.mem_append.1 hr).elim (h1 r) (h2 r)
theorem zr1 {l m:List (List Val)} (h:zdz l) (hs:∀ r∈m,r∈l):zdz m:=fun r hr=>h r (hs r hr)
theorem z2i {a b:TabL} (ha:tabP a=true) (_hb:tabP b=true) (h1:zdz a.rows) (h2:zdz b.rows):WtOk a b:=by
 have hs:(za4 a.vars b.vars).length≤64:=Nat.le_trans (zie _ _) (zk9 (zcn ha))
 constructor
 ·intro r hr
  refine zob (by simpa [zby] using hs) fun v hv=>?_
  obtain ⟨i,_,rfl⟩:=List.mem_map.1 hv
  exact zuz (h1 r hr) i
 ·intro r hr
  refine zob (by simpa [zbh] using hs) fun v hv=>?_
  obtain ⟨i,_,rfl⟩:=List.mem_map.1 hv
  exact zuz (h2 r hr) i
theorem zu0 {l:List (List Val)} (h:zoa l≤3000):zdz l:=fun r hr v hv=>by
 have h1:=zpj hr
 have h2:=ws_le r
 have h3:=zqd hv
 omega
theorem zpk (V:Value) (l:List (List Val)) (W:World) (h:zai rowE W (Old W) V l) (hn:l.length≤2097152):Calls Tryz.prog 48 #[V] W fun e w'=>e=.returned (.int .i64 (zbz l 0))∧Below W.heap.size W w':=by
 obtain ⟨p,cap,rfl⟩:=h.slice
 obtain ⟨n,hl⟩:∃ n,n=l.length:=⟨_,rfl⟩
 rw [← hl]
 rw [← hl] at hn
 have HC:=Lib.hid h
 have HL:=Lib.hid hl
 clear h hl
 go_enter Tryz.func48,Tryz.ntmps48
 go_wp2_with fail
 go_loopg [3,4] n (fun gg s3 s4 wr=>∃ (j:Nat) (z:Int),j+gg=n∧s4=.int .i64 j∧s3=.int .i64 z∧Hid (z=zbz (l.take j) 0)∧Hid (Below W.heap.size W wr))
 case atStart=>exact ⟨0,0,by omega,rfl,rfl,Lib.hid (by simp [zbz]),Lib.hid (Below.refl _ _)⟩
 case round=>
  obtain ⟨j,z,hjg,rfl,rfl,HZ,HB⟩:=hrel
  by_cases hj:(j:Int) < n
  ·have hj1:j < l.length:=by have:=HL.out;omega
   obtain ⟨g,off,cap',c,e0,hg,hrl,hra⟩:=(HC.out.stays (zae HB.out)).at_ j hj1
   injection e0 with e1 e2 e3
   subst e1 e3
   obtain ⟨row,hrow⟩:∃ row,row=l[j]:=⟨_,rfl⟩
   rw [← hrow] at hrl
   obtain ⟨u,rfl,hu,hcu,hlu⟩:=hrl
   have hh:=zbe.held row (zck row hu)
   obtain ⟨pu,ku,rfl⟩:=hu.slice
   have cj:wr.cell? ⟨g,off+j,none⟩=some (.slice pu row.length ku):=by
    have:=hra 0 _ rfl
    simpa [rowE] using this
   have HS:=Lib.hid (zq2 row pu ku wr hh hlu (zp8 row))
   have HZ2:Hid (zbz (l.take (j+1)) 0=wrap64 (wrap64 (z+1)+zbt row 0)):=Lib.hid (by
    rw [zle l 0 j hj1,← HZ.out,← hrow]
    rfl)
   clear hra hg hu hcu hrow e2 hh HZ
   generalize zbt row 0=zr at*
   generalize row.length=lr at*
   go_wp2_with (first |(go_at_call 96;(with_reducible refine HS.out.mono ?_);rintro e w1 ⟨rfl,mm,rfl⟩))
   go_roundg (gk - 1)
   case measure=>omega
   case rel=>exact ⟨j+1,_,by omega,by go_num,rfl,Lib.hid HZ2.out.symm,Lib.hid (HB.out.trans ((zfm (Below.refl _ wr) mm).mono HB.out.size))⟩
  ·have HE:Hid (zbz l 0=z):=Lib.hid (by
    have h:=HZ.out
    rw [List.take_of_length_le (by have:=HL.out;omega)] at h
    exact h.symm)
   go_wp2_with fail
   go_ret
   exact ⟨by rw [HE.out];rfl,HB.out⟩
def zlf (a b:TabL):Bool:=decide (zbz a.rows 0≤3000) && decide (zbz b.rows 0≤3000) && decide (a.rows.length≤60) && decide (b.rows.length≤60) && decide (a.vars.length≤100) && decide (b.vars.length≤100)
theorem zjb {a b:TabL} (h:zlf a b=true) (ha:∀ r∈a.rows,wAll r≤2097152) (hb:∀ r∈b.rows,wAll r≤2097152):zdz a.rows∧zdz b.rows∧a.rows.length≤60∧b.rows.length≤60:=by
 unfold zlf at h
 simp only [Bool.and_eq_true,decide_eq_true_eq] at h
 obtain ⟨⟨⟨⟨⟨h1,h2⟩,h3⟩,h4⟩,_⟩,_⟩:=h
 have e1:=zja a.rows 0 (by omega) ha (by omega)
 have e2:=zja b.rows 0 (by omega) hb (by omega)
 exact ⟨zu0 (by omega),zu0 (by omega),h3,h4⟩
theorem zpl (V:Value) (ts:List ByteArray) (t:ByteArray) (P:Nat→Prop) (W:World) (h:zai zaz W P V ts) (hn:ts.length≤2097152):Calls Tryz.prog 38 #[V,.string t] W fun e w'=>e=.returned (.int .i64 (zcx (zbl t ts)))∧W=w':=by
 obtain ⟨p,cap,rfl⟩:=h.slice
 obtain ⟨n,hl⟩:∃ n,n=ts.length:=⟨_,rfl⟩
 obtain ⟨r,hr⟩:∃ r,r=zcx (zbl t ts):=⟨_,rfl⟩
 rw [← hr,← hl]
 rw [← hl] at hn
 have HC:=Lib.hid h
 have HL:=Lib.hid hl
 have HR:=Lib.hid hr
 clear h hl hr
 go_enter Tryz.func38,Tryz.ntmps38
 go_wp2_with fail
 go_loopg [5] n (fun gg s5 wr=>∃ j:Nat,j+gg=n∧s5=.int .i64 j∧Hid (∀ i (h:i < ts.length),i < j→ts[i]≠t)∧wr=W)
 case atStart=>exact ⟨0,by omega,rfl,Lib.hid (fun i _ h=>absurd h (by omega)),rfl⟩
 case round=>
  obtain ⟨j,hjg,rfl,HA,rfl⟩:=hrel
  by_cases hj:(j:Int) < n
  ·have hj1:j < ts.length:=by have:=HL.out;omega
   obtain ⟨g,off,cap',c,e0,hg,hrl,hra⟩:=HC.out.at_ j hj1
   injection e0 with e1 e2 e3
   subst e1
   obtain ⟨y,hy⟩:∃ y,y=ts[j]:=⟨_,rfl⟩
   obtain ⟨rfl,hwf⟩:=hrl
   have cj:wr.cell? ⟨g,off+j,none⟩=some (.string y):=by
    have:=hra 0 _ rfl
    rw [hy]
    simpa [zaz] using this
   have HY:=Lib.hid hy
   clear hra hy hg hwf e2 e3
   by_cases q:t=y
   ·subst q
    have HR2:Hid (r=j):=Lib.hid (by rw [HR.out,zh3 hj1 HY.out.symm HA.out];rfl)
    go_wp2_with fail
    go_ret
    exact ⟨by rw [HR2.out];rfl,rfl⟩
   ·have q2:(y.toList == t.toList)=false:=zsy fun e=>q e.symm
    have HA2:Hid (∀ i (h:i < ts.length),i < j+1→ts[i]≠t):=Lib.hid fun i h1 h2=>by
     by_cases e:i=j
     ·subst e
      rw [← HY.out]
      exact fun z=>q z.symm
     ·exact HA.out i h1 (by omega)
    clear q
    go_wp2_with fail
    go_roundg (gk - 1)
    case measure=>omega
    case rel=>exact ⟨j+1,by omega,by go_num,HA2,rfl⟩
  ·have HR2:Hid (r=-1):=Lib.hid (by
    rw [HR.out,zfq.2 fun x hx=>?_]
    ·rfl
    ·obtain ⟨i,hi,rfl⟩:=List.getElem_of_mem hx
     exact HA.out i hi (by have:=HL.out;omega))
   go_wp2_with fail
   go_ret
   exact ⟨by rw [HR2.out];rfl,rfl⟩
def zfj (ls:List ByteArray):Bool:=ls.all zcc && zci ls
theorem zwk (ls:List ByteArray) (i:Nat) (hi:i < ls.length):zfj (ls.take (i+1))=(zfj (ls.take i) && (zcc ls[i] && !memB ls[i] (ls.take i))):=by
 unfold zfj
 rw [zi4 ls i hi,List.take_succ_eq_append_getElem hi,List.all_append]
 simp only [List.all_cons,List.all_nil,Bool.and_true]
 generalize (ls.take i).all zcc=a
 generalize zcc ls[i]=b
 generalize zci (ls.take i)=c
 generalize memB ls[i] (ls.take i)=d
 revert a b c d
 decide
theorem ztk {ls:List ByteArray} {i:Nat} (hi:i < ls.length) (h:(zcc ls[i] && !memB ls[i] (ls.take i))=false):zfj ls=false:=by
 rw [Bool.and_eq_false_iff] at h
 unfold zfj
 rw [Bool.and_eq_false_iff]
 rcases h with h | h
 ·left
  rw [List.all_eq_false]
  exact ⟨_,List.getElem_mem hi,by rw [h];simp⟩
 ·right
  exact zmd hi (by simpa using h)
theorem zr2 {t:ByteArray} {ts:List ByteArray} (h:memB t ts=true):0≤zcx (zbl t ts):=by
 unfold memB at h
 obtain ⟨k,hk⟩:=Option.isSome_iff_exists.1 h
 rw [hk]
 exact Int.natCast_nonneg k
theorem zr3 {t:ByteArray} {ts:List ByteArray} (h:memB t ts=false):zcx (zbl t ts) < 0:=by
 unfold memB at h
 rw [Option.isSome_eq_false_iff,Option.isNone_iff_eq_none] at h
 rw [h]
 decide
theorem ztl (V:Value) (ts:List ByteArray) (W:World) (h:zai zaz W (Old W) V ts) (hcap:capK V) (hn:ts.length≤2097152):Calls Tryz.prog 17 #[V] W fun e w'=>e=.returned (.bool (zfj ts))∧Below W.heap.size W w':=by
 obtain ⟨p,cap,rfl⟩:=h.slice
 have hcp:=hcap.1 p _ cap rfl
 obtain ⟨n,hl⟩:∃ n,n=ts.length:=⟨_,rfl⟩
 obtain ⟨r,hr⟩:∃ r,r=zfj ts:=⟨_,rfl⟩
 rw [← hr,← hl]
 rw [← hl] at hn hcp
 have HC:=Lib.hid h
 have HL:=Lib.hid hl
 have HR:=Lib.hid hr
 clear h hl hr hcap
 go_enter Tryz.func17,Tryz.ntmps17
 go_wp2_with fail
 go_loopg [3] n (fun gg s3 wr=>∃ j:Nat,j+gg=n∧s3=.int .i64 j∧Hid (zfj (ts.take j)=true)∧Hid (Below W.heap.size W wr))
 case atStart=>exact ⟨0,by omega,rfl,Lib.hid (by simp [zfj,zci]),Lib.hid (Below.refl _ _)⟩
 case round=>
  obtain ⟨j,hjg,rfl,HA,HB⟩:=hrel
  by_cases hj:(j:Int) < n
  ·have hj1:j < ts.length:=by have:=HL.out;omega
   have HCr:=HC.out.stays (zae HB.out)
   obtain ⟨g,off,cap',c,e0,hg,hrl,hra⟩:=HCr.at_ j hj1
   injection e0 with e1 e2 e3
   subst e1
   obtain ⟨t,hte⟩:∃ t,t=ts[j]:=⟨_,rfl⟩
   obtain ⟨rfl,hwf⟩:=hrl
   have cj:wr.cell? ⟨g,off+j,none⟩=some (.string t):=by
    have:=hra 0 _ rfl
    rw [hte]
    simpa [zaz] using this
   have hts:t.size≤2097152:=by rw [hte];exact hwf
   have hpre:zai zaz wr (Old wr) (.slice (some ⟨g,off,none⟩) j cap) (ts.take j):=HCr.take j (by omega)
   have hjc:j≤cap:=by omega
   have hjc2:(j:Int)≤cap:=by omega
   have HW:=Lib.hid (fun W'=>zyn t W' (Nat.le_trans hts (by decide)))
   have HI:=Lib.hid (fun W' (b:Below wr.heap.size wr W')=>zpl _ (ts.take j) t _ W' (hpre.stays (zae b)) (by rw [List.length_take];omega))
   obtain ⟨r1,hr1⟩:∃ r1,r1=zcc t:=⟨_,rfl⟩
   obtain ⟨z2,hz2⟩:∃ z2,z2=zcx (zbl t (ts.take j)):=⟨_,rfl⟩
   have hp1:=@zr2 t (ts.take j)
   have hp2:=@zr3 t (ts.take j)
   obtain ⟨r2,hr2⟩:∃ r2,r2=memB t (ts.take j):=⟨_,rfl⟩
   rw [← hr1] at HW
   rw [← hz2] at HI hp1 hp2
   rw [← hr2] at hp1 hp2
   have HZ:Hid ((r1 && !r2)=false→r=false):=Lib.hid fun h=>by
    rw [HR.out]
    refine ztk hj1 ?_
    rw [← hte,← hr1,← hr2]
    exact h
   have HY:Hid ((r1 && !r2)=true→zfj (ts.take (j+1))=true):=Lib.hid fun h=>by
    rw [zwk ts j hj1,HA.out,← hte,← hr1,← hr2,h]
    rfl
   clear hra e2 e3 hte hr1 hr2 hz2 hpre HA hg hwf HCr
   have hB:=HB.out
   have ck:=Below.refl wr.heap.size wr
   clear HB
   cases r1 with
   | false=>
     obtain rfl:r=false:=HZ.out rfl
     clear hp1 hp2
     go_upto_region 4 with fail
     refine wp_region_held_drew (S:=fun W'=>W'.cell? ⟨g,off+j,none⟩=some (.string t)) (by kernel_rfl) cj (fun _=>?_)
     replace cj:wr.drew.cell? ⟨g,off+j,none⟩=_:=cj
     replace hB:=hB.drew
     replace ck:=ck.drew
     generalize wr.drew=wD at*
     refine tg (i:=0) (.slice (some ⟨g,off,none⟩) n cap) rfl (cj) ?_
     refine tg (i:=1) (.int .i64 (j:Int)) rfl (cj) ?_
     refine tg (i:=2) (.pointer (some ⟨g,off+j,none⟩)) rfl (cj) ?_
     refine tk (i:=3) (v:=.string t) rfl (Or.inl ⟨by rfl,fun W' h=>by have c0:=h;go_simp⟩) (cj) ?_
     refine tr 4 rfl (fun K hK=>?_)
     rw [if_pos (by rfl)]
     go_simp
     refine (HW.out _).mono ?_
     rintro e0 w3 ⟨rfl,rfl⟩
     refine hK.out _ _ (cj) (fun _=>?_)
     clear hK K
     try simp only [putS]
     refine tg (i:=5) (.bool true) rfl (cj) ?_
     refine tg (i:=6) (.bool true) rfl (cj) ?_
     refine tn (i:=7) rfl (cj) ?_
     refine tn (i:=8) rfl (cj) ?_
     refine tn (i:=10) rfl (cj) ?_
     refine tn (i:=11) rfl (cj) ?_
     refine tn (i:=9) rfl (cj) ?_
     refine tn (i:=12) rfl (cj) ?_
     refine tn (i:=13) rfl (cj) ?_
     refine tn (i:=14) rfl (cj) ?_
     refine tn (i:=15) rfl (cj) ?_
     refine tg (i:=16) (.bool true) rfl (cj) ?_
     refine wpAnyH_done (by kernel_rfl) ?_ _
     go_wp2_with fail
     go_ret
     exact ⟨rfl,hB⟩
   | true=>
     cases r2 with
     | true=>
       obtain rfl:r=false:=HZ.out rfl
       have hz:0≤z2:=hp1 rfl
       clear hp1 hp2
       go_upto_region 4 with fail
       refine wp_region_held_drew (S:=fun W'=>W'.cell? ⟨g,off+j,none⟩=some (.string t)) (by kernel_rfl) cj (fun _=>?_)
       replace cj:wr.drew.cell? ⟨g,off+j,none⟩=_:=cj
       replace hB:=hB.drew
       replace ck:=ck.drew
       generalize wr.drew=wD at*
       refine tg (i:=0) (.slice (some ⟨g,off,none⟩) n cap) rfl (cj) ?_
       refine tg (i:=1) (.int .i64 (j:Int)) rfl (cj) ?_
       refine tg (i:=2) (.pointer (some ⟨g,off+j,none⟩)) rfl (cj) ?_
       refine tk (i:=3) (v:=.string t) rfl (Or.inl ⟨by rfl,fun W' h=>by have c0:=h;go_simp⟩) (cj) ?_
       refine tr 4 rfl (fun K hK=>?_)
       rw [if_pos (by rfl)]
       go_simp
       refine (HW.out _).mono ?_
       rintro e0 w3 ⟨rfl,rfl⟩
       refine hK.out _ _ (cj) (fun _=>?_)
       clear hK K
       try simp only [putS]
       refine tg (i:=5) (.bool false) rfl (cj) ?_
       refine tg (i:=6) (.bool false) rfl (cj) ?_
       refine tg (i:=7) (.slice (some ⟨g,off,none⟩) n cap) rfl (cj) ?_
       refine tg (i:=8) (.int .i64 (j:Int)) rfl (cj) ?_
       refine tg (i:=10) (.slice (some ⟨g,off,none⟩) n cap) rfl (cj) ?_
       refine tg (i:=11) (.int .i64 (j:Int)) rfl (cj) ?_
       refine tg (i:=9) (.slice (some ⟨g,off,none⟩) j cap) rfl (cj) ?_
       refine tg (i:=12) (.pointer (some ⟨g,off+j,none⟩)) rfl (cj) ?_
       refine tk (i:=13) (v:=.string t) rfl (Or.inl ⟨by rfl,fun W' h=>by have c0:=h;go_simp⟩) (cj) ?_
       refine tr 14 rfl (fun K hK=>?_)
       rw [if_pos (by rfl)]
       go_simp
       refine (HI.out _ ck).mono ?_
       rintro e0 w4 ⟨rfl,rfl⟩
       refine hK.out _ _ (cj) (fun _=>?_)
       clear hK K
       try simp only [putS]
       refine tg (i:=15) (.bool true) rfl (cj) ?_
       refine tg (i:=16) (.bool true) rfl (cj) ?_
       refine wpAnyH_done (by kernel_rfl) ?_ _
       go_wp2_with fail
       go_ret
       exact ⟨rfl,hB⟩
     | false=>
       have hz:¬ 0≤z2:=by have:=hp2 rfl;omega
       clear hp1 hp2
       go_upto_region 4 with fail
       refine wp_region_held_drew (S:=fun W'=>W'.cell? ⟨g,off+j,none⟩=some (.string t)) (by kernel_rfl) cj (fun _=>?_)
       replace cj:wr.drew.cell? ⟨g,off+j,none⟩=_:=cj
       replace hB:=hB.drew
       replace ck:=ck.drew
       generalize wr.drew=wD at*
       refine tg (i:=0) (.slice (some ⟨g,off,none⟩) n cap) rfl (cj) ?_
       refine tg (i:=1) (.int .i64 (j:Int)) rfl (cj) ?_
       refine tg (i:=2) (.pointer (some ⟨g,off+j,none⟩)) rfl (cj) ?_
       refine tk (i:=3) (v:=.string t) rfl (Or.inl ⟨by rfl,fun W' h=>by have c0:=h;go_simp⟩) (cj) ?_
       refine tr 4 rfl (fun K hK=>?_)
       rw [if_pos (by rfl)]
       go_simp
       refine (HW.out _).mono ?_
       rintro e0 w3 ⟨rfl,rfl⟩
       refine hK.out _ _ (cj) (fun _=>?_)
       clear hK K
       try simp only [putS]
       refine tg (i:=5) (.bool false) rfl (cj) ?_
       refine tg (i:=6) (.bool false) rfl (cj) ?_
       refine tg (i:=7) (.slice (some ⟨g,off,none⟩) n cap) rfl (cj) ?_
       refine tg (i:=8) (.int .i64 (j:Int)) rfl (cj) ?_
       refine tg (i:=10) (.slice (some ⟨g,off,none⟩) n cap) rfl (cj) ?_
       refine tg (i:=11) (.int .i64 (j:Int)) rfl (cj) ?_
       refine tg (i:=9) (.slice (some ⟨g,off,none⟩) j cap) rfl (cj) ?_
       refine tg (i:=12) (.pointer (some ⟨g,off+j,none⟩)) rfl (cj) ?_
       refine tk (i:=13) (v:=.string t) rfl (Or.inl ⟨by rfl,fun W' h=>by have c0:=h;go_simp⟩) (cj) ?_
       refine tr 14 rfl (fun K hK=>?_)
       rw [if_pos (by rfl)]
       go_simp
       refine (HI.out _ ck).mono ?_
       rintro e0 w4 ⟨rfl,rfl⟩
       refine hK.out _ _ (cj) (fun _=>?_)
       clear hK K
       try simp only [putS]
       refine tg (i:=15) (.bool false) rfl (cj) ?_
       refine tg (i:=16) (.bool false) rfl (cj) ?_
       refine wpAnyH_done (by kernel_rfl) ?_ _
       have HB3:=Lib.hid hB
       have HA3:=Lib.hid (HY.out rfl)
       clear hB cj ck HW HI HZ HY
       go_wp2_with fail
       go_roundg (gk - 1)
       case measure=>omega
       case rel=>exact ⟨j+1,by omega,by go_num,HA3,HB3⟩
  ·have HZ:Hid (r=true):=Lib.hid (by
    have h:=HA.out
    rw [List.take_of_length_le (by have:=HL.out;omega)] at h
    rw [HR.out,h])
   go_wp2_with fail
   go_ret
   exact ⟨by rw [HZ.out];rfl,HB.out⟩
theorem tabP_is (t:TabL):tabP t=(decide (t.vars.length≤64) && zfj t.vars && t.rows.all (rowP t.vars.length)):=by
 unfold tabP zeb zfj
 rw [← Bool.and_assoc]
theorem zwl {n:Nat} {l:List (List Val)} {j:Nat} (hj:j < l.length) (h:rowP n l[j]=false):l.all (rowP n)=false:=by
 rw [List.all_eq_false]
 exact ⟨_,List.getElem_mem hj,by rw [h];simp⟩
theorem zzx {n:Nat} {l:List (List Val)} {j:Nat} (hj:j < l.length) (h:(l.take j).all (rowP n)=true) (h2:rowP n l[j]=true):(l.take (j+1)).all (rowP n)=true:=by
 rw [List.take_succ_eq_append_getElem hj,List.all_append,h]
 simp [h2]
theorem zwm {r:List Val} {j:Nat} (hj:j < r.length) (h:(r.take j).all (mayP · 0)=true) (h2:mayP r[j] 0=true):(r.take (j+1)).all (mayP · 0)=true:=by
 rw [List.take_succ_eq_append_getElem hj,List.all_append,h]
 simp [h2]
theorem zwn {n:Nat} {r:List Val} (h:¬ r.length=n):rowP n r=false:=by
 unfold rowP
 rw [decide_eq_false h]
 rfl
theorem ztm {n:Nat} {r:List Val} {j:Nat} (hj:j < r.length) (h:mayP r[j] 0=false):rowP n r=false:=by
 unfold rowP
 rw [Bool.and_eq_false_iff]
 right
 rw [List.all_eq_false]
 exact ⟨_,List.getElem_mem hj,by rw [h];simp⟩
theorem row_yes {n:Nat} {r:List Val} (h:r.length=n) (h2:(r.take n).all (mayP · 0)=true):rowP n r=true:=by
 unfold rowP
 rw [decide_eq_true h,← h,List.take_length] at*
 rw [h2]
 rfl
theorem refMayV (v:Val) (c:List Value) (P:Nat→Prop) (w:World) (h:zdp w P c v):Calls Tryz.prog 53 #[.agg c.toArray] w fun e w'=>e=.returned (.bool (mayP v 0))∧Below w.heap.size w w':=by
 obtain ⟨k,b,n,t,x,q⟩:=v
 obtain ⟨L,rfl,hf,hq⟩:=h
 obtain ⟨p,cap,rfl⟩:=zb4 (zbe.held q hq)
 exact refMay k b n t x q p cap w hf (zbe.held q hq)
theorem zr4 (tb:TabL) (V R:Value) (W0:World) (h:tabE.rel W0 (Old W0) [V,R] tb):Calls Tryz.prog 13 #[.agg #[V,R]] W0 fun e w'=>e=.returned (.bool (tabP tb))∧Below W0.heap.size W0 w':=by
 obtain ⟨V',R',e,hv,hr,hcv,hcr,hlv,hlr⟩:=h
 cases e
 obtain ⟨pV,kV,rfl⟩:=hv.slice
 obtain ⟨pR,kR,rfl⟩:=hr.slice
 obtain ⟨W1,hW1⟩:∃ W1,W1=W0.alloc (.cells #[.slice pV tb.vars.length kV,.slice pR tb.rows.length kR] 25):=⟨_,rfl⟩
 have bw:Below W0.heap.size W0 W1:=by rw [hW1];exact zav _ _
 obtain ⟨g0,hg0⟩:∃ g0,g0=W0.heap.size:=⟨_,rfl⟩
 have u1:W1.heap[g0]?=some (.cells #[.slice pV tb.vars.length kV,.slice pR tb.rows.length kR] 25):=by rw [hW1,hg0];exact zaf _ _ rfl
 have HU:=Lib.hid (ztl _ tb.vars W1 (hv.stays (zae bw)) hcv hlv)
 have HR:=Lib.hid (hr.stays (zae bw))
 obtain ⟨n,hn⟩:∃ n,n=tb.vars.length:=⟨_,rfl⟩
 obtain ⟨m,hm⟩:∃ m,m=tb.rows.length:=⟨_,rfl⟩
 obtain ⟨r,hrr⟩:∃ r,r=tabP tb:=⟨_,rfl⟩
 have hP:=tabP_is tb
 rw [← hrr] at hP ⊢
 rw [← hn] at hlv u1 hW1 HU hP ⊢
 rw [← hm] at hlr u1 hW1 HR ⊢
 have HP:=Lib.hid hP
 have HM:=Lib.hid hm
 have HW:=Lib.hid hW1
 have HG0:=Lib.hid hg0
 have HBW:=Lib.hid bw
 have c0:W1.cell? ⟨g0,0,none⟩=some (.slice pV n kV):=zad u1 0 rfl
 clear hv hr hcv hcr hrr hP hm hW1 bw hn hg0
 obtain ⟨s1,hs1⟩:∃ s1,s1=zfj tb.vars:=⟨_,rfl⟩
 rw [← hs1] at HU HP
 clear hs1
 by_cases hle:n≤64
 ·have h64:decide ((64:Int) < n)=false:=decide_eq_false (by omega)
  have HP2:Hid (r=(s1 && tb.rows.all (rowP n))):=Lib.hid (by rw [HP.out,decide_eq_true hle];rfl)
  clear HP
  cases s1 with
  | false=>
    obtain rfl:r=false:=by rw [HP2.out];rfl
    go_enter Tryz.func13,Tryz.ntmps13
    go_upto_region 1 with fail
    rw [← HW.out]
    rw [← HG0.out]
    go_wp2_with (first |(go_at_call 17;(with_reducible refine HU.out.mono ?_);rintro e w1 ⟨rfl,hb1⟩))
    go_ret
    exact ⟨rfl,zab HBW.out hb1 HBW.out.size⟩
  | true=>
    go_enter Tryz.func13,Tryz.ntmps13
    go_upto_region 1 with fail
    rw [← HW.out]
    rw [← HG0.out]
    go_upto_region 3 with (first |(go_at_call 17;(with_reducible refine HU.out.mono ?_);rintro e w1 ⟨rfl,hb1⟩))
    have HU1:=Lib.hid ((hb1.block _ (zaa u1)).trans u1)
    have HR1:=Lib.hid (HR.out.stays (zae hb1))
    have HB1:=Lib.hid (zab HBW.out hb1 HBW.out.size)
    clear HR HU HW u1 c0 hb1
    go_wp2_with fail
    go_loopg [3] m (fun gg s3 wr=>∃ j:Nat,j+gg=m∧s3=.int .i64 j∧Hid ((tb.rows.take j).all (rowP n)=true)∧Hid (Below w1.heap.size w1 wr))
    case atStart=>exact ⟨0,by omega,rfl,Lib.hid (by simp),Lib.hid (Below.refl _ _)⟩
    case round=>
     obtain ⟨j,hjg,rfl,HA,HB⟩:=hrel
     have HUr:=Lib.hid ((HB.out.block _ (zaa HU1.out)).trans HU1.out)
     have c0:wr.cell? ⟨g0,0,none⟩=some (.slice pV n kV):=zad HUr.out 0 rfl
     have c1:wr.cell? ⟨g0,1,none⟩=some (.slice pR m kR):=zad HUr.out 1 rfl
     by_cases hj:(j:Int) < m
     ·have hj1:j < tb.rows.length:=by have:=HM.out;omega
      obtain ⟨g,off,cap',c,e0,hg,hrl,hra⟩:=(HR1.out.stays (zae HB.out)).at_ j hj1
      injection e0 with e1 e2 e3
      subst e1 e3
      obtain ⟨row,hrow⟩:∃ row,row=tb.rows[j]:=⟨_,rfl⟩
      rw [← hrow] at hrl
      obtain ⟨u,rfl,hu,hcu,hlu⟩:=hrl
      obtain ⟨pu,ku,rfl⟩:=hu.slice
      have cj:wr.cell? ⟨g,off+j,none⟩=some (.slice pu row.length ku):=by
       have:=hra 0 _ rfl
       simpa [rowE] using this
      have HUU:=Lib.hid hu
      have HN:Hid (rowP n row=false→r=false):=Lib.hid fun h=>by
       rw [HP2.out,Bool.true_and]
       exact zwl hj1 (by rw [← hrow];exact h)
      have HY:Hid (rowP n row=true→(tb.rows.take (j+1)).all (rowP n)=true):=Lib.hid fun h=>zzx hj1 HA.out (by rw [← hrow];exact h)
      clear hra hg hu hcu hrow e2 HA
      obtain ⟨lr,hlr2⟩:∃ lr,lr=row.length:=⟨_,rfl⟩
      rw [← hlr2] at cj hlu HUU
      have HLR:=Lib.hid hlr2
      clear hlr2
      have hB:=HB.out
      clear HB
      by_cases heq:lr=n
      ·subst heq
       go_upto_region 6 with fail
       have hUr:=HUr.out
       refine wp_region_held_drew (S:=fun W'=>W'.heap[g0]?=some (.cells #[.slice pV lr kV,.slice (some ⟨g,off,none⟩) m kR] 25)∧W'.cell? ⟨g,off+j,none⟩=some (.slice pu lr ku)) (by kernel_rfl) ⟨hUr,cj⟩ (fun hh=>?_)
       replace cj:wr.drew.cell? ⟨g,off+j,none⟩=_:=cj
       have hUr:wr.drew.heap[g0]?=some (.cells #[.slice pV lr kV,.slice (some ⟨g,off,none⟩) m kR] 25)∧wr.drew.cell? ⟨g,off+j,none⟩=some (.slice pu lr ku):=hh
       clear hh
       replace hB:=hB.drew
       have bq:Below wr.heap.size wr wr.drew:=(Below.refl _ _).drew
       clear c0 c1
       generalize wr.drew=wD at*
       refine tg (i:=0) (.pointer (some ⟨g0,1,none⟩)) rfl (hUr) ?_
       refine tg (i:=2) (.int .i64 (j:Int)) rfl (hUr) ?_
       refine tg (i:=6) (.pointer (some ⟨g0,0,none⟩)) rfl (hUr) ?_
       refine tk (i:=1) (v:=.slice (some ⟨g,off,none⟩) m kR) rfl (Or.inl ⟨by rfl,fun W' h=>by have c1:=zad h.1 1 rfl;go_simp⟩) (hUr) ?_
       refine tk (i:=7) (v:=.slice pV lr kV) rfl (Or.inl ⟨by rfl,fun W' h=>by have c0:=zad h.1 0 rfl;go_simp⟩) (hUr) ?_
       refine tg (i:=3) (.pointer (some ⟨g,off+j,none⟩)) rfl (hUr) ?_
       refine tg (i:=8) (.int .i64 (lr:Int)) rfl (hUr) ?_
       refine tk (i:=4) (v:=.slice pu lr ku) rfl (Or.inl ⟨by rfl,fun W' h=>by have cj:=h.2;go_simp⟩) (hUr) ?_
       refine tg (i:=5) (.int .i64 (lr:Int)) rfl (hUr) ?_
       refine tg (i:=9) (.bool false) rfl (hUr) ?_
       refine wpAnyH_done (by kernel_rfl) ?_ _
       have HUD:=Lib.hid hUr
       have HBD:=Lib.hid hB
       have HUU2:=Lib.hid (HUU.out.stays (zae bq))
       clear cj hB bq hUr HUU HUr
       go_wp2_with fail
       go_loopg [4] lr (fun gg s4 wx=>∃ k:Nat,k+gg=lr∧s4=.int .i64 k∧Hid ((row.take k).all (mayP · 0)=true)∧Hid (Below wD.heap.size wD wx))
       case atStart=>exact ⟨0,by omega,rfl,Lib.hid (by simp),Lib.hid (Below.refl _ _)⟩
       case round=>
        obtain ⟨k,hkg,rfl,HA,HB⟩:=hrel
        have c0:wr.cell? ⟨g0,0,none⟩=some (.slice pV lr kV):=zad ((HB.out.block _ (zaa HUD.out.1)).trans HUD.out.1) 0 rfl
        have c1:wr.cell? ⟨g0,1,none⟩=some (.slice (some ⟨g,off,none⟩) m kR):=zad ((HB.out.block _ (zaa HUD.out.1)).trans HUD.out.1) 1 rfl
        have cj:wr.cell? ⟨g,off+j,none⟩=some (.slice pu lr ku):=zbj HUD.out.2 HB.out
        by_cases hk:(k:Int) < lr
        ·have hk1:k < row.length:=by have:=HLR.out;omega
         obtain ⟨g2,off2,cap2,c,e0,hg2,hrl2,hra2⟩:=(HUU2.out.stays (zae HB.out)).at_ k hk1
         injection e0 with e1 e2 e3
         subst e1 e3
         obtain ⟨v,hv⟩:∃ v,v=row[k]:=⟨_,rfl⟩
         rw [← hv] at hrl2
         have HMV:=Lib.hid (refMayV v c _ wr hrl2)
         have hrange:wr.rangeAt g2 (off2+k*6) c:=hra2
         have hc6:c.length=6:=valE.len hrl2
         obtain ⟨s,hs⟩:∃ s,s=mayP v 0:=⟨_,rfl⟩
         rw [← hs] at HMV
         have HN2:Hid (s=false→r=false):=Lib.hid fun h=>HN.out (ztm hk1 (by rw [← hv,← hs];exact h))
         have HY2:Hid (s=true→(row.take (k+1)).all (mayP · 0)=true):=Lib.hid fun h=>zwm hk1 HA.out (by rw [← hv,← hs];exact h)
         clear hra2 hg2 hrl2 e2 HA hv hs
         cases s with
         | false=>
           obtain rfl:r=false:=HN2.out rfl
           go_wp2_with (first
            |((with_reducible refine za3 (.tmp 45) g2 (off2+k*6) 48 c 6 _ hrange hc6 Tryz.underlying48 rfl zap ?_ ?_ ?_ ?_);rfl;rfl;rfl)
            |(go_at_call 53;(with_reducible refine HMV.out.mono ?_);rintro e w5 ⟨rfl,hb5⟩))
           go_ret
           have b2:=HBD.out.trans (HB.out.mono HBD.out.size)
           exact ⟨rfl,HB1.out.trans ((b2.trans (hb5.mono b2.size)).mono HB1.out.size)⟩
         | true=>
           have HY3:=Lib.hid (HY2.out rfl)
           go_wp2_with (first
            |((with_reducible refine za3 (.tmp 45) g2 (off2+k*6) 48 c 6 _ hrange hc6 Tryz.underlying48 rfl zap ?_ ?_ ?_ ?_);rfl;rfl;rfl)
            |(go_at_call 53;(with_reducible refine HMV.out.mono ?_);rintro e w5 ⟨rfl,hb5⟩))
           go_roundg (gk - 1)
           case measure=>omega
           case rel=>exact ⟨k+1,by omega,by go_num,HY3,Lib.hid (HB.out.trans (hb5.mono HB.out.size))⟩
        ·have HRY:=Lib.hid (HY.out (row_yes HLR.out.symm (by
          have h:=HA.out
          rw [show k=lr by omega] at h
          exact h)))
         clear HN HY
         go_wp2_with fail
         go_roundg (m - j - 1)
         case measure=>omega
         case rel=>exact ⟨j+1,by omega,by go_num,HRY,Lib.hid (HBD.out.trans (HB.out.mono HBD.out.size))⟩
      ·obtain rfl:r=false:=HN.out (zwn (by rw [← HLR.out];exact heq))
       have hne:((lr:Int) == n)=false:=by rw [beq_eq_false_iff_ne];omega
       have hne2:((lr:Int) != n)=true:=congrArg not hne
       go_upto_region 6 with fail
       have hUr:=HUr.out
       refine wp_region_held_drew (S:=fun W'=>W'.heap[g0]?=some (.cells #[.slice pV n kV,.slice (some ⟨g,off,none⟩) m kR] 25)∧W'.cell? ⟨g,off+j,none⟩=some (.slice pu lr ku)) (by kernel_rfl) ⟨hUr,cj⟩ (fun hh=>?_)
       replace cj:wr.drew.cell? ⟨g,off+j,none⟩=_:=cj
       have hUr:wr.drew.heap[g0]?=some (.cells #[.slice pV n kV,.slice (some ⟨g,off,none⟩) m kR] 25)∧wr.drew.cell? ⟨g,off+j,none⟩=some (.slice pu lr ku):=hh
       clear hh
       replace hB:=hB.drew
       have bq:Below wr.heap.size wr wr.drew:=(Below.refl _ _).drew
       clear c0 c1
       generalize wr.drew=wD at*
       refine tg (i:=0) (.pointer (some ⟨g0,1,none⟩)) rfl (hUr) ?_
       refine tg (i:=2) (.int .i64 (j:Int)) rfl (hUr) ?_
       refine tg (i:=6) (.pointer (some ⟨g0,0,none⟩)) rfl (hUr) ?_
       refine tk (i:=1) (v:=.slice (some ⟨g,off,none⟩) m kR) rfl (Or.inl ⟨by rfl,fun W' h=>by have c1:=zad h.1 1 rfl;go_simp⟩) (hUr) ?_
       refine tk (i:=7) (v:=.slice pV n kV) rfl (Or.inl ⟨by rfl,fun W' h=>by have c0:=zad h.1 0 rfl;go_simp⟩) (hUr) ?_
       refine tg (i:=3) (.pointer (some ⟨g,off+j,none⟩)) rfl (hUr) ?_
       refine tg (i:=8) (.int .i64 (n:Int)) rfl (hUr) ?_
       refine tk (i:=4) (v:=.slice pu lr ku) rfl (Or.inl ⟨by rfl,fun W' h=>by have cj:=h.2;go_simp⟩) (hUr) ?_
       refine tg (i:=5) (.int .i64 (lr:Int)) rfl (hUr) ?_
       refine tg (i:=9) (.bool true) rfl (hUr) ?_
       refine wpAnyH_done (by kernel_rfl) ?_ _
       go_wp2_with fail
       go_ret
       exact ⟨rfl,HB1.out.trans (hB.mono HB1.out.size)⟩
     ·have HZ:Hid (r=true):=Lib.hid (by
       have h:=HA.out
       rw [List.take_of_length_le (by have:=HM.out;omega)] at h
       rw [HP2.out,h]
       rfl)
      go_wp2_with fail
      go_ret
      exact ⟨by rw [HZ.out];rfl,HB1.out.trans (HB.out.mono HB1.out.size)⟩
 ·have h64:decide ((64:Int) < n)=true:=decide_eq_true (by omega)
  obtain rfl:r=false:=by rw [HP.out,decide_eq_false hle];rfl
  go_enter Tryz.func13,Tryz.ntmps13
  go_upto_region 1 with fail
  rw [← HW.out]
  rw [← HG0.out]
  go_wp2_with fail
  go_ret
  exact ⟨rfl,HBW.out⟩
theorem zbo {w:World} {g:Nat} {c:Array Value} {t:TypeId} (h:w.heap[g]?=some (.cells c t)) (pre post:List Value) {xs:List Value} (e:c=(pre++xs++post).toArray):w.rangeAt g pre.length xs:=
 zce h _ _ fun j u hu=>by
  subst e
  rw [List.getElem?_toArray,List.append_assoc,List.getElem?_append_right (by omega),show pre.length+j - pre.length=j by omega,List.getElem?_append_left (List.getElem?_eq_some_iff.1 hu).1]
  exact hu
structure ztn (W:World) (a b:TabL) (VA RA VB RB:Value):Prop where
 ha:tabE.rel W (Old W) [VA,RA] a
 hb:tabE.rel W (Old W) [VB,RB] b
 wa:∀ r∈a.rows,wAll r≤2097152
 wb:∀ r∈b.rows,wAll r≤2097152
theorem ztn.below {W W':World} {a b:TabL} {VA RA VB RB:Value} (h:ztn W a b VA RA VB RB) (k:Below W.heap.size W W'):ztn W' a b VA RA VB RB:=⟨tabE.stays (zae k) h.ha,tabE.stays (zae k) h.hb,h.wa,h.wb⟩
theorem lightAt (a b:TabL) (VA RA VB RB VV NN:Value) (lang:Int) (W:World) (h:ztn W a b VA RA VB RB):Calls Tryz.prog 10 #[.agg #[VA,RA,VB,RB,VV,.int .i64 lang,NN]] W fun e w'=>e=.returned (.bool (zlf a b))∧Below W.heap.size W w':=by
 obtain ⟨V',R',e,hva,hra,hcva,hcra,hlva,hlra⟩:=h.ha
 cases e
 obtain ⟨V',R',e,hvb,hrb,hcvb,hcrb,hlvb,hlrb⟩:=h.hb
 cases e
 obtain ⟨pA,kA,rfl⟩:=hva.slice
 obtain ⟨qA,lA,rfl⟩:=hra.slice
 obtain ⟨pB,kB,rfl⟩:=hvb.slice
 obtain ⟨qB,lB,rfl⟩:=hrb.slice
 obtain ⟨W1,hW1⟩:∃ W1,W1=W.alloc (.cells #[.slice pA a.vars.length kA,.slice qA a.rows.length lA,.slice pB b.vars.length kB,.slice qB b.rows.length lB,VV,.int .i64 lang,NN] 28):=⟨_,rfl⟩
 have b1:Below W.heap.size W W1:=by rw [hW1];exact zav _ _
 obtain ⟨g0,hg0⟩:∃ g0,g0=W.heap.size:=⟨_,rfl⟩
 have u1:W1.heap[g0]?=some (.cells #[.slice pA a.vars.length kA,.slice qA a.rows.length lA,.slice pB b.vars.length kB,.slice qB b.rows.length lB,VV,.int .i64 lang,NN] 28):=by rw [hW1,hg0];exact zaf _ _ rfl
 have HA:=Lib.hid (zpk _ a.rows W1 (hra.stays (zae b1)) hlra)
 have HB:Hid (∀ w',Below W1.heap.size W1 w'→Calls Tryz.prog 48 #[.slice qB b.rows.length lB] w' fun e w2=>e=.returned (.int .i64 (zbz b.rows 0))∧Below w'.heap.size w' w2):=Lib.hid fun w' k=>zpk _ b.rows w' (hrb.stays (zae (zab b1 k b1.size))) hlrb
 have HW:=Lib.hid hW1
 have HG0:=Lib.hid hg0
 have HB1:=Lib.hid b1
 obtain ⟨r,hr⟩:∃ r,r=zlf a b:=⟨_,rfl⟩
 have hr2:=hr
 unfold zlf at hr2
 rw [← hr]
 have HR:=Lib.hid hr2
 have a1:=zad u1 1 rfl
 clear hva hra hvb hrb hcva hcra hcvb hcrb hW1 b1 hr hr2 h hg0
 generalize zbz a.rows 0=z1 at*
 generalize zbz b.rows 0=z2 at*
 generalize a.rows.length=n1 at*
 generalize b.rows.length=n2 at*
 generalize a.vars.length=m1 at*
 generalize b.vars.length=m2 at*
 by_cases h0:z1≤3000
 ·by_cases h1:z2≤3000
  ·by_cases h2:n1≤60
   ·by_cases h3:n2≤60
    ·by_cases h4:m1≤100
     ·by_cases h5:m2≤100
      ·obtain rfl:r=true:=by rw [HR.out,decide_eq_true (h0:(z1≤3000)),decide_eq_true (h1:(z2≤3000)),decide_eq_true (h2:(n1≤60)),decide_eq_true (h3:(n2≤60)),decide_eq_true (h4:(m1≤100)),decide_eq_true (h5:(m2≤100))];rfl
       clear HR
       have x0:decide (z1≤3000)=true:=decide_eq_true (by omega)
       have x1:decide (z2≤3000)=true:=decide_eq_true (by omega)
       have x2:decide ((n1:Int)≤60)=true:=decide_eq_true (by omega)
       have x3:decide ((n2:Int)≤60)=true:=decide_eq_true (by omega)
       have x4:decide ((m1:Int)≤100)=true:=decide_eq_true (by omega)
       have x5:decide ((m2:Int)≤100)=true:=decide_eq_true (by omega)
       go_enter Tryz.func10,Tryz.ntmps10
       go_upto_region 1 with fail
       rw [← HW.out,← HG0.out]
       go_wp2_with (first
        |(go_at_call 48;(with_reducible refine HA.out.mono ?_);rintro e w1 ⟨rfl,hb1⟩;have v1:=(hb1.block _ (zaa u1)).trans u1;have a3:=zad v1 3 rfl)
        |(go_at_call 48;(with_reducible refine (HB.out _ hb1).mono ?_);rintro e w2 ⟨rfl,hb2⟩;have v2:=(hb2.block _ (zaa v1)).trans v1;have d1:=zad v2 1 rfl;have d3:=zad v2 3 rfl;have d0:=zad v2 0 rfl;have d2:=zad v2 2 rfl))
       go_ret
       exact ⟨rfl,HB1.out.trans ((hb1.trans (hb2.mono hb1.size)).mono HB1.out.size)⟩
      ·obtain rfl:r=false:=by rw [HR.out,decide_eq_true (h0:(z1≤3000)),decide_eq_true (h1:(z2≤3000)),decide_eq_true (h2:(n1≤60)),decide_eq_true (h3:(n2≤60)),decide_eq_true (h4:(m1≤100)),decide_eq_false (h5:¬ (m2≤100))];rfl
       clear HR
       have x0:decide (z1≤3000)=true:=decide_eq_true (by omega)
       have x1:decide (z2≤3000)=true:=decide_eq_true (by omega)
       have x2:decide ((n1:Int)≤60)=true:=decide_eq_true (by omega)
       have x3:decide ((n2:Int)≤60)=true:=decide_eq_true (by omega)
       have x4:decide ((m1:Int)≤100)=true:=decide_eq_true (by omega)
       have x5:decide ((m2:Int)≤100)=false:=decide_eq_false (by omega)
       go_enter Tryz.func10,Tryz.ntmps10
       go_upto_region 1 with fail
       rw [← HW.out,← HG0.out]
       go_wp2_with (first
        |(go_at_call 48;(with_reducible refine HA.out.mono ?_);rintro e w1 ⟨rfl,hb1⟩;have v1:=(hb1.block _ (zaa u1)).trans u1;have a3:=zad v1 3 rfl)
        |(go_at_call 48;(with_reducible refine (HB.out _ hb1).mono ?_);rintro e w2 ⟨rfl,hb2⟩;have v2:=(hb2.block _ (zaa v1)).trans v1;have d1:=zad v2 1 rfl;have d3:=zad v2 3 rfl;have d0:=zad v2 0 rfl;have d2:=zad v2 2 rfl))
       go_ret
       exact ⟨rfl,HB1.out.trans ((hb1.trans (hb2.mono hb1.size)).mono HB1.out.size)⟩
     ·obtain rfl:r=false:=by rw [HR.out,decide_eq_true (h0:(z1≤3000)),decide_eq_true (h1:(z2≤3000)),decide_eq_true (h2:(n1≤60)),decide_eq_true (h3:(n2≤60)),decide_eq_false (h4:¬ (m1≤100))];rfl
      clear HR
      have x0:decide (z1≤3000)=true:=decide_eq_true (by omega)
      have x1:decide (z2≤3000)=true:=decide_eq_true (by omega)
      have x2:decide ((n1:Int)≤60)=true:=decide_eq_true (by omega)
      have x3:decide ((n2:Int)≤60)=true:=decide_eq_true (by omega)
      have x4:decide ((m1:Int)≤100)=false:=decide_eq_false (by omega)
      go_enter Tryz.func10,Tryz.ntmps10
      go_upto_region 1 with fail
      rw [← HW.out,← HG0.out]
      go_wp2_with (first
       |(go_at_call 48;(with_reducible refine HA.out.mono ?_);rintro e w1 ⟨rfl,hb1⟩;have v1:=(hb1.block _ (zaa u1)).trans u1;have a3:=zad v1 3 rfl)
       |(go_at_call 48;(with_reducible refine (HB.out _ hb1).mono ?_);rintro e w2 ⟨rfl,hb2⟩;have v2:=(hb2.block _ (zaa v1)).trans v1;have d1:=zad v2 1 rfl;have d3:=zad v2 3 rfl;have d0:=zad v2 0 rfl;have d2:=zad v2 2 rfl))
      go_ret
      exact ⟨rfl,HB1.out.trans ((hb1.trans (hb2.mono hb1.size)).mono HB1.out.size)⟩
    ·obtain rfl:r=false:=by rw [HR.out,decide_eq_true (h0:(z1≤3000)),decide_eq_true (h1:(z2≤3000)),decide_eq_true (h2:(n1≤60)),decide_eq_false (h3:¬ (n2≤60))];rfl
     clear HR
     have x0:decide (z1≤3000)=true:=decide_eq_true (by omega)
     have x1:decide (z2≤3000)=true:=decide_eq_true (by omega)
     have x2:decide ((n1:Int)≤60)=true:=decide_eq_true (by omega)
     have x3:decide ((n2:Int)≤60)=false:=decide_eq_false (by omega)
     go_enter Tryz.func10,Tryz.ntmps10
     go_upto_region 1 with fail
     rw [← HW.out,← HG0.out]
     go_wp2_with (first
      |(go_at_call 48;(with_reducible refine HA.out.mono ?_);rintro e w1 ⟨rfl,hb1⟩;have v1:=(hb1.block _ (zaa u1)).trans u1;have a3:=zad v1 3 rfl)
      |(go_at_call 48;(with_reducible refine (HB.out _ hb1).mono ?_);rintro e w2 ⟨rfl,hb2⟩;have v2:=(hb2.block _ (zaa v1)).trans v1;have d1:=zad v2 1 rfl;have d3:=zad v2 3 rfl;have d0:=zad v2 0 rfl;have d2:=zad v2 2 rfl))
     go_ret
     exact ⟨rfl,HB1.out.trans ((hb1.trans (hb2.mono hb1.size)).mono HB1.out.size)⟩
   ·obtain rfl:r=false:=by rw [HR.out,decide_eq_true (h0:(z1≤3000)),decide_eq_true (h1:(z2≤3000)),decide_eq_false (h2:¬ (n1≤60))];rfl
    clear HR
    have x0:decide (z1≤3000)=true:=decide_eq_true (by omega)
    have x1:decide (z2≤3000)=true:=decide_eq_true (by omega)
    have x2:decide ((n1:Int)≤60)=false:=decide_eq_false (by omega)
    go_enter Tryz.func10,Tryz.ntmps10
    go_upto_region 1 with fail
    rw [← HW.out,← HG0.out]
    go_wp2_with (first
     |(go_at_call 48;(with_reducible refine HA.out.mono ?_);rintro e w1 ⟨rfl,hb1⟩;have v1:=(hb1.block _ (zaa u1)).trans u1;have a3:=zad v1 3 rfl)
     |(go_at_call 48;(with_reducible refine (HB.out _ hb1).mono ?_);rintro e w2 ⟨rfl,hb2⟩;have v2:=(hb2.block _ (zaa v1)).trans v1;have d1:=zad v2 1 rfl;have d3:=zad v2 3 rfl;have d0:=zad v2 0 rfl;have d2:=zad v2 2 rfl))
    go_ret
    exact ⟨rfl,HB1.out.trans ((hb1.trans (hb2.mono hb1.size)).mono HB1.out.size)⟩
  ·obtain rfl:r=false:=by rw [HR.out,decide_eq_true (h0:(z1≤3000)),decide_eq_false (h1:¬ (z2≤3000))];rfl
   clear HR
   have x0:decide (z1≤3000)=true:=decide_eq_true (by omega)
   have x1:decide (z2≤3000)=false:=decide_eq_false (by omega)
   go_enter Tryz.func10,Tryz.ntmps10
   go_upto_region 1 with fail
   rw [← HW.out,← HG0.out]
   go_wp2_with (first
    |(go_at_call 48;(with_reducible refine HA.out.mono ?_);rintro e w1 ⟨rfl,hb1⟩;have v1:=(hb1.block _ (zaa u1)).trans u1;have a3:=zad v1 3 rfl)
    |(go_at_call 48;(with_reducible refine (HB.out _ hb1).mono ?_);rintro e w2 ⟨rfl,hb2⟩;have v2:=(hb2.block _ (zaa v1)).trans v1;have d1:=zad v2 1 rfl;have d3:=zad v2 3 rfl;have d0:=zad v2 0 rfl;have d2:=zad v2 2 rfl))
   go_ret
   exact ⟨rfl,HB1.out.trans ((hb1.trans (hb2.mono hb1.size)).mono HB1.out.size)⟩
 ·obtain rfl:r=false:=by rw [HR.out,decide_eq_false (h0:¬ (z1≤3000))];rfl
  clear HR
  have x0:decide (z1≤3000)=false:=decide_eq_false (by omega)
  go_enter Tryz.func10,Tryz.ntmps10
  go_upto_region 1 with fail
  rw [← HW.out,← HG0.out]
  go_wp2_with (first
   |(go_at_call 48;(with_reducible refine HA.out.mono ?_);rintro e w1 ⟨rfl,hb1⟩;have v1:=(hb1.block _ (zaa u1)).trans u1;have a3:=zad v1 3 rfl)
   |(go_at_call 48;(with_reducible refine (HB.out _ hb1).mono ?_);rintro e w2 ⟨rfl,hb2⟩;have v2:=(hb2.block _ (zaa v1)).trans v1;have d1:=zad v2 1 rfl;have d3:=zad v2 3 rfl;have d0:=zad v2 0 rfl;have d2:=zad v2 2 rfl))
  go_ret
  exact ⟨rfl,HB1.out.trans (hb1.mono HB1.out.size)⟩
def mayB (a b:TabL):Bool:=zlf a b && tabP a && tabP b && decide (a.vars.length+b.vars.length≤64) && decide (a.rows.length*b.rows.length≤900)
theorem zzy {a b:TabL} (h:mayB a b=true) (ha:∀ r∈a.rows,wAll r≤2097152) (hb:∀ r∈b.rows,wAll r≤2097152):
 tabP a=true∧tabP b=true∧a.vars.length+b.vars.length≤64∧a.rows.length*b.rows.length≤900∧zdz a.rows∧zdz b.rows∧a.rows.length≤60∧b.rows.length≤60:=by
 unfold mayB at h
 simp only [Bool.and_eq_true,decide_eq_true_eq] at h
 obtain ⟨⟨⟨⟨h1,h2⟩,h3⟩,h4⟩,h5⟩:=h
 have h6:=zjb h1 ha hb
 exact ⟨h2,h3,h4,h5,h6.1,h6.2.1,h6.2.2.1,h6.2.2.2⟩
theorem zeu:(Tryz.prog.info? 28).map (·.size)=some 7:=by kernel_rfl
theorem mayAt (a b:TabL) (VA RA VB RB VV NN:Value) (lang:Int) (W:World) (h:ztn W a b VA RA VB RB) (_hV:VV.oneCell'=true) (_hN:NN.oneCell'=true):Calls Tryz.prog 37 #[.agg #[VA,RA,VB,RB,VV,.int .i64 lang,NN]] W fun e w'=>e=.returned (.bool (mayB a b))∧Below W.heap.size W w':=by
 have HL:Hid (∀ w',Below W.heap.size W w'→Calls Tryz.prog 10 #[.agg #[VA,RA,VB,RB,VV,.int .i64 lang,NN]] w' fun e w2=>e=.returned (.bool (zlf a b))∧Below w'.heap.size w' w2):=Lib.hid fun w' k=>lightAt a b _ _ _ _ _ _ lang w' (h.below k)
 have HMA:Hid (∀ w',Below W.heap.size W w'→Calls Tryz.prog 13 #[.agg #[VA,RA]] w' fun e w2=>e=.returned (.bool (tabP a))∧Below w'.heap.size w' w2):=Lib.hid fun w' k=>zr4 a _ _ w' (h.below k).ha
 have HMB:Hid (∀ w',Below W.heap.size W w'→Calls Tryz.prog 13 #[.agg #[VB,RB]] w' fun e w2=>e=.returned (.bool (tabP b))∧Below w'.heap.size w' w2):=Lib.hid fun w' k=>zr4 b _ _ w' (h.below k).hb
 have HS:Hid (zlf a b=true→a.rows.length≤60∧b.rows.length≤60):=Lib.hid fun q=>⟨(zjb q h.wa h.wb).2.2.1,(zjb q h.wa h.wb).2.2.2⟩
 obtain ⟨V',R',e,hva,hra,hcva,hcra,hlva,hlra⟩:=h.ha
 cases e
 obtain ⟨V',R',e,hvb,hrb,hcvb,hcrb,hlvb,hlrb⟩:=h.hb
 cases e
 obtain ⟨pA,kA,rfl⟩:=hva.slice
 obtain ⟨qA,lA,rfl⟩:=hra.slice
 obtain ⟨pB,kB,rfl⟩:=hvb.slice
 obtain ⟨qB,lB,rfl⟩:=hrb.slice
 obtain ⟨W1,hW1⟩:∃ W1,W1=W.alloc (.cells #[.slice pA a.vars.length kA,.slice qA a.rows.length lA,.slice pB b.vars.length kB,.slice qB b.rows.length lB,VV,.int .i64 lang,NN] 28):=⟨_,rfl⟩
 have b1:Below W.heap.size W W1:=by rw [hW1];exact zav _ _
 obtain ⟨g0,hg0⟩:∃ g0,g0=W.heap.size:=⟨_,rfl⟩
 have u1:W1.heap[g0]?=some (.cells #[.slice pA a.vars.length kA,.slice qA a.rows.length lA,.slice pB b.vars.length kB,.slice qB b.rows.length lB,VV,.int .i64 lang,NN] 28):=by rw [hW1,hg0];exact zaf _ _ rfl
 have HW:=Lib.hid hW1
 have HG0:=Lib.hid hg0
 have hbw:=b1
 obtain ⟨r,hr⟩:∃ r,r=mayB a b:=⟨_,rfl⟩
 have hr2:=hr
 unfold mayB at hr2
 rw [← hr]
 have HR:=Lib.hid hr2
 clear hva hra hvb hrb hcva hcra hcvb hcrb hW1 b1 hr hr2 h hg0
 generalize zlf a b=c0 at*
 generalize tabP a=c1 at*
 generalize tabP b=c2 at*
 generalize a.rows.length=n1 at*
 generalize b.rows.length=n2 at*
 generalize a.vars.length=m1 at*
 generalize b.vars.length=m2 at*
 cases c0 with
 | false=>
   obtain rfl:r=false:=by rw [HR.out];rfl
   clear HR HS
   go_enter Tryz.func37,Tryz.ntmps37
   go_upto_region 1 with fail
   rw [← HW.out,← HG0.out]
   go_wp2_with (first
    |((with_reducible refine zah (.tmp 1) g0 28 28 [.slice pA m1 kA,.slice qA n1 lA,.slice pB m2 kB,.slice qB n2 lB,VV,.int .i64 lang,NN] 7 _ u1 rfl Tryz.underlying28 rfl zeu ?_ ?_ ?_ ?_);rfl;rfl;rfl)
    |(go_at_call 10;(with_reducible refine (HL.out _ hbw).mono ?_);rintro e w1 ⟨rfl,hb1⟩;replace u1:=(hb1.block _ (zaa u1)).trans u1;replace hbw:=zab hbw hb1 hbw.size;clear hb1;have r1:w1.rangeAt g0 0 [.slice pA m1 kA,.slice qA n1 lA]:=zbo u1 [] [.slice pB m2 kB,.slice qB n2 lB,VV,.int .i64 lang,NN] rfl)
    |((with_reducible refine zbg ?_ (.tmp 6) g0 0 25 [.slice pA m1 kA,.slice qA n1 lA] 2 _ r1 rfl Tryz.underlying25 rfl zag ?_ ?_ ?_);rfl;rfl;rfl)
    |(go_at_call 13;(with_reducible refine (HMA.out _ hbw).mono ?_);rintro e w2 ⟨rfl,hb2⟩;replace u1:=(hb2.block _ (zaa u1)).trans u1;replace hbw:=zab hbw hb2 hbw.size;clear hb2 r1;have r2:w2.rangeAt g0 2 [.slice pB m2 kB,.slice qB n2 lB]:=zbo u1 [.slice pA m1 kA,.slice qA n1 lA] [VV,.int .i64 lang,NN] rfl)
    |((with_reducible refine zbg ?_ (.tmp 11) g0 2 25 [.slice pB m2 kB,.slice qB n2 lB] 2 _ r2 rfl Tryz.underlying25 rfl zag ?_ ?_ ?_);rfl;rfl;rfl)
    |(go_at_call 13;(with_reducible refine (HMB.out _ hbw).mono ?_);rintro e w3 ⟨rfl,hb3⟩;replace u1:=(hb3.block _ (zaa u1)).trans u1;replace hbw:=zab hbw hb3 hbw.size;clear hb3 r2;have d0:=zad u1 0 rfl;have d1:=zad u1 1 rfl;have d2:=zad u1 2 rfl;have d3:=zad u1 3 rfl))
   go_ret
   exact ⟨rfl,hbw⟩
 | true=>
   cases c1 with
   | false=>
     obtain rfl:r=false:=by rw [HR.out];rfl
     clear HR HS
     go_enter Tryz.func37,Tryz.ntmps37
     go_upto_region 1 with fail
     rw [← HW.out,← HG0.out]
     go_wp2_with (first
      |((with_reducible refine zah (.tmp 1) g0 28 28 [.slice pA m1 kA,.slice qA n1 lA,.slice pB m2 kB,.slice qB n2 lB,VV,.int .i64 lang,NN] 7 _ u1 rfl Tryz.underlying28 rfl zeu ?_ ?_ ?_ ?_);rfl;rfl;rfl)
      |(go_at_call 10;(with_reducible refine (HL.out _ hbw).mono ?_);rintro e w1 ⟨rfl,hb1⟩;replace u1:=(hb1.block _ (zaa u1)).trans u1;replace hbw:=zab hbw hb1 hbw.size;clear hb1;have r1:w1.rangeAt g0 0 [.slice pA m1 kA,.slice qA n1 lA]:=zbo u1 [] [.slice pB m2 kB,.slice qB n2 lB,VV,.int .i64 lang,NN] rfl)
      |((with_reducible refine zbg ?_ (.tmp 6) g0 0 25 [.slice pA m1 kA,.slice qA n1 lA] 2 _ r1 rfl Tryz.underlying25 rfl zag ?_ ?_ ?_);rfl;rfl;rfl)
      |(go_at_call 13;(with_reducible refine (HMA.out _ hbw).mono ?_);rintro e w2 ⟨rfl,hb2⟩;replace u1:=(hb2.block _ (zaa u1)).trans u1;replace hbw:=zab hbw hb2 hbw.size;clear hb2 r1;have r2:w2.rangeAt g0 2 [.slice pB m2 kB,.slice qB n2 lB]:=zbo u1 [.slice pA m1 kA,.slice qA n1 lA] [VV,.int .i64 lang,NN] rfl)
      |((with_reducible refine zbg ?_ (.tmp 11) g0 2 25 [.slice pB m2 kB,.slice qB n2 lB] 2 _ r2 rfl Tryz.underlying25 rfl zag ?_ ?_ ?_);rfl;rfl;rfl)
      |(go_at_call 13;(with_reducible refine (HMB.out _ hbw).mono ?_);rintro e w3 ⟨rfl,hb3⟩;replace u1:=(hb3.block _ (zaa u1)).trans u1;replace hbw:=zab hbw hb3 hbw.size;clear hb3 r2;have d0:=zad u1 0 rfl;have d1:=zad u1 1 rfl;have d2:=zad u1 2 rfl;have d3:=zad u1 3 rfl))
     go_ret
     exact ⟨rfl,hbw⟩
   | true=>
     cases c2 with
     | false=>
       obtain rfl:r=false:=by rw [HR.out];rfl
       clear HR HS
       go_enter Tryz.func37,Tryz.ntmps37
       go_upto_region 1 with fail
       rw [← HW.out,← HG0.out]
       go_wp2_with (first
        |((with_reducible refine zah (.tmp 1) g0 28 28 [.slice pA m1 kA,.slice qA n1 lA,.slice pB m2 kB,.slice qB n2 lB,VV,.int .i64 lang,NN] 7 _ u1 rfl Tryz.underlying28 rfl zeu ?_ ?_ ?_ ?_);rfl;rfl;rfl)
        |(go_at_call 10;(with_reducible refine (HL.out _ hbw).mono ?_);rintro e w1 ⟨rfl,hb1⟩;replace u1:=(hb1.block _ (zaa u1)).trans u1;replace hbw:=zab hbw hb1 hbw.size;clear hb1;have r1:w1.rangeAt g0 0 [.slice pA m1 kA,.slice qA n1 lA]:=zbo u1 [] [.slice pB m2 kB,.slice qB n2 lB,VV,.int .i64 lang,NN] rfl)
        |((with_reducible refine zbg ?_ (.tmp 6) g0 0 25 [.slice pA m1 kA,.slice qA n1 lA] 2 _ r1 rfl Tryz.underlying25 rfl zag ?_ ?_ ?_);rfl;rfl;rfl)
        |(go_at_call 13;(with_reducible refine (HMA.out _ hbw).mono ?_);rintro e w2 ⟨rfl,hb2⟩;replace u1:=(hb2.block _ (zaa u1)).trans u1;replace hbw:=zab hbw hb2 hbw.size;clear hb2 r1;have r2:w2.rangeAt g0 2 [.slice pB m2 kB,.slice qB n2 lB]:=zbo u1 [.slice pA m1 kA,.slice qA n1 lA] [VV,.int .i64 lang,NN] rfl)
        |((with_reducible refine zbg ?_ (.tmp 11) g0 2 25 [.slice pB m2 kB,.slice qB n2 lB] 2 _ r2 rfl Tryz.underlying25 rfl zag ?_ ?_ ?_);rfl;rfl;rfl)
        |(go_at_call 13;(with_reducible refine (HMB.out _ hbw).mono ?_);rintro e w3 ⟨rfl,hb3⟩;replace u1:=(hb3.block _ (zaa u1)).trans u1;replace hbw:=zab hbw hb3 hbw.size;clear hb3 r2;have d0:=zad u1 0 rfl;have d1:=zad u1 1 rfl;have d2:=zad u1 2 rfl;have d3:=zad u1 3 rfl))
       go_ret
       exact ⟨rfl,hbw⟩
     | true=>
       obtain ⟨s1,s2⟩:=HS.out rfl
       by_cases h3:m1+m2≤64
       ·by_cases h4:n1*n2≤900
        ·obtain rfl:r=true:=by rw [HR.out,decide_eq_true h3,decide_eq_true h4];rfl
         clear HR HS
         have x3:decide ((m1:Int)+m2≤64)=true:=decide_eq_true (by omega)
         obtain ⟨q,hq⟩:∃ q,(n1:Int)*n2=q:=⟨_,rfl⟩
         have q1:q≤3600:=by
          rw [← hq]
          have:=Nat.mul_le_mul s1 s2
          have e:((n1*n2:Nat):Int)=(n1:Int)*n2:=Int.natCast_mul _ _
          omega
         have q0:0≤q:=by rw [← hq];exact Int.mul_nonneg (by omega) (by omega)
         have x4:decide (q≤900)=true:=decide_eq_true (by
          have e:((n1*n2:Nat):Int)=(n1:Int)*n2:=Int.natCast_mul _ _
          omega)
         go_enter Tryz.func37,Tryz.ntmps37
         go_upto_region 1 with fail
         rw [← HW.out,← HG0.out]
         go_wp2_with (first
          |((with_reducible refine zah (.tmp 1) g0 28 28 [.slice pA m1 kA,.slice qA n1 lA,.slice pB m2 kB,.slice qB n2 lB,VV,.int .i64 lang,NN] 7 _ u1 rfl Tryz.underlying28 rfl zeu ?_ ?_ ?_ ?_);rfl;rfl;rfl)
          |(go_at_call 10;(with_reducible refine (HL.out _ hbw).mono ?_);rintro e w1 ⟨rfl,hb1⟩;replace u1:=(hb1.block _ (zaa u1)).trans u1;replace hbw:=zab hbw hb1 hbw.size;clear hb1;have r1:w1.rangeAt g0 0 [.slice pA m1 kA,.slice qA n1 lA]:=zbo u1 [] [.slice pB m2 kB,.slice qB n2 lB,VV,.int .i64 lang,NN] rfl)
          |((with_reducible refine zbg ?_ (.tmp 6) g0 0 25 [.slice pA m1 kA,.slice qA n1 lA] 2 _ r1 rfl Tryz.underlying25 rfl zag ?_ ?_ ?_);rfl;rfl;rfl)
          |(go_at_call 13;(with_reducible refine (HMA.out _ hbw).mono ?_);rintro e w2 ⟨rfl,hb2⟩;replace u1:=(hb2.block _ (zaa u1)).trans u1;replace hbw:=zab hbw hb2 hbw.size;clear hb2 r1;have r2:w2.rangeAt g0 2 [.slice pB m2 kB,.slice qB n2 lB]:=zbo u1 [.slice pA m1 kA,.slice qA n1 lA] [VV,.int .i64 lang,NN] rfl)
          |((with_reducible refine zbg ?_ (.tmp 11) g0 2 25 [.slice pB m2 kB,.slice qB n2 lB] 2 _ r2 rfl Tryz.underlying25 rfl zag ?_ ?_ ?_);rfl;rfl;rfl)
          |(go_at_call 13;(with_reducible refine (HMB.out _ hbw).mono ?_);rintro e w3 ⟨rfl,hb3⟩;replace u1:=(hb3.block _ (zaa u1)).trans u1;replace hbw:=zab hbw hb3 hbw.size;clear hb3 r2;have d0:=zad u1 0 rfl;have d1:=zad u1 1 rfl;have d2:=zad u1 2 rfl;have d3:=zad u1 3 rfl))
         go_ret
         exact ⟨rfl,hbw⟩
        ·obtain rfl:r=false:=by rw [HR.out,decide_eq_true h3,decide_eq_false h4];rfl
         clear HR HS
         have x3:decide ((m1:Int)+m2≤64)=true:=decide_eq_true (by omega)
         obtain ⟨q,hq⟩:∃ q,(n1:Int)*n2=q:=⟨_,rfl⟩
         have q1:q≤3600:=by
          rw [← hq]
          have:=Nat.mul_le_mul s1 s2
          have e:((n1*n2:Nat):Int)=(n1:Int)*n2:=Int.natCast_mul _ _
          omega
         have q0:0≤q:=by rw [← hq];exact Int.mul_nonneg (by omega) (by omega)
         have x4:decide (q≤900)=false:=decide_eq_false (by
          have e:((n1*n2:Nat):Int)=(n1:Int)*n2:=Int.natCast_mul _ _
          omega)
         go_enter Tryz.func37,Tryz.ntmps37
         go_upto_region 1 with fail
         rw [← HW.out,← HG0.out]
         go_wp2_with (first
          |((with_reducible refine zah (.tmp 1) g0 28 28 [.slice pA m1 kA,.slice qA n1 lA,.slice pB m2 kB,.slice qB n2 lB,VV,.int .i64 lang,NN] 7 _ u1 rfl Tryz.underlying28 rfl zeu ?_ ?_ ?_ ?_);rfl;rfl;rfl)
          |(go_at_call 10;(with_reducible refine (HL.out _ hbw).mono ?_);rintro e w1 ⟨rfl,hb1⟩;replace u1:=(hb1.block _ (zaa u1)).trans u1;replace hbw:=zab hbw hb1 hbw.size;clear hb1;have r1:w1.rangeAt g0 0 [.slice pA m1 kA,.slice qA n1 lA]:=zbo u1 [] [.slice pB m2 kB,.slice qB n2 lB,VV,.int .i64 lang,NN] rfl)
          |((with_reducible refine zbg ?_ (.tmp 6) g0 0 25 [.slice pA m1 kA,.slice qA n1 lA] 2 _ r1 rfl Tryz.underlying25 rfl zag ?_ ?_ ?_);rfl;rfl;rfl)
          |(go_at_call 13;(with_reducible refine (HMA.out _ hbw).mono ?_);rintro e w2 ⟨rfl,hb2⟩;replace u1:=(hb2.block _ (zaa u1)).trans u1;replace hbw:=zab hbw hb2 hbw.size;clear hb2 r1;have r2:w2.rangeAt g0 2 [.slice pB m2 kB,.slice qB n2 lB]:=zbo u1 [.slice pA m1 kA,.slice qA n1 lA] [VV,.int .i64 lang,NN] rfl)
          |((with_reducible refine zbg ?_ (.tmp 11) g0 2 25 [.slice pB m2 kB,.slice qB n2 lB] 2 _ r2 rfl Tryz.underlying25 rfl zag ?_ ?_ ?_);rfl;rfl;rfl)
          |(go_at_call 13;(with_reducible refine (HMB.out _ hbw).mono ?_);rintro e w3 ⟨rfl,hb3⟩;replace u1:=(hb3.block _ (zaa u1)).trans u1;replace hbw:=zab hbw hb3 hbw.size;clear hb3 r2;have d0:=zad u1 0 rfl;have d1:=zad u1 1 rfl;have d2:=zad u1 2 rfl;have d3:=zad u1 3 rfl))
         go_ret
         exact ⟨rfl,hbw⟩
       ·obtain rfl:r=false:=by rw [HR.out,decide_eq_false h3];rfl
        clear HR HS
        have x3:decide ((m1:Int)+m2≤64)=false:=decide_eq_false (by omega)
        go_enter Tryz.func37,Tryz.ntmps37
        go_upto_region 1 with fail
        rw [← HW.out,← HG0.out]
        go_wp2_with (first
         |((with_reducible refine zah (.tmp 1) g0 28 28 [.slice pA m1 kA,.slice qA n1 lA,.slice pB m2 kB,.slice qB n2 lB,VV,.int .i64 lang,NN] 7 _ u1 rfl Tryz.underlying28 rfl zeu ?_ ?_ ?_ ?_);rfl;rfl;rfl)
         |(go_at_call 10;(with_reducible refine (HL.out _ hbw).mono ?_);rintro e w1 ⟨rfl,hb1⟩;replace u1:=(hb1.block _ (zaa u1)).trans u1;replace hbw:=zab hbw hb1 hbw.size;clear hb1;have r1:w1.rangeAt g0 0 [.slice pA m1 kA,.slice qA n1 lA]:=zbo u1 [] [.slice pB m2 kB,.slice qB n2 lB,VV,.int .i64 lang,NN] rfl)
         |((with_reducible refine zbg ?_ (.tmp 6) g0 0 25 [.slice pA m1 kA,.slice qA n1 lA] 2 _ r1 rfl Tryz.underlying25 rfl zag ?_ ?_ ?_);rfl;rfl;rfl)
         |(go_at_call 13;(with_reducible refine (HMA.out _ hbw).mono ?_);rintro e w2 ⟨rfl,hb2⟩;replace u1:=(hb2.block _ (zaa u1)).trans u1;replace hbw:=zab hbw hb2 hbw.size;clear hb2 r1;have r2:w2.rangeAt g0 2 [.slice pB m2 kB,.slice qB n2 lB]:=zbo u1 [.slice pA m1 kA,.slice qA n1 lA] [VV,.int .i64 lang,NN] rfl)
         |((with_reducible refine zbg ?_ (.tmp 11) g0 2 25 [.slice pB m2 kB,.slice qB n2 lB] 2 _ r2 rfl Tryz.underlying25 rfl zag ?_ ?_ ?_);rfl;rfl;rfl)
         |(go_at_call 13;(with_reducible refine (HMB.out _ hbw).mono ?_);rintro e w3 ⟨rfl,hb3⟩;replace u1:=(hb3.block _ (zaa u1)).trans u1;replace hbw:=zab hbw hb3 hbw.size;clear hb3 r2;have d0:=zad u1 0 rfl;have d1:=zad u1 1 rfl;have d2:=zad u1 2 rfl;have d3:=zad u1 3 rfl))
        go_ret
        exact ⟨rfl,hbw⟩
end Go.Proofs.YteclpnfckjfibaaGreatDoor
