/- Texts of one kind, one behind the other: each says ahead of itself what it shows. -/
import Derived.Test.YtanbgdhmfjgihaaGreatDoorUau
import Derived.Laws.StructEq
import Derived.Test.YtanbgdhmfjgihaaGreatDoorUar
import Derived.Test.YtanbgdhmfjgihaaGreatDoorUaa
import Derived.Test.YtanbgdhmfjgihaaGreatDoorUas
import Derived.Test.YtanbgdhmfjgihaaGreatDoorUah
import Derived.WalkKit
import Derived.OwnWalk
import Derived.Maps.AppendAt
import Derived.Deep.LoopGhost
namespace Go.Proofs.YtanbgdhmfjgihaaGreatDoor
open Go.RowKit
set_option maxHeartbeats 12800000
set_option maxRecDepth 20000
section
variable {α:Type} [Inhabited α] [DecidableEq α]
theorem zf2 (d:Array α) (m:Nat):(j:Nat)→j < m→d[j]!∈Go.Lib.compactUpTo d m
 | 0,h=>by
   unfold Go.Lib.compactUpTo
   rw [List.mem_map]
   exact ⟨0,by rw [List.mem_filter];exact ⟨List.mem_range.2 h,Go.Lib.keeps_lt_one d 0 (by omega)⟩,rfl⟩
 | j+1,h=>by
   by_cases e:d[j+1]! =d[j]!
   ·rw [e];exact zf2 d m j (by omega)
   ·unfold Go.Lib.compactUpTo
    rw [List.mem_map]
    exact ⟨j+1,by rw [List.mem_filter];exact ⟨List.mem_range.2 h,Go.Lib.keeps_pos e⟩,rfl⟩
theorem zm6 (d:Array α) (m:Nat) (x:α) (h:x∈Go.Lib.compactUpTo d m):∃ j,j < m∧x=d[j]!:=by
 unfold Go.Lib.compactUpTo at h
 rw [List.mem_map] at h
 obtain ⟨j,hj,rfl⟩:=h
 rw [List.mem_filter] at hj
 exact ⟨j,List.mem_range.1 hj.1,rfl⟩
theorem zin (R:α→α→Prop) (d:Array α) (m:Nat) (h:∀ i j,i < j→j < m→d[j]!≠d[j - 1]!→R d[i]! d[j]!):(Go.Lib.compactUpTo d m).Pairwise R:=by
 unfold Go.Lib.compactUpTo
 rw [List.pairwise_map,List.pairwise_filter]
 refine (List.pairwise_lt_range (n:=m)).imp_of_mem ?_
 intro i j _ hj hij _ hk
 refine h i j hij (List.mem_range.1 hj) ?_
 unfold Go.Lib.keeps at hk
 have:=of_decide_eq_true hk
 rcases this with e | e
 ·omega
 ·exact e
end
theorem zli {α:Type} [Inhabited α] {dv:DecidableEq α} (d:Array α) (m:Nat):(Go.Lib.compactUpTo d m).length≤m:=by
 unfold Go.Lib.compactUpTo
 rw [List.length_map]
 exact Nat.le_trans (List.length_filter_le _ _) (by simp)
theorem zc6 {α:Type} [Inhabited α] {d d':Array α} (h:Go.Sort.PermIn 0 d.size d d'):d'.size=d.size∧d'.toList.Perm d.toList:=by
 obtain ⟨h1,_,h3⟩:=h
 have e:d'.extract 0 d.size=d':=by rw [← h1];simp
 have e2:d.extract 0 d.size=d:=by simp
 rw [e,e2] at h3
 exact ⟨h1,h3⟩
def Rise (l:List Val):Prop:=∀ (i j:Nat) (_:i < j) (h:j < l.length),za1 1 (l[i]'(by omega)) l[j] < 0
theorem Rise.of_pair {l:List Val} (h:l.Pairwise fun a b=>za1 1 a b < 0):Rise l:=fun i j hij hj=>List.pairwise_iff_getElem.1 h i j (by omega) hj hij
theorem Rise.pair {l:List Val} (h:Rise l):l.Pairwise fun a b=>za1 1 a b < 0:=List.pairwise_iff_getElem.2 fun i j _ hj hij=>h i j hij hj
theorem zb9 (a:Val):za1 1 a a=0:=by
 have:=zbn 1 a a
 omega
theorem Rise.lt {l:List Val} (h:Rise l) (i m:Nat) (hi:i < l.length) (hm:m < l.length):za1 1 l[i] l[m] < 0↔i < m:=by
 rcases Nat.lt_trichotomy i m with q | q | q
 ·exact ⟨fun _=>q,fun _=>h i m q hm⟩
 ·subst q
  rw [zb9]
  omega
 ·have g:=h m i q hi
  have e:=zbn 1 l[i] l[m]
  omega
theorem Rise.inj {l:List Val} (h:Rise l) (i m:Nat) (hi:i < l.length) (hm:m < l.length) (e:l[i]=l[m]):i=m:=by
 have e1:=(h.lt i m hi hm)
 have e2:=(h.lt m i hm hi)
 rw [e,zb9] at e1
 rw [e,zb9] at e2
 omega
theorem Rise.ext {l m:List Val} (hl:Rise l) (hm:Rise m) (h:∀ u,u∈l↔u∈m):l=m:=by
 have key:∀ (l m:List Val),l.Pairwise (fun a b=>za1 1 a b < 0)→m.Pairwise (fun a b=>za1 1 a b < 0)→(∀ u,u∈l↔u∈m)→l=m:=by
  intro l
  induction l with
  | nil=>
    intro m _ _ h
    cases m with
    | nil=>rfl
    | cons b m=>exact absurd ((h b).2 (List.mem_cons_self ..)) (by simp)
  | cons a l ih=>
    intro m hl hm h
    cases m with
    | nil=>exact absurd ((h a).1 (List.mem_cons_self ..)) (by simp)
    | cons b m=>
      rw [List.pairwise_cons] at hl hm
      have hab:a=b:=by
       rcases List.mem_cons.1 ((h a).1 (List.mem_cons_self ..)) with e | e
       ·exact e
       ·rcases List.mem_cons.1 ((h b).2 (List.mem_cons_self ..)) with e2 | e2
        ·exact e2.symm
        ·have q1:=hm.1 a e
         have q2:=hl.1 b e2
         have q3:=zbn 1 a b
         omega
      subst hab
      congr 1
      refine ih m hl.2 hm.2 fun u=>?_
      constructor
      ·intro hu
       rcases List.mem_cons.1 ((h u).1 (List.mem_cons_of_mem _ hu)) with e | e
       ·subst e
        have:=hl.1 u hu
        rw [zb9] at this
        omega
       ·exact e
      ·intro hu
       rcases List.mem_cons.1 ((h u).2 (List.mem_cons_of_mem _ hu)) with e | e
       ·subst e
        have:=hm.1 u hu
        rw [zb9] at this
        omega
       ·exact e
 exact key l m hl.pair hm.pair h
theorem zpy {dv:DecidableEq Val} {d d':Array VE} (hp:Go.Sort.PermIn 0 d.size d d') (hs:Go.Sort.SortedIn (Go.Proofs.ltOf VE.cf) 0 d.size d') (hm:∀ u∈d.toList.map VE.val,mayP u 0=true):
 Rise (Go.Lib.compactUpTo (zch d') d'.size)∧∀ u,u∈Go.Lib.compactUpTo (zch d') d'.size↔u∈d.toList.map VE.val:=by
 obtain ⟨hz,hq⟩:=zc6 hp
 have hin:∀ j,j < d'.size→(zch d')[j]!∈d.toList.map VE.val:=fun j hj=>by
  rw [zb8 d' j hj]
  refine List.mem_map.2 ⟨d'[j]!,?_,rfl⟩
  rw [← hq.mem_iff,getElem!_pos d' j hj]
  exact Array.getElem_mem_toList hj
 have hle:∀ i j,i < j→j < d'.size→za1 1 (zch d')[i]! (zch d')[j]!≤0:=fun i j hij hj=>by
  rw [zb8 d' j hj,zb8 d' i (by omega)]
  have q:¬ za1 1 d'[j]!.val d'[i]!.val < 0:=of_decide_eq_false (hs i j (Nat.zero_le _) hij (by omega))
  have e:=zbn 1 d'[i]!.val d'[j]!.val
  omega
 constructor
 ·refine Rise.of_pair (zin _ _ _ fun i j hij hj hne=>?_)
  have hstep:za1 1 (zch d')[j - 1]! (zch d')[j]! < 0:=by
   have q:=hle (j - 1) j (by omega) hj
   by_cases z:za1 1 (zch d')[j - 1]! (zch d')[j]! =0
   ·have hsame:=zd4 1 _ _ 0 0 (hm _ (hin (j - 1) (by omega))) (hm _ (hin j hj)) z
    rw [zb8 d' j hj,zb8 d' (j - 1) (by omega)] at hsame hne
    exact absurd ((VE.same_eq _ _).1 hsame).symm hne
   ·omega
  by_cases e:i=j - 1
  ·subst e;exact hstep
  ·exact (zco 1 _ _ _).tl (hle i (j - 1) (by omega) (by omega)) hstep
 ·intro u
  constructor
  ·intro hu
   obtain ⟨j,hj,rfl⟩:=zm6 _ _ _ hu
   exact hin j hj
  ·intro hu
   obtain ⟨e,he,rfl⟩:=List.mem_map.1 hu
   have he2:e∈d'.toList:=hq.mem_iff.2 he
   obtain ⟨j,hj,rfl⟩:=List.getElem_of_mem he2
   have hj':j < d'.size:=by simpa using hj
   have:=zf2 (zch d') d'.size j hj'
   rwa [zb8 d' j hj',getElem!_pos d' j hj',← Array.getElem_toList] at this
theorem cmpIs (u v:V6) (a b:Val) (q q2:List Val) (W:World) (hG:Gd W) (hT:Tab W) (hu:Is W u a q) (hv:Is W v b q2):
 Calls Tryz.prog 74 #[.agg #[.int .i64 u.k,.bool u.b,.int .i64 u.n,.string u.t,.string u.x,.slice u.p u.len u.cap],.agg #[.int .i64 v.k,.bool v.b,.int .i64 v.n,.string v.t,.string v.x,.slice v.p v.len v.cap]] W fun e w'=>e=.returned (.int .i64 (za1 1 a b))∧Low W.heap.size W w':=by
 obtain ⟨k,b',n,t,x,p,len,cap⟩:=u
 obtain ⟨k2,b2,n2,t2,x2,p2,len2,cap2⟩:=v
 obtain ⟨e1,l1,f1,d1⟩:=hu
 obtain ⟨e2,l2,f2,d2⟩:=hv
 simp only at e1 l1 f1 d1 e2 l2 f2 d2
 subst l1 l2
 exact znn _ _ W k b' n t x q p cap k2 b2 n2 t2 x2 q2 p2 cap2 e1 e2 hG hT f1 f2 d1 d2
theorem zzf (l:List Val) (g o cap m:Nat) (u:V6) (q:List Val) (w:World) (hG:Gd w) (hT:Tab w) (hl:zaq w g o l) (hr:Rise l) (hm:m < l.length) (hn:l.length < 1073741824) (hu:Is w u l[m] q):
 Calls Tryz.prog 78 #[.slice (some ⟨g,o,none⟩) l.length cap,.agg #[.int .i64 u.k,.bool u.b,.int .i64 u.n,.string u.t,.string u.x,.slice u.p u.len u.cap],.func (.func 74) #[] #[]] w fun e w'=>e=.returned (.tuple #[.int .i64 m,.bool true])∧Low w.heap.size w w':=by
 obtain ⟨W0,hW0⟩:∃ W0,W0=w.alloc (.cells #[.int .i64 u.k,.bool u.b,.int .i64 u.n,.string u.t,.string u.x,.slice u.p u.len u.cap] 39):=⟨_,rfl⟩
 have S0:Six W0 w.heap.size u.k u.b u.n u.t u.x u.p u.len u.cap:=by rw [hW0];exact zah _ rfl
 have b0:Low w.heap.size w W0:=by rw [hW0];exact low1 _ _
 have HW:=Lib.hid hW0
 have HL:=Lib.hid hl
 have HR:=Lib.hid hr
 have HU:=Lib.hid hu
 have HG:=Lib.hid hG
 have HT:=Lib.hid hT
 have RU0:Hid (∀ W,Low W0.heap.size W0 W→W.rangeAt w.heap.size 0 [.int .i64 u.k,.bool u.b,.int .i64 u.n,.string u.t,.string u.x,.slice u.p u.len u.cap]):=Lib.hid fun W h=>zb3 (S0.low h).c0 (S0.low h).c1 (S0.low h).c2 (S0.low h).c3 (S0.low h).c4 (S0.low h).c5
 have hm2:(m:Int) < l.length:=by omega
 clear hW0 hl hr hu S0 hG hT
 go_enter Tryz.func78,Tryz.ntmps78
 go_wp2_with fail
 rw [← HW.out]
 go_loopg [9,10] l.length (fun gg s9 s10 wr=>∃ lo hi:Nat,s9=.int .i64 lo∧s10=.int .i64 hi∧lo≤m∧m≤hi∧hi≤l.length∧hi - lo≤gg∧Hid (Low W0.heap.size W0 wr))
 case atStart=>exact ⟨0,l.length,rfl,rfl,Nat.zero_le _,by omega,Nat.le_refl _,by omega,Lib.hid (Low.refl _ _)⟩
 case round=>
  obtain ⟨lo,hi,rfl,rfl,hlo,hhi,hin,hg,hb⟩:=hrel
  by_cases hlt:lo < hi
  ·have hx:(lo+hi) / 2 < l.length:=by omega
   have hb0:Low w.heap.size w wr:=b0.trans (hb.out.mono b0.size)
   obtain ⟨v,q2,i2,r2⟩:=isOf (zaq.at_ l o (zaq.below l HL.out hb0.is) ((lo+hi) / 2) hx)
   have RV:Hid (∀ W,Low wr.heap.size wr W→W.rangeAt g (o+(lo+hi) / 2*6) [.int .i64 v.k,.bool v.b,.int .i64 v.n,.string v.t,.string v.x,.slice v.p v.len v.cap]):=Lib.hid fun W h=>zaf r2 h.is
   have RU:Hid (∀ W,Low wr.heap.size wr W→W.rangeAt w.heap.size 0 [.int .i64 u.k,.bool u.b,.int .i64 u.n,.string u.t,.string u.x,.slice u.p u.len u.cap]):=Lib.hid fun W h=>RU0.out W (zad hb.out h hb.out.size)
   obtain ⟨c,hc⟩:∃ c,c=za1 1 l[(lo+hi) / 2] l[m]:=⟨_,rfl⟩
   have HC:Hid (∀ W,Low wr.heap.size wr W→Calls Tryz.prog 74 #[.agg #[.int .i64 v.k,.bool v.b,.int .i64 v.n,.string v.t,.string v.x,.slice v.p v.len v.cap],.agg #[.int .i64 u.k,.bool u.b,.int .i64 u.n,.string u.t,.string u.x,.slice u.p u.len u.cap]] W fun e w'=>e=.returned (.int .i64 c)∧Low W.heap.size W w'):=Lib.hid fun W h=>by
    have hw:=zad hb0 h hb0.size
    rw [hc]
    exact cmpIs v u _ _ q2 q W (HG.out.below hw.is) (HT.out.below hw.is) (i2.below h.is) (HU.out.below hw.is)
   have HZ:Hid (c < 0↔(lo+hi) / 2 < m):=Lib.hid (by rw [hc];exact HR.out.lt _ m hx hm)
   have hx3:(((lo+hi) / 2:Nat):Int) < l.length:=by omega
   have hlt3:(lo:Int) < hi:=by omega
   have hs1:(lo:Int)+hi < 9223372036854775808:=by omega
   clear i2 r2 hc
   go_upto_region 5 with fail
   refine wp_region_held_drew (S:=fun W=>Low wr.heap.size wr W) (by kernel_rfl) (Low.refl _ _).drew (fun hHeld=>?_)
   refine tg (i:=0) (.func (.func 74) #[] #[]) rfl hHeld ?_
   refine tg (i:=1) (.slice (some ⟨g,o,none⟩) l.length cap) rfl hHeld ?_
   refine tg (i:=2) (.int .i64 (((lo:Int)+hi) / 2)) rfl hHeld ?_
   refine tk (i:=3) (v:=.pointer (some ⟨g,o+(lo+hi) / 2*6,none⟩)) rfl (Or.inl ⟨by rfl,fun W _=>by
    have t1:(0:Int)≤((lo:Int)+hi) / 2:=by omega
    have t2:((lo:Int)+hi) / 2 < l.length:=by omega
    have t3:(((lo:Int)+hi) / 2).toNat=(lo+hi) / 2:=by omega
    go_simp⟩) hHeld ?_
   try simp only [putS]
   refine tk (i:=4) rfl (yieldsIf_load_mid (by rfl) 39 (.tmp 27) rfl (g) (o+(lo+hi) / 2*6) rfl [.int .i64 v.k,.bool v.b,.int .i64 v.n,.string v.t,.string v.x,.slice v.p v.len v.cap] _ (fun w h=>RV.out _ h) Tryz.underlying39 rfl zav) hHeld ?_
   refine tk (i:=5) rfl (yieldsIf_load_mid (by rfl) 39 (.tmp 4) rfl (w.heap.size) (0) rfl [.int .i64 u.k,.bool u.b,.int .i64 u.n,.string u.t,.string u.x,.slice u.p u.len u.cap] _ (fun w h=>RU.out _ h) Tryz.underlying39 rfl zav) hHeld ?_
   refine tr 6 rfl (fun K hK=>?_)
   rw [if_pos (by rfl)]
   go_simp
   refine (HC.out _ hHeld).mono ?_
   rintro e0 w3 ⟨rfl,hb3⟩
   have hH2:=zad hHeld hb3 hHeld.size
   clear hb3 hHeld
   refine hK.out _ _ hH2 (fun hH2=>?_)
   clear hK K
   try simp only [putS]
   refine tg (i:=7) (.bool (decide (c < 0))) rfl hH2 ?_
   refine wpAnyH_done (by kernel_rfl) ?_ _
   have hbN:=zad hb.out hH2 hb.out.size
   have HB:=Lib.hid hbN
   by_cases hz:c < 0
   ·have hz2:=HZ.out.1 hz
    rw [decide_eq_true hz]
    clear hH2 hbN hb0 RV RU HC HZ
    go_wp2_with fail
    go_roundg (hi - ((lo+hi) / 2+1))
    case measure=>omega
    case rel=>exact ⟨(lo+hi) / 2+1,hi,by rw [show (((lo+hi) / 2+1:Nat):Int)=((lo:Int)+(hi:Int)) / 2+1 by omega],rfl,by omega,hhi,hin,Nat.le_refl _,HB⟩
   ·have hz2:¬ (lo+hi) / 2 < m:=fun h=>hz (HZ.out.2 h)
    rw [decide_eq_false hz]
    clear hH2 hbN hb0 RV RU HC HZ
    go_wp2_with fail
    go_roundg ((lo+hi) / 2 - lo)
    case measure=>omega
    case rel=>exact ⟨lo,(lo+hi) / 2,rfl,by rw [show (((lo+hi) / 2:Nat):Int)=((lo:Int)+(hi:Int)) / 2 by omega],hlo,by omega,by omega,Nat.le_refl _,HB⟩
  ·obtain rfl:lo=m:=by omega
   obtain rfl:hi=lo:=by omega
   have hb0:Low w.heap.size w wr:=b0.trans (hb.out.mono b0.size)
   obtain ⟨v,q2,i2,r2⟩:=isOf (zaq.at_ l o (zaq.below l HL.out hb0.is) hi hm)
   have RV:Hid (∀ W,Low wr.heap.size wr W→W.rangeAt g (o+hi*6) [.int .i64 v.k,.bool v.b,.int .i64 v.n,.string v.t,.string v.x,.slice v.p v.len v.cap]):=Lib.hid fun W h=>zaf r2 h.is
   have RU:Hid (∀ W,Low wr.heap.size wr W→W.rangeAt w.heap.size 0 [.int .i64 u.k,.bool u.b,.int .i64 u.n,.string u.t,.string u.x,.slice u.p u.len u.cap]):=Lib.hid fun W h=>RU0.out W (zad hb.out h hb.out.size)
   have HC:Hid (∀ W,Low wr.heap.size wr W→Calls Tryz.prog 74 #[.agg #[.int .i64 v.k,.bool v.b,.int .i64 v.n,.string v.t,.string v.x,.slice v.p v.len v.cap],.agg #[.int .i64 u.k,.bool u.b,.int .i64 u.n,.string u.t,.string u.x,.slice u.p u.len u.cap]] W fun e w'=>e=.returned (.int .i64 0)∧Low W.heap.size W w'):=Lib.hid fun W h=>by
    have hw:=zad hb0 h hb0.size
    have:=cmpIs v u _ _ q2 q W (HG.out.below hw.is) (HT.out.below hw.is) (i2.below h.is) (HU.out.below hw.is)
    rwa [zb9] at this
   have HB:=Lib.hid hb0
   clear i2 r2 hb0 hb
   go_upto_region 8 with fail
   refine wp_region_held_drew (S:=fun W=>Low wr.heap.size wr W) (by kernel_rfl) (Low.refl _ _).drew (fun hHeld=>?_)
   refine tg (i:=0) (.int .i64 hi) rfl hHeld ?_
   refine tg (i:=1) (.int .i64 hi) rfl hHeld ?_
   refine tg (i:=2) (.int .i64 l.length) rfl hHeld ?_
   refine tg (i:=3) (.bool true) rfl hHeld ?_
   refine tg (i:=4) (.bool true) rfl hHeld ?_
   refine tg (i:=5) (.func (.func 74) #[] #[]) rfl hHeld ?_
   refine tg (i:=6) (.slice (some ⟨g,o,none⟩) l.length cap) rfl hHeld ?_
   refine tg (i:=7) (.int .i64 hi) rfl hHeld ?_
   refine tg (i:=8) (.pointer (some ⟨g,o+hi*6,none⟩)) rfl hHeld ?_
   refine tk (i:=9) rfl (yieldsIf_load_mid (by rfl) 39 (.tmp 43) rfl (g) (o+hi*6) rfl [.int .i64 v.k,.bool v.b,.int .i64 v.n,.string v.t,.string v.x,.slice v.p v.len v.cap] _ (fun w h=>RV.out _ h) Tryz.underlying39 rfl zav) hHeld ?_
   refine tk (i:=10) rfl (yieldsIf_load_mid (by rfl) 39 (.tmp 4) rfl (w.heap.size) (0) rfl [.int .i64 u.k,.bool u.b,.int .i64 u.n,.string u.t,.string u.x,.slice u.p u.len u.cap] _ (fun w h=>RU.out _ h) Tryz.underlying39 rfl zav) hHeld ?_
   refine tr 11 rfl (fun K hK=>?_)
   rw [if_pos (by rfl)]
   go_simp
   refine (HC.out _ hHeld).mono ?_
   rintro e0 w3 ⟨rfl,hb3⟩
   have hH2:=zad hHeld hb3 hHeld.size
   clear hb3 hHeld
   refine hK.out _ _ hH2 (fun hH2=>?_)
   clear hK K
   try simp only [putS]
   refine tg (i:=12) (.bool true) rfl hH2 ?_
   refine tg (i:=13) (.bool true) rfl hH2 ?_
   refine tg (i:=14) (.int .i64 hi) rfl hH2 ?_
   refine tg (i:=15) (.bool true) rfl hH2 ?_
   refine wpAnyH_done (by kernel_rfl) ?_ _
   go_wp2_with fail
   go_ret2
   exact ⟨rfl,zad HB.out hH2 HB.out.size⟩
deriving instance DecidableEq for VR
theorem VR.len3 (x:VR):x.enc.length=3:=rfl
theorem zwt (a b c x y z:Int) (w:World):(Op.equalIn 10000 81 (.agg #[.int .i64 a,.int .i64 b,.int .i64 c]) (.agg #[.int .i64 x,.int .i64 y,.int .i64 z])).run Tryz.prog w=.ok (a == x && b == y && c == z) w:=by
 have s3:∀ w,(sizeOf 3).run Tryz.prog w=.ok 1 w:=fun w=>by kernel_rfl
 have p0:∀ u v t w,(part 3 #[.int .i64 u,.int .i64 v,.int .i64 t] 0).run Tryz.prog w=.ok (.int .i64 u) w:=fun u v t w=>by kernel_rfl
 have p1:∀ u v t w,(part 3 #[.int .i64 u,.int .i64 v,.int .i64 t] 1).run Tryz.prog w=.ok (.int .i64 v) w:=fun u v t w=>by kernel_rfl
 have p2:∀ u v t w,(part 3 #[.int .i64 u,.int .i64 v,.int .i64 t] 2).run Tryz.prog w=.ok (.int .i64 t) w:=fun u v t w=>by kernel_rfl
 have e0:∀ u v w,(Op.equalIn 9999 3 (.int .i64 u) (.int .i64 v)).run Tryz.prog w=.ok (u == v) w:=fun u v w=>by
  rw [run_equalIn_int w 9998 3 .i64 .i64 u v Tryz.underlying3]
 rw [Op.equalIn]
 by_cases h1:a=x
 ·by_cases h2:b=y
  ·by_cases h3:c=z
   ·simp [run_underlying Tryz.underlying81,Std.Legacy.Range.forIn_eq_forIn_range',Std.Legacy.Range.size,List.range',s3,p0,p1,p2,e0,Result.andThen,h1,h2,h3]
   ·simp [run_underlying Tryz.underlying81,Std.Legacy.Range.forIn_eq_forIn_range',Std.Legacy.Range.size,List.range',s3,p0,p1,p2,e0,Result.andThen,h1,h2,h3]
  ·simp [run_underlying Tryz.underlying81,Std.Legacy.Range.forIn_eq_forIn_range',Std.Legacy.Range.size,List.range',s3,p0,p1,e0,Result.andThen,h1,h2]
 ·simp [run_underlying Tryz.underlying81,Std.Legacy.Range.forIn_eq_forIn_range',Std.Legacy.Range.size,List.range',s3,p0,e0,Result.andThen,h1]
theorem zwu:Tryz.prog.eqGuardType Tryz.prog.depth 81=false:=by kernel_rfl
theorem zzg (x y:Operand) (xs ys:Array Value) (w:World):(eqGuard .eql 81 x y (.agg xs) (.agg ys)).run Tryz.prog w=.ok () w:=run_eqGuard_agg w .eql 81 x y xs ys zwu
theorem zzh (x y:Operand) (xs ys:Array Value) (w:World):(eqGuard .neq 81 x y (.agg xs) (.agg ys)).run Tryz.prog w=.ok () w:=run_eqGuard_agg w .neq 81 x y xs ys zwu
def VR.same (r s:VR):Bool:=r.a == s.a && r.b == s.b && r.c == s.c
theorem VR.same_eq (r s:VR):r.same s=true↔r=s:=by
 obtain ⟨a,b,c⟩:=r
 obtain ⟨x,y,z⟩:=s
 unfold VR.same
 simp [and_assoc]
theorem zpz {g:Nat} {x y z:World} (h:Only g x y) (k:Low y.heap.size y z):Only g x z:=h.trans (Only.of_low k)
theorem zn1 {ops:Array Oper} {rest:List Oper} {o:Oper} {a:Act} {w:World} {Q:Exit→Act→World→Prop} (x:Operand) (g off:Nat) (e:VR) (h6:w.rangeAt g off e.enc)
 (hgd:o.guard=none) (ho:o.op=.load 81 x) (hx:a.eval x=.pointer (some ⟨g,off,none⟩))
 (h:wpList Tryz.prog ops Q rest (a.put o.dst (.agg e.enc.toArray)) w):wpList Tryz.prog ops Q (o::rest) a w:=
 wpList_load_mid hgd 81 x ho g off hx e.enc _ h6 Tryz.underlying81 rfl zdy h
theorem zl3 {ops:Array Oper} {rest:List Oper} {o:Oper} {a:Act} {w:World} {Q:Exit→Act→World→Prop} (x y:Operand) (g off:Nat) (e:VR) (hth:w.there g off 3)
 (hgd:o.guard=none) (ho:o.op=.store 81 x y) (hx:a.eval x=.pointer (some ⟨g,off,none⟩)) (hy:a.eval y=.agg e.enc.toArray)
 (h:wpList Tryz.prog ops Q rest (a.put o.dst undef) (w.setCells g off e.enc)):wpList Tryz.prog ops Q (o::rest) a w:=
 wpList_store_mid hgd 81 x y ho g off e.enc.toArray hx hy hth zdy (all_oneCell_toArray e.one) h
theorem zero81 (w:World):(zeroValue 81).run Tryz.prog w=.ok (.agg #[.int .i64 0,.int .i64 0,.int .i64 0]) w:=Tryz.zeroValue81 w
theorem zzi (blk off cap:Nat) (d:Array VR) (w:World) (hE:zc0 VR.enc 3 w blk off d) (hblk:blk < w.heap.size) (hsz:d.size < 1099511627776) (hcap:d.size≤cap):
 Calls Tryz.prog 82 #[.slice (some ⟨blk,off,none⟩) d.size cap] w fun e w'=>∃ (dk:Array VR),e=.returned (.slice (some ⟨blk,off,none⟩) dk.size cap)∧dk.toList=Go.Lib.compactUpTo d d.size∧zc0 VR.enc 3 w' blk off dk∧Only blk w w':=by
 have all:(∀ j,j < d.size→Go.Lib.keeps d j=true)→d.toList=Go.Lib.compactUpTo d d.size:=fun h=>by
  rw [Go.Lib.compactUpTo_all d d.size h,Go.Lib.range_map_get]
 have ALL:=Lib.hid all
 have HE:=Lib.hid hE
 clear all hE
 by_cases h2:d.size < 2
 ·go_enter Tryz.func82,Tryz.ntmps82
  go_wp2_with fail
  go_ret
  exact ⟨d,rfl,ALL.out fun j hj=>Go.Lib.keeps_lt_one _ j (by omega),HE.out,Only.refl _ _⟩
 ·go_enter Tryz.func82,Tryz.ntmps82
  go_wp2_with fail
  go_loopg [3] d.size (fun gg s5 wr=>∃ i:Nat,s5=.int .i64 ((i:Int)+1)∧i+1≤d.size∧d.size - (i+1)≤gg∧Low w.heap.size w wr∧Hid (∀ j,j < i+1→Go.Lib.keeps d j=true))
  case atStart=>exact ⟨0,rfl,by omega,by omega,Low.refl _ _,Lib.hid (Go.Lib.keeps_lt_one _)⟩
  case round=>
   obtain ⟨i,rfl,hi,hgg,bw,hall⟩:=hrel
   by_cases hlt:i+1 < d.size
   ·have E:=HE.out.low hblk bw
    obtain ⟨ea,hea⟩:∃ x,x=d[i+1]!:=⟨_,rfl⟩
    obtain ⟨eb,heb⟩:∃ x,x=d[i]!:=⟨_,rfl⟩
    have ra:=(E (i+1) hlt).1
    have rb:=(E i (by omega)).1
    rw [← hea] at ra
    rw [← heb] at rb
    have RA:Hid (∀ W,Low wr.heap.size wr W→W.rangeAt blk (off+(i+1)*3) ea.enc):=Lib.hid fun W h=>zaf ra h.is
    have RB:Hid (∀ W,Low wr.heap.size wr W→W.rangeAt blk (off+i*3) eb.enc):=Lib.hid fun W h=>zaf rb h.is
    obtain ⟨r,hr⟩:∃ r,r=ea.same eb:=⟨_,rfl⟩
    have HQ:Hid (∀ W,(Op.equalIn 10000 81 (.agg ea.enc.toArray) (.agg eb.enc.toArray)).run Tryz.prog W=.ok r W):=Lib.hid fun W=>by rw [hr];exact zwt _ _ _ _ _ _ W
    have KR:Hid (r=true↔d[i+1]! =d[i]!):=Lib.hid (by rw [← hea,← heb,hr];exact VR.same_eq ea eb)
    clear E ra rb hea heb hr
    have hlti:(i:Int)+1 < d.size:=by omega
    have t1:((i:Int)+1).toNat=i+1:=by omega
    have t2:¬ (i:Int)+1 < 0:=by omega
    have t3:IntKind.i64.wrap (i:Int)=i:=IntWalk.i64_in _ (by omega)
    have t4:(i:Int) < d.size:=by omega
    go_upto_region 6 with fail
    refine wp_region_held_drew (S:=fun W=>Low wr.heap.size wr W) (by kernel_rfl) (Low.refl _ _).drew (fun hHeld=>?_)
    refine tg (i:=0) (.slice (some ⟨blk,off,none⟩) d.size cap) rfl hHeld ?_
    refine tg (i:=1) (.int .i64 ((i:Int)+1)) rfl hHeld ?_
    refine tg (i:=2) (.pointer (some ⟨blk,off+(i+1)*3,none⟩)) rfl hHeld ?_
    refine tk (i:=3) rfl (yieldsIf_load_mid (by rfl) 81 (.tmp 18) rfl blk (off+(i+1)*3) rfl ea.enc _ (fun w h=>RA.out w h) Tryz.underlying81 rfl zdy) hHeld ?_
    refine tg (i:=4) (.slice (some ⟨blk,off,none⟩) d.size cap) rfl hHeld ?_
    refine tg (i:=5) (.int .i64 ((i:Int)+1)) rfl hHeld ?_
    refine tg (i:=6) (.int .i64 i) rfl hHeld ?_
    refine tg (i:=7) (.pointer (some ⟨blk,off+i*3,none⟩)) rfl hHeld ?_
    refine tk (i:=8) rfl (yieldsIf_load_mid (by rfl) 81 (.tmp 23) rfl blk (off+i*3) rfl eb.enc _ (fun w h=>RB.out w h) Tryz.underlying81 rfl zdy) hHeld ?_
    refine tk (i:=9) (v:=.bool r) rfl (Or.inl ⟨by rfl,fun W _=>by have g81:=zzg;have q81:=HQ.out W;go_simp⟩) hHeld ?_
    refine wpAnyH_done (by kernel_rfl) ?_ _
    replace bw:=bw.trans (hHeld.mono bw.size)
    cases r with
    | false=>
       go_wp2_with fail
       go_roundg (d.size - (i+1+1))
       case measure=>omega
       case rel=>
        refine ⟨i+1,by go_num,by omega,Nat.le_refl _,bw,Lib.hid fun j hj=>?_⟩
        by_cases e:j=i+1
        ·subst e
         exact Go.Lib.keeps_pos (fun h=>absurd (KR.out.2 h) (by decide))
        ·exact hall.out j (by omega)
    | true=>
       have hst:=Go.Lib.CompInv.start (d:=d) (k0:=i+1) hall.out (Go.Lib.keeps_neg (by omega) (KR.out.1 rfl))
       have HST:=Lib.hid hst
       clear hst KR
       have hcap3:(i:Int)+1≤cap:=by omega
       have hle3:(i:Int)+1≤d.size:=by omega
       have E3:=HE.out.low hblk bw
       have bo:Only blk w wr.drew:=Only.of_low bw
       generalize wr.drew=w3 at*
       go_wp2_with fail
       go_loopg [3,5] d.size (fun gg s5 s7 wr=>∃ (kk c:Nat) (dk:Array VR),s5=.int .i64 kk∧s7=.int .i64 ((c:Int)+1)∧i+1+(c+1)≤d.size∧d.size - (i+1+(c+1))≤gg∧Only blk w wr∧dk.size=d.size∧Hid (zc0 VR.enc 3 wr blk off dk)∧Hid (Go.Lib.CompInv d (i+1+(c+1)) kk dk))
       case atStart=>exact ⟨i+1,0,d,by go_num,rfl,by omega,by omega,bo,rfl,Lib.hid E3,HST⟩
       case round=>
        clear E3 bo bw hall
        obtain ⟨kk,c,dk,rfl,rfl,hle,hgg2,bo,hds,hE,hI⟩:=hrel
        have hkk:=hI.out.lt
        by_cases hlt2:i+1+(c+1) < d.size
        ·obtain ⟨ec,hec⟩:∃ x,x=dk[i+1+(c+1)]!:=⟨_,rfl⟩
         obtain ⟨ed,hed⟩:∃ x,x=dk[i+1+c]!:=⟨_,rfl⟩
         have ra:=(hE.out (i+1+(c+1)) (by omega)).1
         have rb:=(hE.out (i+1+c) (by omega)).1
         rw [← hec,show off+(i+1+(c+1))*3=off+(i+1)*3+(c+1)*3 by omega] at ra
         rw [← hed,show off+(i+1+c)*3=off+(i+1)*3+c*3 by omega] at rb
         have RA:Hid (∀ W,Low wr.heap.size wr W→W.rangeAt blk (off+(i+1)*3+(c+1)*3) ec.enc):=Lib.hid fun W h=>zaf ra h.is
         have RB:Hid (∀ W,Low wr.heap.size wr W→W.rangeAt blk (off+(i+1)*3+c*3) ed.enc):=Lib.hid fun W h=>zaf rb h.is
         obtain ⟨r,hr⟩:∃ r,r=ec.same ed:=⟨_,rfl⟩
         have HQ:Hid (∀ W,(Op.equalIn 10000 81 (.agg ec.enc.toArray) (.agg ed.enc.toArray)).run Tryz.prog W=.ok r W):=Lib.hid fun W=>by rw [hr];exact zwt _ _ _ _ _ _ W
         have hv1:=hI.out.high (i+1+(c+1)) (by omega)
         have hv2:=hI.out.high (i+1+c) (by omega)
         rw [← hec] at hv1
         rw [← hed] at hv2
         have KR:Hid (r=true↔d[i+1+(c+1)]! =d[i+1+c]!):=Lib.hid (by rw [← hv1,← hv2,hr];exact VR.same_eq ec ed)
         have HV1:=Lib.hid hv1
         have hblk2:blk < wr.heap.size:=Nat.lt_of_lt_of_le hblk bo.size
         clear ra rb hec hed hr hv1 hv2
         have hlti2:(c:Int)+1 < (d.size - (i+1):Nat):=by omega
         have t5:((c:Int)+1).toNat=c+1:=by omega
         have t6:¬ (c:Int)+1 < 0:=by omega
         have t7:IntKind.i64.wrap (c:Int)=c:=IntWalk.i64_in _ (by omega)
         have t8:(c:Int) < (d.size - (i+1):Nat):=by omega
         go_upto_region 11 with fail
         refine wp_region_held_drew (S:=fun W=>Low wr.heap.size wr W) (by kernel_rfl) (Low.refl _ _).drew (fun hHeld=>?_)
         refine tg (i:=0) (.slice (some ⟨blk,off+(i+1)*3,none⟩) (d.size - (i+1)) (cap - (i+1))) rfl hHeld ?_
         refine tg (i:=1) (.int .i64 ((c:Int)+1)) rfl hHeld ?_
         refine tg (i:=2) (.pointer (some ⟨blk,off+(i+1)*3+(c+1)*3,none⟩)) rfl hHeld ?_
         refine tk (i:=3) rfl (yieldsIf_load_mid (by rfl) 81 (.tmp 37) rfl blk (off+(i+1)*3+(c+1)*3) rfl ec.enc _ (fun w h=>RA.out w h) Tryz.underlying81 rfl zdy) hHeld ?_
         refine tg (i:=4) (.slice (some ⟨blk,off+(i+1)*3,none⟩) (d.size - (i+1)) (cap - (i+1))) rfl hHeld ?_
         refine tg (i:=5) (.int .i64 ((c:Int)+1)) rfl hHeld ?_
         refine tg (i:=6) (.int .i64 c) rfl hHeld ?_
         refine tg (i:=7) (.pointer (some ⟨blk,off+(i+1)*3+c*3,none⟩)) rfl hHeld ?_
         refine tk (i:=8) rfl (yieldsIf_load_mid (by rfl) 81 (.tmp 42) rfl blk (off+(i+1)*3+c*3) rfl ed.enc _ (fun w h=>RB.out w h) Tryz.underlying81 rfl zdy) hHeld ?_
         refine tk (i:=9) (v:=.bool (!r)) rfl (Or.inl ⟨by rfl,fun W _=>by have g81:=zzh;have q81:=HQ.out W;go_simp⟩) hHeld ?_
         refine wpAnyH_done (by kernel_rfl) ?_ _
         cases r with
         | true=>
           go_wp2_with fail
           go_roundg (d.size - (i+1+(c+1+1)))
           case measure=>omega
           case rel=>exact ⟨kk,c+1,dk,rfl,by go_num,by omega,Nat.le_refl _,zpz bo hHeld,hds,Lib.hid (hE.out.low hblk2 hHeld),Lib.hid (hI.out.skip (Go.Lib.keeps_neg (by omega) (KR.out.1 (by first | rfl | trivial))))⟩
         | false=>
           have E3:=hE.out.low hblk2 hHeld
           have rc:=RA.out _ hHeld
           have hth:=(E3 kk (by omega)).2
           have E4:=E3.set VR.len3 kk (by omega) ec
           have bo2:=(zpz bo hHeld).trans (zcc blk ec.enc (off+kk*3) wr.drew)
           have I4:=hI.out.keep hlt2 (Go.Lib.keeps_pos (fun h=>absurd (KR.out.2 h) (by decide)))
           rw [← HV1.out] at I4
           have hkk3:(kk:Int) < d.size:=by omega
           have HE4:=Lib.hid E4
           have HI4:=Lib.hid I4
           clear E4 I4 E3 hE hI bo HV1 KR RB HQ
           generalize wr.drew=w3 at*
           go_wp2_with (first
            |((with_reducible refine zn1 (.tmp 49) blk (off+(i+1)*3+(c+1)*3) ec rc ?_ ?_ ?_ ?_);rfl;rfl;rfl)
            |((with_reducible refine zl3 (.tmp 51) (.tmp 50) blk (off+kk*3) ec hth ?_ ?_ ?_ ?_ ?_);rfl;rfl;rfl;rfl;clear hth rc;generalize w3.setCells blk (off+kk*3) ec.enc=w4 at *))
           go_roundg (d.size - (i+1+(c+1+1)))
           case measure=>omega
           case rel=>exact ⟨kk+1,c+1,dk.setIfInBounds kk ec,by go_num,by go_num,by omega,Nat.le_refl _,bo2,by simpa using hds,HE4,HI4⟩
        ·have hend:i+1+(c+1)=d.size:=by omega
         have hnl:¬ (c:Int)+1 < (d.size - (i+1):Nat):=by omega
         have hth:=hE.out.there (by decide) kk (by omega)
         rw [hds] at hth
         have hcl:∀ ty,(Builtin.clear_ #[71] ty #[.slice (some ⟨blk,off+kk*3,none⟩) (d.size - kk) (cap - kk)]).run Tryz.prog wr=.ok (.tuple #[]) (wr.setCells blk (off+kk*3) (Builtin.zeroCells #[.int .i64 0,.int .i64 0,.int .i64 0] (d.size - kk)).toList):=fun ty=>
          zhw Tryz.prog wr 71 81 ty _ Tryz.underlying71 zero81 (by
           intro v hv
           simp only [Builtin.zeroCells,Array.toList_map,List.mem_map,Array.toList_range,List.mem_range] at hv
           obtain ⟨q,_,rfl⟩:=hv
           have hq:q % 3 < 3:=Nat.mod_lt _ (by decide)
           show (#[Value.int .i64 0,.int .i64 0,.int .i64 0][q % 3]!).oneCell'=true
           generalize q % 3=z at hq
           match z,hq with
           | 0,_ | 1,_ | 2,_=>rfl) blk (off+kk*3) (cap - kk) (by omega) hth
         have E4:=hE.out.tail VR.len3 kk (by omega) (Builtin.zeroCells #[.int .i64 0,.int .i64 0,.int .i64 0] (d.size - kk)).toList
         have bo2:=bo.trans (zcc blk (Builtin.zeroCells #[.int .i64 0,.int .i64 0,.int .i64 0] (d.size - kk)).toList (off+kk*3) wr)
         have hsz2:(dk.take kk).size=kk:=by simp;omega
         have hres:(dk.take kk).toList=Go.Lib.compactUpTo d d.size:=by
          have hI':=hI.out
          rw [hend] at hI'
          refine List.ext_getElem (by simp [hI'.len];omega) fun j h1 h2=>?_
          have hj:j < kk:=by rw [← hI'.len];exact h2
          have:=hI'.low j hj
          rw [List.getElem?_eq_getElem h2] at this
          rw [Option.some.inj this,Array.getElem_toList,getElem!_pos dk j (by omega)]
          simp
         have HF:=Lib.hid (And.intro hres E4)
         have hkc:kk≤cap:=by omega
         have hkd:kk≤d.size:=by omega
         have hkc3:(kk:Int)≤cap:=by omega
         have hkd3:(kk:Int)≤d.size:=by omega
         clear hres E4 hE hI hth bo
         generalize (Builtin.zeroCells #[.int .i64 0,.int .i64 0,.int .i64 0] (d.size - kk)).toList=zs at*
         go_wp2_with fail
         go_ret
         exact ⟨dk.take kk,by rw [hsz2];rfl,HF.out.1,HF.out.2,bo2⟩
   ·have hend:i+1=d.size:=by omega
    have hn:¬ (i:Int)+1 < d.size:=by omega
    go_wp2_with fail
    go_ret
    exact ⟨d,rfl,ALL.out fun j hj=>hall.out j (by omega),HE.out.low hblk bw,Only.of_low bw⟩
def ziz (w:World) (q:List Val) (e:Ending) (w':World):Prop:=∃ V xs,e=.returned V∧w'.ownsRow w.heap.size 39 6 V q.length xs∧za2 w' (fun g=>w.heap.size≤g∧g < w'.heap.size∧V.ownBlock≠some g) xs q∧Below w.heap.size w w'
structure Acc (w:World) (l:List Val) (A:Value) (wr:World):Prop where
 own:∃ xs,wr.ownsRow w.heap.size 39 6 A l.length xs∧za2 wr (fun g=>w.heap.size≤g∧g < wr.heap.size∧A.ownBlock≠some g) xs l
 bel:Below w.heap.size w wr
theorem za9 {w w':World} {base:Nat} {e:TypeId} {size:Nat} {v:Value} {n:Nat} {xs:List Value} (h:w.ownsRow base e size v n xs) (b:Below w.heap.size w w'):w'.ownsRow base e size v n xs:=by
 refine ⟨h.1,?_⟩
 rcases h.2 with h0 | ⟨g,cap,cur,e1,h1,h2,h3⟩
 ·exact .inl h0
 ·exact .inr ⟨g,cap,cur,e1,h1,(b.block g (zac h2)).trans h2,h3⟩
theorem zwv:(Tryz.prog.info? 39).map (fun i=>(i.zero,i.size,i.bytes))=some (some (.agg #[.int .i64 0,.bool false,.int .i64 0,.string ⟨#[]⟩,.string ⟨#[]⟩,.slice none 0 0]),6,80):=by kernel_rfl
theorem zio (w:World) (a b c d e f:Value) (t:TypeId):∀ j u,[a,b,c,d,e,f][j]?=some u→(w.alloc (.cells #[a,b,c,d,e,f] t)).cell? ((⟨w.heap.size,0,none⟩:Addr).add j)=some u:=by
 intro j u hj
 rw [Addr.add_mid,Nat.zero_add]
 exact zab (zag w _ rfl) j (by simpa using hj)
theorem Acc.next {w wr wf w1:World} {l:List Val} {A A2:Value} {xs:List Value} {k:Int} {b:Bool} {n:Int} {t x:ByteArray} {q:List Val} {V:Value} {e:Nat} {o:Obj} (he:e=wr.heap.size)
 (hx:wr.ownsRow w.heap.size 39 6 A l.length xs) (hc:za2 wr (fun g=>w.heap.size≤g∧g < wr.heap.size∧A.ownBlock≠some g) xs l) (hbel:Below w.heap.size w wr)
 (bf:Below wr.heap.size wr wf) (hf:Fine n t x q.length) (hq:zde wf (fun g=>e < g∧g < wf.heap.size) V q)
 (hown:w1.ownsRow w.heap.size 39 6 A2 (l.length+1) (xs++[.int .i64 k,.bool b,.int .i64 n,.string t,.string x,V])) (hgrow:(wf.alloc o).grownBy w1 A.ownBlock) (hloc:A2.ownBlock=A.ownBlock∨A2.ownBlock=some (wf.heap.size+1)):
 Acc w (l++[.mk k b n t x q]) A2 w1:=by
 have hA:∀ g,A.ownBlock=some g→g < wr.heap.size:=fun g hg=>(hx.lt g hg).2
 have s1:(wf.alloc o).heap.size=wf.heap.size+1:=by simp
 have s2:wr.heap.size≤wf.heap.size:=bf.size
 have s3:(wf.alloc o).heap.size≤w1.heap.size:=hgrow.size
 have s0:w.heap.size≤wr.heap.size:=hbel.size
 have hn2:∀ g,g < wf.heap.size→A.ownBlock≠some g→A2.ownBlock≠some g:=fun g hg hne h=>by
  rcases hloc with h2 | h2
  ·exact hne (h2 ▸ h)
  ·rw [h2] at h
   have:=Option.some.inj h
   omega
 have keep:∀ g,g < wf.heap.size→A.ownBlock≠some g→w1.heap[g]?=wf.heap[g]?:=fun g hg hne=>by
  rw [hgrow.block g (by omega) (fun h=>hne h.symm)]
  exact Below.heap_alloc _ _ _ hg
 refine ⟨⟨_,by rw [List.length_append];exact hown,?_⟩,(hbel.trans (bf.mono s0) |>.alloc (by omega) o).grown hgrow (by omega) (fun g hg=>(hx.lt g hg).1)⟩
 refine za2.append l _ (hc.stays (fun g hg=>⟨⟨hg.1,by omega,hn2 g (by omega) hg.2.2⟩,?_⟩) l) (za2.one hf (hq.stays (fun g hg=>?_) q))
 ·rw [keep g (by omega) hg.2.2]
  exact bf.block g hg.2.1
 ·have hne:A.ownBlock≠some g:=fun h=>by have:=hA g h;omega
  exact ⟨⟨by omega,by omega,hn2 g hg.2 hne⟩,keep g hg.2 hne⟩
theorem zp0 {fn:Func} {p:Tmp} (h:fn.results=#[.cell p 39]) (tmps:Array Value) {w:World} {g:Nat} {k:Int} {b:Bool} {n:Int} {t x:ByteArray} {pp:Option Addr} {len cap:Nat}
 (hp:tmps.getD p undef=.pointer (some ⟨g,0,none⟩)) (hg:Six w g k b n t x pp len cap):(results fn tmps).run Tryz.prog w=.ok (.agg #[.int .i64 k,.bool b,.int .i64 n,.string t,.string x,.slice pp len cap]) w:=by
 have hp':tmps[p]?.getD undef=.pointer (some ⟨g,0,none⟩):=by simpa using hp
 have hl:=run_loadVar_row (P:=Tryz.prog) w g 39 39 _ (0,0) _ hg Tryz.underlying39 rfl zav
 simp [results,h,hp',asAddr,hl]
def zhx (w:World) (k:Int) (b:Bool) (n:Int) (t x:ByteArray) (q:List Val) (e:Ending) (w':World):Prop:=
 ∃ p c,e=.returned (.agg #[.int .i64 k,.bool b,.int .i64 n,.string t,.string x,.slice p q.length c])∧zde w' (fun g=>w.heap.size < g∧g < w'.heap.size) (.slice p q.length c) q∧Below w.heap.size w w'
def zsx (v:Val):Prop:=∀ (W:World) (k:Int) (b:Bool) (n:Int) (t x:ByteArray) (q:List Val) (p:Option Addr) (cap:Nat),v=.mk k b n t x q→q.length≤2097152→Held W (.slice p q.length cap) q→
 Calls Tryz.prog 72 #[.slice p q.length cap] W (ziz W q)
theorem zm7 (k:Int) (b:Bool) (n:Int) (t x:ByteArray) (q:List Val) (p:Option Addr) (cap:Nat) (w:World) (hc:∀ W,Below w.heap.size w W→Calls Tryz.prog 72 #[.slice p q.length cap] W (ziz W q)):
 Calls Tryz.prog 39 #[.agg #[.int .i64 k,.bool b,.int .i64 n,.string t,.string x,.slice p q.length cap]] w (zhx w k b n t x q):=by
 obtain ⟨W0,hW0⟩:∃ W0,W0=(w.alloc (.cells #[.int .i64 k,.bool b,.int .i64 n,.string t,.string x,.slice p q.length cap] 39)).alloc (.cells #[.int .i64 0,.bool false,.int .i64 0,.string ⟨#[]⟩,.string ⟨#[]⟩,.slice none 0 0] 39):=⟨_,rfl⟩
 have S1:Six W0 w.heap.size k b n t x p q.length cap:=by rw [hW0];exact (zah _ rfl).alloc _
 have S2:Six W0 (w.heap.size+1) 0 false 0 ⟨#[]⟩ ⟨#[]⟩ none 0 0:=by rw [hW0];exact zah _ (by simp)
 have b0:Below w.heap.size w W0:=by rw [hW0];exact (zap _ _).alloc (by simp) _
 have z0:W0.heap.size=w.heap.size+2:=by rw [hW0];simp
 have c5:=S1.c5
 have H0:=Lib.hid hW0
 have HZ:=Lib.hid z0
 clear hW0 z0
 go_enter Tryz.func39,Tryz.ntmps39
 go_wp2_with (first
  |(go_at_call 72;rw [← H0.out];(with_reducible refine (hc _ b0).mono ?_);rintro e w2 ⟨V,ys,rfl,hv,hcs,hb2⟩
    have hq2:zde w2 (fun g=>w.heap.size+1 < g∧g < w2.heap.size) V q:=zpw hv hcs (fun g hg=>⟨by have:=hg.1;have:=HZ.out;omega,hg.2.1⟩) (fun g hg=>⟨by have:=(hv.lt g hg).1;have:=HZ.out;omega,(hv.lt g hg).2⟩)
    obtain ⟨p2,c2,rfl⟩:=zcn hq2.held
    have T1:=S1.below hb2;have T2:=S2.below hb2;have b2:=zak b0 hb2 b0.size;have c5:=T1.c5;have f5:=T1.free 5
    have HQ:=Lib.hid hq2;clear hq2 hv hcs hb2 S1 S2 b0)
  |((with_reducible refine zaa (.tmp 1) w.heap.size (T1.set5 p2 q.length c2) ?_ ?_ ?_ ?_);rfl;rfl;rfl)
  |((with_reducible refine zal (k':=k) (b':=b) (n':=n) (t':=t) (x':=x) (p':=p2) (len':=q.length) (cap':=c2) (.tmp 2) (.tmp 7) (w.heap.size+1) (Six.only T2 (Only.refl w.heap.size _ |>.setCell 5 none _) (by omega)) ?_ ?_ ?_ ?_ ?_);rfl;rfl;rfl;rfl;intro w9 on9 S9))
 have on5:Only w.heap.size w2 (w2.setCell ⟨w.heap.size,5,none⟩ (.slice p2 q.length c2)):=(Only.refl w.heap.size w2).setCell 5 none _
 have s5:=on5.size
 have s9:=on9.size
 have b5:Below w.heap.size w (w2.setCell ⟨w.heap.size,5,none⟩ (.slice p2 q.length c2)):=zai b2 on5 (Nat.le_refl _) b2.size
 refine bodyPost_ret (zp0 (p:=2) Tryz.results39 _ rfl S9) rfl ⟨p2,c2,rfl,?_,zai b5 on9 (by omega) b5.size⟩
 exact HQ.out.stays (P':=fun g=>w.heap.size < g∧g < w9.heap.size) (fun g hg=>⟨⟨by omega,by omega⟩,(on9.block g (by omega) (by omega)).trans (on5.block g (by omega) (by omega))⟩) q
theorem zww (l:List Val) (g off cap:Nat) (w:World) (hl:zaq w g off l) (hn:l.length≤2097152) (each:∀ v∈l,zsx v):
 Calls Tryz.prog 72 #[.slice (some ⟨g,off,none⟩) l.length cap] w (ziz w l):=by
 obtain ⟨n,hln⟩:∃ n,n=l.length:=⟨_,rfl⟩
 rw [← hln] at hn ⊢
 obtain ⟨i0,hi,hz0,hz1,hz2⟩:=info_parts zwv
 have HL:=Lib.hid hln
 have HH:=Lib.hid hl
 have HE:=Lib.hid each
 clear hl hln each
 go_enter Tryz.func72,Tryz.ntmps72
 go_wp2_with fail
 go_loopg [3,4] n (fun gg s3 s4 wr=>∃ j:Nat,j+gg=n∧s4=.int .i64 j∧Hid (Acc w (l.take j) s3 wr))
 case atStart=>exact ⟨0,by omega,rfl,Lib.hid ⟨⟨[],by simpa using World.ownsRow_nil w w.heap.size 39 6,by unfold za2;rfl⟩,Below.refl _ _⟩⟩
 case round=>
  obtain ⟨j,hjg,rfl,HA⟩:=hrel
  by_cases hlt:(j:Int) < n
  ·have hj1:j < l.length:=by have:=HL.out;omega
   obtain ⟨k,b,m,t,x,q,p,cp,o1⟩:=((zaq.at_ l off HH.out j hj1).below _ HA.out.bel).opens
   have hcp:Calls Tryz.prog 39 #[.agg #[.int .i64 k,.bool b,.int .i64 m,.string t,.string x,.slice p q.length cp]] wr (zhx wr k b m t x q):=
    zm7 k b m t x q p cp wr fun W h=>HE.out l[j] (List.getElem_mem hj1) W k b m t x q p cp o1.e o1.hf.hn (Held.below q o1.hl h)
   unfold zhx at hcp
   have HF:=Lib.hid o1.hf
   have HV:=Lib.hid o1.e
   have hjl:(l.take j).length=j:=by rw [List.length_take];omega
   have c0:=o1.c0
   have c1:=o1.c1
   have c2:=o1.c2
   have c3:=o1.c3
   have c4:=o1.c4
   have c5:=o1.c5
   clear o1
   go_wp2_with (first
    |((with_reducible refine zay (.tmp 14) g (off+j*6) k b m t x _ c0 c1 c2 c3 c4 c5 ?_ ?_ ?_ ?_);rfl;rfl;rfl)
    |(go_at_call 39;(with_reducible refine hcp.mono ?_);rintro e wf ⟨p5,k5,rfl,hq0,bf0⟩
      obtain ⟨⟨xs,hown,hcs⟩,hbel⟩:=HA.out
      have hownX:=za9 hown bf0
      have hbs:=hbel.size
      have hfs:=bf0.size
      have HX:=Lib.hid (And.intro hown (And.intro hcs (And.intro hbel (And.intro bf0 hq0))))
      clear hown hcs hbel bf0 hq0 HA c0 c1 c2 c3 c4 c5 hcp)
    |(at_builtin;refine wpList_append_own_at _ rfl _ _ 37 rfl w.heap.size 39 i0 (.agg #[.int .i64 0,.bool false,.int .i64 0,.string ⟨#[]⟩,.string ⟨#[]⟩,.slice none 0 0]) 6 80 Tryz.underlying37 hi hz0 hz1 hz2 rfl (by decide) _ _ _ rfl (hownX.alloc _) ⟨wf.heap.size,0,none⟩ 1 1 [.int .i64 k,.bool b,.int .i64 m,.string t,.string x,.slice p5 q.length k5] rfl rfl (zio _ _ _ _ _ _ _ _) ?_ ?_ ?_ ?_ ?_))
   all_goals (try (first |(rw [hjl];unfold maxLen;omega) |(rw [hjl];omega) |(simp;omega) |(intro u hu;simp only [List.mem_cons,List.mem_nil_iff,or_false] at hu;rcases hu with rfl | rfl | rfl | rfl | rfl | rfl <;> rfl)))
   intro v' w1 hown' hgrow _ hloc
   have acc:=Acc.next (k:=k) (b:=b) (n:=m) (t:=t) (x:=x) (q:=q) rfl HX.out.1 HX.out.2.1 HX.out.2.2.1 HX.out.2.2.2.1 HF.out HX.out.2.2.2.2 (by rw [hjl];exact hown') hgrow hloc
   have e:l.take (j+1)=l.take j++[.mk k b m t x q]:=by rw [List.take_succ_eq_append_getElem hj1,HV.out]
   rw [← e] at acc
   have ACC:=Lib.hid acc
   clear acc hown' hgrow hloc hownX
   go_wp2_with fail
   go_roundg (gk - 1)
   case measure=>omega
   case rel=>exact ⟨j+1,by omega,by go_num,ACC⟩
  ·have e:l.take j=l:=by rw [List.take_of_length_le];have:=HL.out;omega
   have hA:=HA.out
   rw [e] at hA
   obtain ⟨⟨xs,hown,hcs⟩,hbel⟩:=hA
   have HX:=Lib.hid (And.intro hown (And.intro hcs hbel))
   clear hown hcs hbel HA
   go_wp2_with fail
   go_ret
   exact ⟨_,xs,rfl,HX.out.1,HX.out.2.1,HX.out.2.2⟩
theorem zul (q:List Val) (p:Option Addr) (cap:Nat) (w:World) (hl:Held w (.slice p q.length cap) q) (hn:q.length≤2097152) (each:∀ u∈q,zsx u):
 Calls Tryz.prog 72 #[.slice p q.length cap] w (ziz w q):=by
 cases q with
 | nil=>
   go_enter Tryz.func72,Tryz.ntmps72
   go_wp2_with fail
   go_loopg [3,4] 0 (fun gg s3 s4 wr=>gg=0∧s4=.int .i64 0∧s3=.slice none 0 0∧wr=w)
   case atStart=>exact ⟨rfl,rfl,rfl,rfl⟩
   case round=>
    obtain ⟨_,rfl,rfl,rfl⟩:=hrel
    go_wp2_with fail
    go_ret
    exact ⟨_,[],rfl,World.ownsRow_nil _ _ 39 6,by unfold za2;rfl,Below.refl _ _⟩
 | cons v r=>
   obtain ⟨g,off,rfl,hh⟩:=hl.form
   exact zww (v::r) g off cap w hh hn each
mutual
theorem zsy:(v:Val)→zsx v
 | .mk k b n t x q=>fun W k1 b1 n1 t1 x1 q1 p cap e hn hl=>by
   cases e
   exact zul q p cap W hl hn (zp1 q)
theorem zp1:(q:List Val)→∀ u∈q,zsx u
 | [],_,h=>absurd h (by simp)
 | v::r,u,h=>by
   rcases List.mem_cons.1 h with h | h
   ·rw [h];exact zsy v
   ·exact zp1 r u h
end
theorem rcopyAt (k:Int) (b:Bool) (n:Int) (t x:ByteArray) (q:List Val) (p:Option Addr) (cap:Nat) (w:World) (hf:Fine n t x q.length) (hl:Held w (.slice p q.length cap) q):
 Calls Tryz.prog 39 #[.agg #[.int .i64 k,.bool b,.int .i64 n,.string t,.string x,.slice p q.length cap]] w (zhx w k b n t x q):=
 zm7 k b n t x q p cap w fun W h=>zsy (.mk k b n t x q) W k b n t x q p cap rfl hf.hn (Held.below q hl h)
end Go.Proofs.YtanbgdhmfjgihaaGreatDoor
