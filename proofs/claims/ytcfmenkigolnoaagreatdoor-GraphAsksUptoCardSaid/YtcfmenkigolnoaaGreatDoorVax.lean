/- Texts of one kind, one behind the other: each says ahead of itself what it shows. -/
import Derived.Test.YtcfmenkigolnoaaGreatDoorVaw
/- GMN -/
namespace Go.Proofs.YtcfmenkigolnoaaGreatDoor
open Go.RowKit
def zdn (ns:List zaq) (x:Int):zaq:=(ns.find? fun a=>decide (a.id=x)).getD ⟨0,[],[]⟩
def zdo (es:List zas) (x:Int):zas:=(es.find? fun a=>decide (a.id=x)).getD ⟨0,0,0,⟨#[]⟩,[]⟩
theorem zwe {α:Type} {id:α→Int} {l:List α} {x:Int} {j:Nat} (hj:j < l.length) (h:id l[j]=x) (hb:∀ i (h:i < l.length),i < j→id l[i]≠x):l.find? (fun a=>decide (id a=x))=some l[j]:=by
 rw [List.find?_eq_some_iff_getElem]
 refine ⟨by simpa using h,j,hj,rfl,fun i hi=>?_⟩
 simpa using hb i (by omega) hi
theorem zyd {ids:List Int} {x r:Int} (h:zee ids x r) (h0:¬ r < 0):∃ j:Nat,r=j∧ids[j]?=some x∧∀ i:Nat,i < j→ids[i]?≠some x:=by
 rcases h with h | ⟨rfl,_⟩
 ·exact h
 ·exact absurd (by decide) h0
def zf8 (W:World) (P:Nat→Prop) (ns:List zaq) (x:Int) (e:Ending) (w':World):Prop:=
 ∃ c,e=.returned (.tuple #[.agg c.toArray,.bool (decide (x∈ns.map zaq.id))])∧zay.rel w' P c (zdn ns x)∧Below W.heap.size W w'
set_option maxHeartbeats 3200000 in
set_option maxRecDepth 20000 in
theorem zoo (ns:List zaq) (V U:Value) (x:Int) (W:World) (P:Nat→Prop) (hP:∀ i,P i→i < W.heap.size) (h:zaj zay W P V ns) (hU:∃ p n c,U=.slice p n c) (hn:ns.length≤2097152):
 Calls Tryz.prog 18 #[.agg #[V,U],.int .i64 x] W (zf8 W P ns x):=by
 obtain ⟨p,cap,rfl⟩:=h.slice
 obtain ⟨p2,n2,c2,rfl⟩:=hU
 obtain ⟨n,hl⟩:∃ n,n=ns.length:=⟨_,rfl⟩
 rw [← hl]
 rw [← hl] at h
 have b0:=zbi W (.cells #[.slice p n cap,.slice p2 n2 c2] 25) (.cells #[.int .i64 0,.slice none 0 0,.slice none 0 0] 38)
 have u1:((W.alloc (.cells #[.slice p n cap,.slice p2 n2 c2] 25)).alloc (.cells #[.int .i64 0,.slice none 0 0,.slice none 0 0] 38)).heap[W.heap.size]?=some (.cells #[.slice p n cap,.slice p2 n2 c2] 25 (0,0)):=zat _ (zae _ _ rfl)
 have u2:((W.alloc (.cells #[.slice p n cap,.slice p2 n2 c2] 25)).alloc (.cells #[.int .i64 0,.slice none 0 0,.slice none 0 0] 38)).heap[W.heap.size+1]?=some (.cells #[.int .i64 0,.slice none 0 0,.slice none 0 0] 38 (0,0)):=zae _ _ (by simp)
 obtain ⟨W0,hW0⟩:∃ W0,W0=(W.alloc (.cells #[.slice p n cap,.slice p2 n2 c2] 25)).alloc (.cells #[.int .i64 0,.slice none 0 0,.slice none 0 0] 38):=⟨_,rfl⟩
 rw [← hW0] at u1 u2 b0
 have HW:=Lib.hid h
 have H0:=Lib.hid hW0
 have hs0:zaj zay W0 (Old W0) (.slice p n cap) ns:=h.stays fun i hi=>⟨Nat.lt_of_lt_of_le (hP i hi) b0.size,b0.block i (hP i hi)⟩
 have hc:=zji ns (.slice p n cap) (.slice p2 n2 c2) x W0 hs0 ⟨_,_,_,rfl⟩ hn
 have HC:=Lib.hid hc
 have H1:=Lib.hid hs0
 have HL:=Lib.hid hl
 have HB0:=Lib.hid b0
 have HU:=Lib.hid (And.intro u1 u2)
 clear hW0 h hs0 hc b0 u2 hl
 go_enter Tryz.func18,Tryz.ntmps18
 go_upto_region 1 with fail
 rw [← H0.out]
 go_upto_region 2 with (first
  |((with_reducible refine zai (.tmp 2) W.heap.size 25 25 [.slice p n cap,.slice p2 n2 c2] 2 _ u1 rfl Tryz.underlying25 rfl zbh ?_ ?_ ?_ ?_);rfl;rfl;rfl)
  |(go_at_call 39;(with_reducible refine HC.out.mono ?_);rintro e w3 ⟨r,rfl,hfr,hb3⟩))
 have v1:=(hb3.block _ (zaa HU.out.1)).trans HU.out.1
 have v2:=(hb3.block _ (zaa HU.out.2)).trans HU.out.2
 have B3:=zab HB0.out hb3 HB0.out.size
 have hsz3:W.heap.size+1≤w3.heap.size:=by have:=zaa v2;omega
 by_cases hr:r < 0
 ·have hrd:decide (r < 0)=true:=decide_eq_true hr
  have HN:Hid (¬ x∈ns.map zaq.id):=Lib.hid ((zfl hfr).1 hr)
  have HB3:=Lib.hid B3
  clear hfr hb3 u1 v1 B3 hr
  go_wp2_with (first
   |((with_reducible refine zag (.tmp 4) (.tmp 12) (W.heap.size+1) 38 38 _ [.int .i64 0,.slice none 0 0,.slice none 0 0] 3 v2 rfl ?_ ?_ ?_ ?_ zam rfl (by simp [Value.oneCell']) ?_);rfl;rfl;rfl;rfl;intro wY oY u5))
  refine bodyPost_ret (zcf (p:=4) (q:=5) (ty:=38) Tryz.results18 _ _ (W.heap.size+1) #[.int .i64 0,.slice none 0 0,.slice none 0 0] (.bool false) rfl rfl (run_loadVar_row _ (W.heap.size+1) 38 38 _ (0,0) _ u5 Tryz.underlying38 rfl (by rw [zam];rfl))) rfl ?_
  unfold zf8 zdn
  rw [zdu HN.out,decide_eq_false HN.out]
  exact ⟨[.int .i64 0,.slice none 0 0,.slice none 0 0],rfl,⟨_,_,rfl,by decide,by decide,by decide,zaj.nil _ _,zaj.nil _ _⟩,zaf HB3.out oY (by omega) HB3.out.size⟩
 ·have hrd:decide (r < 0)=false:=decide_eq_false hr
  obtain ⟨j,rfl,hj1,hj2⟩:=zyd hfr hr
  have hjl:j < ns.length:=by
   have:=(List.getElem?_eq_some_iff.1 hj1).1
   rw [List.length_map] at this
   exact this
  have hjn:(j:Int) < n:=by have:=HL.out;omega
  have hid:ns[j].id=x:=by
   rw [List.getElem?_map,List.getElem?_eq_getElem hjl] at hj1
   exact Option.some.inj hj1
  have hfind:zdn ns x=ns[j]:=by
   unfold zdn
   rw [zwe hjl hid fun i h hi q=>hj2 i hi (by rw [List.getElem?_map,List.getElem?_eq_getElem h,← q];rfl)]
   rfl
  have hmem:x∈ns.map zaq.id:=List.mem_of_getElem? hj1
  obtain ⟨g,o,cp1,c,e1,hg1,hr1,hra1⟩:=HW.out.at_ j hjl
  injection e1 with e11 e12 e13
  subst e11
  have hlen:c.length=3:=zay.len hr1
  have hone:=zay.one hr1
  have k0:=zac v1 0 rfl
  have hra:w3.rangeAt g (o+j*3) c:=zaz hra1 B3
  have HB3:=Lib.hid B3
  have HR1:=Lib.hid hr1
  have HF:=Lib.hid (And.intro hfind hmem)
  clear hfr hb3 u1 v1 B3 hr hj1 hj2 hid hfind hmem e12 e13 hra1 hr1
  go_wp2_with (first
   |((with_reducible refine zap (.tmp 16) g (o+j*3) 38 c 3 _ hra hlen Tryz.underlying38 rfl zam ?_ ?_ ?_ ?_);rfl;rfl;rfl)
   |((with_reducible refine zag (.tmp 4) (.tmp 17) (W.heap.size+1) 38 38 _ c 3 v2 hlen ?_ ?_ ?_ ?_ zam rfl hone ?_);rfl;rfl;rfl;rfl;intro wY oY u5))
  refine bodyPost_ret (zcf (p:=4) (q:=5) (ty:=38) Tryz.results18 _ _ (W.heap.size+1) c.toArray (.bool true) rfl rfl (run_loadVar_row _ (W.heap.size+1) 38 38 _ (0,0) _ u5 Tryz.underlying38 rfl (by rw [zam];simp [hlen]))) rfl ?_
  unfold zf8
  rw [HF.out.1,decide_eq_true HF.out.2]
  have hsz:=oY.size
  exact ⟨c,rfl,zay.stays (fun i hi=>⟨hi,(oY.block i (Nat.lt_of_lt_of_le (hP i hi) HB3.out.size) (fun e=>by have:=hP i hi;omega)).trans (HB3.out.block i (hP i hi))⟩) HR1.out,zaf HB3.out oY (by omega) HB3.out.size⟩
def zf9 (W:World) (P:Nat→Prop) (es:List zas) (x:Int) (e:Ending) (w':World):Prop:=
 ∃ c,e=.returned (.tuple #[.agg c.toArray,.bool (decide (x∈es.map zas.id))])∧za0.rel w' P c (zdo es x)∧Below W.heap.size W w'
set_option maxHeartbeats 3200000 in
set_option maxRecDepth 20000 in
theorem zop (es:List zas) (U V:Value) (x:Int) (W:World) (P:Nat→Prop) (hP:∀ i,P i→i < W.heap.size) (h:zaj za0 W P V es) (hU:∃ p n c,U=.slice p n c) (hn:es.length≤2097152):
 Calls Tryz.prog 20 #[.agg #[U,V],.int .i64 x] W (zf9 W P es x):=by
 obtain ⟨p,cap,rfl⟩:=h.slice
 obtain ⟨p2,n2,c2,rfl⟩:=hU
 obtain ⟨n,hl⟩:∃ n,n=es.length:=⟨_,rfl⟩
 rw [← hl]
 rw [← hl] at h hn
 have b0:=zbi W (.cells #[.slice p2 n2 c2,.slice p n cap] 25) (.cells #[.int .i64 0,.int .i64 0,.int .i64 0,.string ⟨#[]⟩,.slice none 0 0] 41)
 have u1:((W.alloc (.cells #[.slice p2 n2 c2,.slice p n cap] 25)).alloc (.cells #[.int .i64 0,.int .i64 0,.int .i64 0,.string ⟨#[]⟩,.slice none 0 0] 41)).heap[W.heap.size]?=some (.cells #[.slice p2 n2 c2,.slice p n cap] 25 (0,0)):=zat _ (zae _ _ rfl)
 have u2:((W.alloc (.cells #[.slice p2 n2 c2,.slice p n cap] 25)).alloc (.cells #[.int .i64 0,.int .i64 0,.int .i64 0,.string ⟨#[]⟩,.slice none 0 0] 41)).heap[W.heap.size+1]?=some (.cells #[.int .i64 0,.int .i64 0,.int .i64 0,.string ⟨#[]⟩,.slice none 0 0] 41 (0,0)):=zae _ _ (by simp)
 obtain ⟨W0,hW0⟩:∃ W0,W0=(W.alloc (.cells #[.slice p2 n2 c2,.slice p n cap] 25)).alloc (.cells #[.int .i64 0,.int .i64 0,.int .i64 0,.string ⟨#[]⟩,.slice none 0 0] 41):=⟨_,rfl⟩
 rw [← hW0] at u1 u2 b0
 have H0:=Lib.hid hW0
 have HW:=Lib.hid h
 have HL:=Lib.hid hl
 have HB0:=Lib.hid b0
 have hsz0:W.heap.size+1≤W0.heap.size:=by have:=zaa u2;omega
 have k1:=zac u1 1 rfl
 clear hW0 h b0 hl u1
 go_enter Tryz.func20,Tryz.ntmps20
 go_upto_region 1 with fail
 rw [← H0.out]
 go_wp2_with fail
 go_loopg [6] n (fun gg s6 wr=>∃ j:Nat,j+gg=n∧s6=.int .i64 j∧Hid (∀ i (h:i < es.length),i < j→es[i].id≠x)∧W0=wr)
 case atStart=>exact ⟨0,by omega,rfl,Lib.hid (fun i _ h=>absurd h (by omega)),rfl⟩
 case round=>
  obtain ⟨j,hjg,rfl,HA,rfl⟩:=hrel
  by_cases hj:(j:Int) < n
  ·have hj1:j < es.length:=by have:=HL.out;omega
   obtain ⟨g,o,cp1,c,e1,hg1,hr1,hra1⟩:=HW.out.at_ j hj1
   injection e1 with e11 e12 e13
   subst e11
   have hlen:c.length=5:=za0.len hr1
   have hone:=za0.one hr1
   have hra:W0.rangeAt g (o+j*5) c:=zaz hra1 HB0.out
   obtain ⟨z,hz⟩:∃ z,z=es[j].id:=⟨_,rfl⟩
   have HZ:=Lib.hid hz
   have c1:W0.cell? ⟨g,o+j*5,none⟩=some (.int .i64 z):=by
    obtain ⟨pv,rfl,_⟩:=id hr1
    rw [hz]
    exact hra 0 _ rfl
   have HR1:=Lib.hid hr1
   clear hra1 hz e12 e13 hr1
   by_cases q:z=x
   ·subst q
    have hfind:zdo es z=es[j]:=by
     unfold zdo
     rw [zwe hj1 HZ.out.symm fun i h hi=>HA.out i h hi]
     rfl
    have HF:=Lib.hid (And.intro hfind (show z∈es.map zas.id from List.mem_map.2 ⟨es[j],List.getElem_mem hj1,HZ.out.symm⟩))
    clear hfind
    go_wp2_with (first
     |((with_reducible refine zap (.tmp 25) g (o+j*5) 41 c 5 _ hra hlen Tryz.underlying41 rfl zak ?_ ?_ ?_ ?_);rfl;rfl;rfl)
     |((with_reducible refine zag (.tmp 4) (.tmp 26) (W.heap.size+1) 41 41 _ c 5 u2 hlen ?_ ?_ ?_ ?_ zak rfl hone ?_);rfl;rfl;rfl;rfl;intro wY oY u5))
    refine bodyPost_ret (zcf (p:=4) (q:=5) (ty:=41) Tryz.results20 _ _ (W.heap.size+1) c.toArray (.bool true) rfl rfl (run_loadVar_row _ (W.heap.size+1) 41 41 _ (0,0) _ u5 Tryz.underlying41 rfl (by rw [zak];simp [hlen]))) rfl ?_
    unfold zf9
    rw [HF.out.1,decide_eq_true HF.out.2]
    have hsz:=oY.size
    exact ⟨c,rfl,za0.stays (fun i hi=>⟨hi,(oY.block i (Nat.lt_of_lt_of_le (hP i hi) HB0.out.size) (fun e=>by have:=hP i hi;omega)).trans (HB0.out.block i (hP i hi))⟩) HR1.out,zaf HB0.out oY (by omega) HB0.out.size⟩
   ·have q2:(z == x)=false:=by simpa using q
    have HA2:Hid (∀ i (h:i < es.length),i < j+1→es[i].id≠x):=Lib.hid fun i h1 h2=>by
     by_cases e:i=j
     ·subst e
      rw [← HZ.out]
      exact q
     ·exact HA.out i h1 (by omega)
    clear q hra hone
    go_wp2_with fail
    go_roundg (gk - 1)
    case measure=>omega
    case rel=>exact ⟨j+1,by omega,by go_num,HA2,rfl⟩
  ·have HN:Hid (¬ x∈es.map zas.id):=Lib.hid fun h=>by
    obtain ⟨a,ha,e⟩:=List.mem_map.1 h
    obtain ⟨i,hi,rfl⟩:=List.getElem_of_mem ha
    exact HA.out i hi (by have:=HL.out;omega) e
   go_wp2_with (first
    |((with_reducible refine zag (.tmp 4) (.tmp 27) (W.heap.size+1) 41 41 _ [.int .i64 0,.int .i64 0,.int .i64 0,.string ⟨#[]⟩,.slice none 0 0] 5 u2 rfl ?_ ?_ ?_ ?_ zak rfl (by simp [Value.oneCell']) ?_);rfl;rfl;rfl;rfl;intro wY oY u5))
   refine bodyPost_ret (zcf (p:=4) (q:=5) (ty:=41) Tryz.results20 _ _ (W.heap.size+1) #[.int .i64 0,.int .i64 0,.int .i64 0,.string ⟨#[]⟩,.slice none 0 0] (.bool false) rfl rfl (run_loadVar_row _ (W.heap.size+1) 41 41 _ (0,0) _ u5 Tryz.underlying41 rfl (by rw [zak];rfl))) rfl ?_
   unfold zf9 zdo
   rw [zdu HN.out,decide_eq_false HN.out]
   exact ⟨[.int .i64 0,.int .i64 0,.int .i64 0,.string ⟨#[]⟩,.slice none 0 0],rfl,⟨_,rfl,⟨by decide,by decide,by decide⟩,by decide,by decide,zaj.nil _ _⟩,zaf HB0.out oY (by omega) HB0.out.size⟩
end Go.Proofs.YtcfmenkigolnoaaGreatDoor

/- GMO -/
namespace Go.Proofs.YtcfmenkigolnoaaGreatDoor
open Go.RowKit
def labL (ns:List zaq) (ls:List ByteArray):List Int:=(ns.filter fun a=>ze4 a ls).map zaq.id
theorem zwf (ns:List zaq) (ls:List ByteArray) (j:Nat) (hj:j < ns.length):labL (ns.take (j+1)) ls=labL (ns.take j) ls++(if ze4 ns[j] ls=true then [ns[j].id] else []):=by
 unfold labL
 rw [zf6 (fun a=>ze4 a ls) ns j hj,List.map_append]
 split <;> rfl
theorem zye (ns:List zaq) (ls:List ByteArray):(labL ns ls).length≤ns.length:=by
 unfold labL
 rw [List.length_map]
 exact List.length_filter_le _ _
def zfu (W:World) (l:List Int) (e:Ending) (w':World):Prop:=∃ R,e=.returned R∧w'.ownsRow W.heap.size 2 1 R l.length (l.map (Value.int .i64))∧Below W.heap.size W w'
set_option maxHeartbeats 3200000 in
set_option maxRecDepth 20000 in
theorem zoq (ns:List zaq) (V U LV:Value) (ls:List ByteArray) (W:World) (h:zaj zay W (Old W) V ns) (hU:∃ p n c,U=.slice p n c) (hV:zcd W LV ls) (hn:ns.length≤2097152) (hnl:ls.length≤2097152):
 Calls Tryz.prog 32 #[.agg #[V,U],LV] W (zfu W (labL ns ls)):=by
 obtain ⟨i0,hi,hz0,hz1,hz2⟩:=info_parts zdc
 obtain ⟨p,cap,rfl⟩:=h.slice
 obtain ⟨p2,n2,c2,rfl⟩:=hU
 obtain ⟨lp,lc,rfl,hlc⟩:=id hV
 obtain ⟨n,hl⟩:∃ n,n=ns.length:=⟨_,rfl⟩
 obtain ⟨m,hm⟩:∃ m,m=ls.length:=⟨_,rfl⟩
 rw [← hl,← hm]
 rw [← hl] at h hn
 rw [← hm] at hV
 have b0:=zar W (.cells #[.slice p n cap,.slice p2 n2 c2] 25)
 have u1:(W.alloc (.cells #[.slice p n cap,.slice p2 n2 c2] 25)).heap[W.heap.size]?=some (.cells #[.slice p n cap,.slice p2 n2 c2] 25 (0,0)):=zae _ _ rfl
 obtain ⟨W0,hW0⟩:∃ W0,W0=W.alloc (.cells #[.slice p n cap,.slice p2 n2 c2] 25):=⟨_,rfl⟩
 rw [← hW0] at u1 b0
 have H0:=Lib.hid hW0
 have H1:=Lib.hid (h.stays (zad b0))
 have HV:=Lib.hid (hV.below b0)
 have HL:=Lib.hid hl
 have HB0:=Lib.hid b0
 have HU:=Lib.hid u1
 have HNL:=Lib.hid hnl
 clear hW0 h hl b0 hlc hV hm u1 hnl
 go_enter Tryz.func32,Tryz.ntmps32
 go_upto_region 1 with fail
 rw [← H0.out]
 go_wp2_with fail
 go_loopg [5,6] n (fun gg s5 s6 wr=>∃ j:Nat,j+gg=n∧s6=.int .i64 j∧Hid (wr.ownsRow W0.heap.size 2 1 s5 (labL (ns.take j) ls).length ((labL (ns.take j) ls).map (Value.int .i64))∧Below W0.heap.size W0 wr))
 case atStart=>exact ⟨0,by omega,rfl,Lib.hid ⟨by simp [labL];exact World.ownsRow_nil _ _ _ _,Below.refl _ _⟩⟩
 case round=>
  obtain ⟨j,hjg,rfl,HA⟩:=hrel
  have ux:=(HA.out.2.block _ (zaa HU.out)).trans HU.out
  have k0:=zac ux 0 rfl
  by_cases hj:(j:Int) < n
  ·have hj1:j < ns.length:=by have:=HL.out;omega
   obtain ⟨g,o,cp1,c,e1,hg1,hr1,hra1⟩:=(H1.out.stays (zad HA.out.2)).at_ j hj1
   injection e1 with e11 e12 e13
   subst e11
   have hlen:c.length=3:=zay.len hr1
   have hra:wr.rangeAt g (o+j*3) c:=hra1
   have HC:=Lib.hid (zyc ns[j] c _ ls wr hr1 (HV.out.below HA.out.2) HNL.out)
   obtain ⟨x,hx⟩:∃ x,x=ns[j].id:=⟨_,rfl⟩
   have c1:wr.cell? ⟨g,o+j*3,none⟩=some (.int .i64 x):=by
    obtain ⟨lv,pv,rfl,_⟩:=hr1
    rw [hx]
    exact hra 0 _ rfl
   have etk:=zwf ns ls j hj1
   have hll:(labL (ns.take j) ls).length≤2097152:=by
    have:=zye (ns.take j) ls
    have:=List.length_take_le j ns
    have:=HL.out
    omega
   obtain ⟨l,hl⟩:∃ l,l=labL (ns.take j) ls:=⟨_,rfl⟩
   obtain ⟨r,hr⟩:∃ r,r=ze4 ns[j] ls:=⟨_,rfl⟩
   rw [← hl] at HA etk hll
   rw [← hr] at HC etk
   rw [← hx] at etk
   have HT:=Lib.hid etk
   have HUX:=Lib.hid ux
   clear etk hl hr hx hra1 e12 e13 hr1 ux
   cases r with
   | true=>
     go_wp2_with (first
      |((with_reducible refine zap (.tmp 17) g (o+j*3) 38 c 3 _ hra hlen Tryz.underlying38 rfl zam ?_ ?_ ?_ ?_);rfl;rfl;rfl)
      |(go_at_call 64;(with_reducible refine HC.out.mono ?_);rintro e w3 ⟨rfl,hb3⟩
        have ho:w3.ownsRow W0.heap.size 2 1 _ l.length (l.map (Value.int .i64)):=zav HA.out.1 hb3
        have hb:Below W0.heap.size W0 w3:=zab HA.out.2 hb3 HA.out.2.size
        have c3:=zah c1 hb3
        have k3:=zah k0 hb3)
      |(at_builtin;refine wpList_append_own_at _ rfl _ _ 42 rfl W0.heap.size 2 i0 (.int .i64 0) 1 8 Tryz.underlying42 hi hz0 hz1 hz2 rfl (by decide) _ _ _ rfl (ho.alloc _) ⟨w3.heap.size,0,none⟩ 1 1 [.int .i64 x] rfl rfl (zbc w3 [.int .i64 x] 2) (by simp [Value.oneCell']) ?_ ?_ ?_ ?_))
     all_goals (try (first |(unfold maxLen;omega) | omega |(have:=hb.size;omega) |(simp;have:=hb.size;omega)))
     intro v' w5 ho5 hg5 _ hloc5
     have hb5:Below W0.heap.size W0 w5:=(hb.alloc hb.size _).grown hg5 (by have:=hb.size;simp;omega) (fun j e=>(ho.lt j e).1)
     have HB:=Lib.hid (show w5.ownsRow W0.heap.size 2 1 v' (l++[x]).length ((l++[x]).map (Value.int .i64)) by rw [List.length_append,List.map_append];exact ho5)
     clear ho5 hg5 hloc5 ho hb
     go_wp2_with fail
     go_roundg (gk - 1)
     case measure=>omega
     case rel=>exact ⟨j+1,by omega,by go_num,Lib.hid (by rw [HT.out,if_pos (by trivial)];exact ⟨HB.out,hb5⟩)⟩
   | false=>
     go_wp2_with (first
      |((with_reducible refine zap (.tmp 17) g (o+j*3) 38 c 3 _ hra hlen Tryz.underlying38 rfl zam ?_ ?_ ?_ ?_);rfl;rfl;rfl)
      |(go_at_call 64;(with_reducible refine HC.out.mono ?_);rintro e w3 ⟨rfl,hb3⟩
        have ho:w3.ownsRow W0.heap.size 2 1 _ l.length (l.map (Value.int .i64)):=zav HA.out.1 hb3
        have hb:Below W0.heap.size W0 w3:=zab HA.out.2 hb3 HA.out.2.size))
     go_roundg (gk - 1)
     case measure=>omega
     case rel=>exact ⟨j+1,by omega,by go_num,Lib.hid (by rw [HT.out,if_neg (by simp),List.append_nil];exact ⟨ho,hb⟩)⟩
  ·have e:ns.take j=ns:=by rw [List.take_of_length_le];have:=HL.out;omega
   have hA:=HA.out
   rw [e] at hA
   have HZ:=Lib.hid (And.intro (zbr hA.1 HB0.out.size) (zab HB0.out hA.2 HB0.out.size))
   clear hA HA e
   go_wp2_with fail
   go_ret
   exact ⟨_,rfl,HZ.out⟩
end Go.Proofs.YtcfmenkigolnoaaGreatDoor

/- GMQ -/
namespace Go.Proofs.YtcfmenkigolnoaaGreatDoor
open Go.RowKit
def ze5 (a:zas) (x d:Int):Bool:=(decide (d=1) && decide (a.src=x)) || (decide (d=-1) && decide (a.dst=x)) || (decide (d=0) && (decide (a.src=x) || decide (a.dst=x)))
def hopB (a:zas) (x d:Int) (ts:List ByteArray):Bool:=ze5 a x d && (decide (ts.length=0) || memB a.type ts)
def hopL (es:List zas) (x d:Int) (ts:List ByteArray):List Int:=(es.filter fun a=>hopB a x d ts).map zas.id
theorem zwg (es:List zas) (x d:Int) (ts:List ByteArray) (j:Nat) (hj:j < es.length):hopL (es.take (j+1)) x d ts=hopL (es.take j) x d ts++(if hopB es[j] x d ts=true then [es[j].id] else []):=by
 unfold hopL
 rw [zf6 (fun a=>hopB a x d ts) es j hj,List.map_append]
 split <;> rfl
theorem zyf (es:List zas) (x d:Int) (ts:List ByteArray):(hopL es x d ts).length≤es.length:=by
 unfold hopL
 rw [List.length_map]
 exact List.length_filter_le _ _
set_option maxHeartbeats 12800000 in
set_option maxRecDepth 20000 in
theorem zor (es:List zas) (V U TV:Value) (x d:Int) (ts:List ByteArray) (W:World) (h:zaj za0 W (Old W) V es) (hU:∃ p n c,U=.slice p n c) (hV:zcd W TV ts) (hn:es.length≤2097152) (hnt:ts.length≤2097152):
 Calls Tryz.prog 25 #[.agg #[U,V],.int .i64 x,.int .i64 d,TV] W (zfu W (hopL es x d ts)):=by
 obtain ⟨i0,hi,hz0,hz1,hz2⟩:=info_parts zdc
 obtain ⟨p,cap,rfl⟩:=h.slice
 obtain ⟨p2,n2,c2,rfl⟩:=hU
 obtain ⟨lp,lc,rfl,hlc⟩:=id hV
 obtain ⟨n,hl⟩:∃ n,n=es.length:=⟨_,rfl⟩
 obtain ⟨m,hm⟩:∃ m,m=ts.length:=⟨_,rfl⟩
 rw [← hl,← hm]
 rw [← hl] at h hn
 rw [← hm] at hV
 have b0:=zar W (.cells #[.slice p2 n2 c2,.slice p n cap] 25)
 have u1:(W.alloc (.cells #[.slice p2 n2 c2,.slice p n cap] 25)).heap[W.heap.size]?=some (.cells #[.slice p2 n2 c2,.slice p n cap] 25 (0,0)):=zae _ _ rfl
 obtain ⟨W0,hW0⟩:∃ W0,W0=W.alloc (.cells #[.slice p2 n2 c2,.slice p n cap] 25):=⟨_,rfl⟩
 rw [← hW0] at u1 b0
 have H0:=Lib.hid hW0
 have H1:=Lib.hid (h.stays (zad b0))
 have HV:=Lib.hid (hV.below b0)
 have HL:=Lib.hid hl
 have HM:=Lib.hid hm
 have HB0:=Lib.hid b0
 have HU:=Lib.hid u1
 have HNT:=Lib.hid hnt
 have hml:m≤2097152:=by omega
 clear hW0 h hl b0 hlc hV hm u1 hnt
 go_enter Tryz.func25,Tryz.ntmps25
 go_upto_region 1 with fail
 rw [← H0.out]
 go_wp2_with fail
 go_loopg [9,10] n (fun gg s9 s10 wr=>∃ j:Nat,j+gg=n∧s10=.int .i64 j∧Hid (wr.ownsRow W0.heap.size 2 1 s9 (hopL (es.take j) x d ts).length ((hopL (es.take j) x d ts).map (Value.int .i64))∧Below W0.heap.size W0 wr))
 case atStart=>exact ⟨0,by omega,rfl,Lib.hid ⟨by simp [hopL];exact World.ownsRow_nil _ _ _ _,Below.refl _ _⟩⟩
 case round=>
  obtain ⟨j,hjg,rfl,HA⟩:=hrel
  have ux:=(HA.out.2.block _ (zaa HU.out)).trans HU.out
  have k1:=zac ux 1 rfl
  by_cases hj:(j:Int) < n
  ·have hj1:j < es.length:=by have:=HL.out;omega
   obtain ⟨g,o,cp1,c,e1,hg1,hr1,hra1⟩:=(H1.out.stays (zad HA.out.2)).at_ j hj1
   injection e1 with e11 e12 e13
   subst e11
   have etk:=zwg es x d ts j hj1
   obtain ⟨a,ha⟩:∃ a,a=es[j]:=⟨_,rfl⟩
   rw [← ha] at hr1 etk
   obtain ⟨id,src,dst,ty,ps⟩:=a
   obtain ⟨pv,rfl,hwf,hq1,hq2,hsp⟩:=hr1
   obtain ⟨pp,pc,rfl⟩:=hsp.slice
   obtain ⟨mp,hmp⟩:∃ m,m=ps.length:=⟨_,rfl⟩
   have hra:wr.rangeAt g (o+j*5) [.int .i64 id,.int .i64 src,.int .i64 dst,.string ty,.slice pp ps.length pc]:=hra1
   rw [← hmp] at hra
   have hll:(hopL (es.take j) x d ts).length≤2097152:=by
    have:=zyf (es.take j) x d ts
    have:=List.length_take_le j es
    have:=HL.out
    omega
   obtain ⟨l,hl⟩:∃ l,l=hopL (es.take j) x d ts:=⟨_,rfl⟩
   rw [← hl] at HA etk hll
   replace etk:hopL (es.take (j+1)) x d ts=l++(if (ze5 ⟨id,src,dst,ty,ps⟩ x d && (decide (m=0) || memB ty ts))=true then [id] else []):=by rw [etk,HM.out];rfl
   clear hl ha hmp hra1 e12 e13 hsp hq1 hq2
   go_upto_region 6 with (first
    |((with_reducible refine zap (.tmp 23) g (o+j*5) 41 [.int .i64 id,.int .i64 src,.int .i64 dst,.string ty,.slice pp mp pc] 5 _ hra rfl Tryz.underlying41 rfl zak ?_ ?_ ?_ ?_);rfl;rfl;rfl)
    |((with_reducible refine zag (.tmp 11) (.tmp 24) wr.heap.size 41 41 _ [.int .i64 id,.int .i64 src,.int .i64 dst,.string ty,.slice pp mp pc] 5 (zae _ _ rfl) rfl ?_ ?_ ?_ ?_ zak rfl (by simp [Value.oneCell']) ?_);rfl;rfl;rfl;rfl;intro wX oX hx))
   have bX:Below wr.heap.size wr wX:=zaf (zar wr _) oX (Nat.le_refl _) (by simp)
   have ho:wX.ownsRow W0.heap.size 2 1 _ l.length (l.map (Value.int .i64)):=zav HA.out.1 bX
   have hb:Below W0.heap.size W0 wX:=zab HA.out.2 bX HA.out.2.size
   obtain ⟨xb,hxb⟩:∃ xb,xb=wr.heap.size:=⟨_,rfl⟩
   rw [← hxb] at hx ⊢
   have HI0:=zha _ ts ty wX (HV.out.below hb) HNT.out
   obtain ⟨r,hr⟩:∃ r,r=memB ty ts:=⟨_,rfl⟩
   rw [← hr] at HI0 etk
   have HI:=Lib.hid HI0
   have c0:=zac hx 0 rfl
   have c1:=zac hx 1 rfl
   have c2':=zac hx 2 rfl
   have c3:=zac hx 3 rfl
   clear hra k1 ux HA oX bX hxb hr HI0 hx
   by_cases d1:d=1
   ·subst d1
    by_cases hsrc:src=x
    ·have esrc:(src == x)=true:=by simpa using hsrc
     have hgo:ze5 ⟨id,src,dst,ty,ps⟩ x 1=true:=by unfold ze5;simp [hsrc]
     by_cases hm0:m=0
     ·have HT:Hid (hopL (es.take (j+1)) x 1 ts=l++[id]):=Lib.hid (by rw [etk,hgo,decide_eq_true hm0];rfl)
      subst hm0
      clear etk hgo HI
      go_wp2_with (first
       |(at_builtin;refine wpList_append_own_at _ rfl _ _ 42 rfl W0.heap.size 2 i0 (.int .i64 0) 1 8 Tryz.underlying42 hi hz0 hz1 hz2 rfl (by decide) _ _ _ rfl (ho.alloc _) ⟨wX.heap.size,0,none⟩ 1 1 [.int .i64 id] rfl rfl (zbc wX [.int .i64 id] 2) (by simp [Value.oneCell']) ?_ ?_ ?_ ?_))
      all_goals (try (first |(unfold maxLen;omega) | omega |(have:=hb.size;omega) |(simp;have:=hb.size;omega)))
      intro v' w5 ho5 hg5 _ hloc5
      have hb5:Below W0.heap.size W0 w5:=(hb.alloc hb.size _).grown hg5 (by have:=hb.size;simp;omega) (fun j e=>(ho.lt j e).1)
      have HB:=Lib.hid (show w5.ownsRow W0.heap.size 2 1 v' (l++[id]).length ((l++[id]).map (Value.int .i64)) by rw [List.length_append,List.map_append];exact ho5)
      clear ho5 hg5 hloc5 ho hb
      go_wp2_with fail
      go_roundg (gk - 1)
      case measure=>omega
      case rel=>exact ⟨j+1,by omega,by go_num,Lib.hid (by rw [HT.out];exact ⟨HB.out,hb5⟩)⟩
     ·have hm1:((m:Int) == 0)=false:=by simp;omega
      cases r with
      | true=>
        have HT:Hid (hopL (es.take (j+1)) x 1 ts=l++[id]):=Lib.hid (by rw [etk,hgo,Bool.or_true];rfl)
        clear etk hgo
        go_wp2_with (first
         |(go_at_call 55;(with_reducible refine HI.out.mono ?_);rintro e w4 ⟨ri,rfl,hi1,hi2,rfl⟩;have hri:=hi1 rfl;have hrd:decide (0≤ri)=true:=decide_eq_true hri)
         |(at_builtin;refine wpList_append_own_at _ rfl _ _ 42 rfl W0.heap.size 2 i0 (.int .i64 0) 1 8 Tryz.underlying42 hi hz0 hz1 hz2 rfl (by decide) _ _ _ rfl (ho.alloc _) ⟨wX.heap.size,0,none⟩ 1 1 [.int .i64 id] rfl rfl (zbc wX [.int .i64 id] 2) (by simp [Value.oneCell']) ?_ ?_ ?_ ?_))
        all_goals (try (first |(unfold maxLen;omega) | omega |(have:=hb.size;omega) |(simp;have:=hb.size;omega)))
        intro v' w5 ho5 hg5 _ hloc5
        have hb5:Below W0.heap.size W0 w5:=(hb.alloc hb.size _).grown hg5 (by have:=hb.size;simp;omega) (fun j e=>(ho.lt j e).1)
        have HB:=Lib.hid (show w5.ownsRow W0.heap.size 2 1 v' (l++[id]).length ((l++[id]).map (Value.int .i64)) by rw [List.length_append,List.map_append];exact ho5)
        clear ho5 hg5 hloc5 ho hb
        go_wp2_with fail
        go_roundg (gk - 1)
        case measure=>omega
        case rel=>exact ⟨j+1,by omega,by go_num,Lib.hid (by rw [HT.out];exact ⟨HB.out,hb5⟩)⟩
      | false=>
        have HT:Hid (hopL (es.take (j+1)) x 1 ts=l):=Lib.hid (by rw [etk,hgo,decide_eq_false hm0,if_neg (by decide),List.append_nil])
        clear etk hgo
        go_wp2_with (first
         |(go_at_call 55;(with_reducible refine HI.out.mono ?_);rintro e w4 ⟨ri,rfl,hi1,hi2,rfl⟩;have hri:=hi2 rfl;have hrd:decide (0≤ri)=false:=decide_eq_false (by omega)))
        go_roundg (gk - 1)
        case measure=>omega
        case rel=>exact ⟨j+1,by omega,by go_num,Lib.hid (by rw [HT.out];exact ⟨ho,hb⟩)⟩
    ·have esrc:(src == x)=false:=by simpa using hsrc
     have hgo:ze5 ⟨id,src,dst,ty,ps⟩ x 1=false:=by unfold ze5;simp [hsrc]
     have HT:Hid (hopL (es.take (j+1)) x 1 ts=l):=Lib.hid (by rw [etk,hgo,Bool.false_and,if_neg (by decide),List.append_nil])
     clear etk hgo
     go_wp2_with fail
     go_roundg (gk - 1)
     case measure=>omega
     case rel=>exact ⟨j+1,by omega,by go_num,Lib.hid (by rw [HT.out];exact ⟨ho,hb⟩)⟩
   by_cases d2:d=-1
   ·subst d2
    by_cases hdst:dst=x
    ·have edst:(dst == x)=true:=by simpa using hdst
     have hgo:ze5 ⟨id,src,dst,ty,ps⟩ x (-1)=true:=by unfold ze5;simp [hdst]
     by_cases hm0:m=0
     ·have HT:Hid (hopL (es.take (j+1)) x (-1) ts=l++[id]):=Lib.hid (by rw [etk,hgo,decide_eq_true hm0];rfl)
      subst hm0
      clear etk hgo HI
      go_wp2_with (first
       |(at_builtin;refine wpList_append_own_at _ rfl _ _ 42 rfl W0.heap.size 2 i0 (.int .i64 0) 1 8 Tryz.underlying42 hi hz0 hz1 hz2 rfl (by decide) _ _ _ rfl (ho.alloc _) ⟨wX.heap.size,0,none⟩ 1 1 [.int .i64 id] rfl rfl (zbc wX [.int .i64 id] 2) (by simp [Value.oneCell']) ?_ ?_ ?_ ?_))
      all_goals (try (first |(unfold maxLen;omega) | omega |(have:=hb.size;omega) |(simp;have:=hb.size;omega)))
      intro v' w5 ho5 hg5 _ hloc5
      have hb5:Below W0.heap.size W0 w5:=(hb.alloc hb.size _).grown hg5 (by have:=hb.size;simp;omega) (fun j e=>(ho.lt j e).1)
      have HB:=Lib.hid (show w5.ownsRow W0.heap.size 2 1 v' (l++[id]).length ((l++[id]).map (Value.int .i64)) by rw [List.length_append,List.map_append];exact ho5)
      clear ho5 hg5 hloc5 ho hb
      go_wp2_with fail
      go_roundg (gk - 1)
      case measure=>omega
      case rel=>exact ⟨j+1,by omega,by go_num,Lib.hid (by rw [HT.out];exact ⟨HB.out,hb5⟩)⟩
     ·have hm1:((m:Int) == 0)=false:=by simp;omega
      cases r with
      | true=>
        have HT:Hid (hopL (es.take (j+1)) x (-1) ts=l++[id]):=Lib.hid (by rw [etk,hgo,Bool.or_true];rfl)
        clear etk hgo
        go_wp2_with (first
         |(go_at_call 55;(with_reducible refine HI.out.mono ?_);rintro e w4 ⟨ri,rfl,hi1,hi2,rfl⟩;have hri:=hi1 rfl;have hrd:decide (0≤ri)=true:=decide_eq_true hri)
         |(at_builtin;refine wpList_append_own_at _ rfl _ _ 42 rfl W0.heap.size 2 i0 (.int .i64 0) 1 8 Tryz.underlying42 hi hz0 hz1 hz2 rfl (by decide) _ _ _ rfl (ho.alloc _) ⟨wX.heap.size,0,none⟩ 1 1 [.int .i64 id] rfl rfl (zbc wX [.int .i64 id] 2) (by simp [Value.oneCell']) ?_ ?_ ?_ ?_))
        all_goals (try (first |(unfold maxLen;omega) | omega |(have:=hb.size;omega) |(simp;have:=hb.size;omega)))
        intro v' w5 ho5 hg5 _ hloc5
        have hb5:Below W0.heap.size W0 w5:=(hb.alloc hb.size _).grown hg5 (by have:=hb.size;simp;omega) (fun j e=>(ho.lt j e).1)
        have HB:=Lib.hid (show w5.ownsRow W0.heap.size 2 1 v' (l++[id]).length ((l++[id]).map (Value.int .i64)) by rw [List.length_append,List.map_append];exact ho5)
        clear ho5 hg5 hloc5 ho hb
        go_wp2_with fail
        go_roundg (gk - 1)
        case measure=>omega
        case rel=>exact ⟨j+1,by omega,by go_num,Lib.hid (by rw [HT.out];exact ⟨HB.out,hb5⟩)⟩
      | false=>
        have HT:Hid (hopL (es.take (j+1)) x (-1) ts=l):=Lib.hid (by rw [etk,hgo,decide_eq_false hm0,if_neg (by decide),List.append_nil])
        clear etk hgo
        go_wp2_with (first
         |(go_at_call 55;(with_reducible refine HI.out.mono ?_);rintro e w4 ⟨ri,rfl,hi1,hi2,rfl⟩;have hri:=hi2 rfl;have hrd:decide (0≤ri)=false:=decide_eq_false (by omega)))
        go_roundg (gk - 1)
        case measure=>omega
        case rel=>exact ⟨j+1,by omega,by go_num,Lib.hid (by rw [HT.out];exact ⟨ho,hb⟩)⟩
    ·have edst:(dst == x)=false:=by simpa using hdst
     have hgo:ze5 ⟨id,src,dst,ty,ps⟩ x (-1)=false:=by unfold ze5;simp [hdst]
     have HT:Hid (hopL (es.take (j+1)) x (-1) ts=l):=Lib.hid (by rw [etk,hgo,Bool.false_and,if_neg (by decide),List.append_nil])
     clear etk hgo
     go_wp2_with fail
     go_roundg (gk - 1)
     case measure=>omega
     case rel=>exact ⟨j+1,by omega,by go_num,Lib.hid (by rw [HT.out];exact ⟨ho,hb⟩)⟩
   by_cases d3:d=0
   ·subst d3
    by_cases hsrc:src=x
    ·have esrc:(src == x)=true:=by simpa using hsrc
     have hgo:ze5 ⟨id,src,dst,ty,ps⟩ x 0=true:=by unfold ze5;simp [hsrc]
     by_cases hm0:m=0
     ·have HT:Hid (hopL (es.take (j+1)) x 0 ts=l++[id]):=Lib.hid (by rw [etk,hgo,decide_eq_true hm0];rfl)
      subst hm0
      clear etk hgo HI
      go_wp2_with (first
       |(at_builtin;refine wpList_append_own_at _ rfl _ _ 42 rfl W0.heap.size 2 i0 (.int .i64 0) 1 8 Tryz.underlying42 hi hz0 hz1 hz2 rfl (by decide) _ _ _ rfl (ho.alloc _) ⟨wX.heap.size,0,none⟩ 1 1 [.int .i64 id] rfl rfl (zbc wX [.int .i64 id] 2) (by simp [Value.oneCell']) ?_ ?_ ?_ ?_))
      all_goals (try (first |(unfold maxLen;omega) | omega |(have:=hb.size;omega) |(simp;have:=hb.size;omega)))
      intro v' w5 ho5 hg5 _ hloc5
      have hb5:Below W0.heap.size W0 w5:=(hb.alloc hb.size _).grown hg5 (by have:=hb.size;simp;omega) (fun j e=>(ho.lt j e).1)
      have HB:=Lib.hid (show w5.ownsRow W0.heap.size 2 1 v' (l++[id]).length ((l++[id]).map (Value.int .i64)) by rw [List.length_append,List.map_append];exact ho5)
      clear ho5 hg5 hloc5 ho hb
      go_wp2_with fail
      go_roundg (gk - 1)
      case measure=>omega
      case rel=>exact ⟨j+1,by omega,by go_num,Lib.hid (by rw [HT.out];exact ⟨HB.out,hb5⟩)⟩
     ·have hm1:((m:Int) == 0)=false:=by simp;omega
      cases r with
      | true=>
        have HT:Hid (hopL (es.take (j+1)) x 0 ts=l++[id]):=Lib.hid (by rw [etk,hgo,Bool.or_true];rfl)
        clear etk hgo
        go_wp2_with (first
         |(go_at_call 55;(with_reducible refine HI.out.mono ?_);rintro e w4 ⟨ri,rfl,hi1,hi2,rfl⟩;have hri:=hi1 rfl;have hrd:decide (0≤ri)=true:=decide_eq_true hri)
         |(at_builtin;refine wpList_append_own_at _ rfl _ _ 42 rfl W0.heap.size 2 i0 (.int .i64 0) 1 8 Tryz.underlying42 hi hz0 hz1 hz2 rfl (by decide) _ _ _ rfl (ho.alloc _) ⟨wX.heap.size,0,none⟩ 1 1 [.int .i64 id] rfl rfl (zbc wX [.int .i64 id] 2) (by simp [Value.oneCell']) ?_ ?_ ?_ ?_))
        all_goals (try (first |(unfold maxLen;omega) | omega |(have:=hb.size;omega) |(simp;have:=hb.size;omega)))
        intro v' w5 ho5 hg5 _ hloc5
        have hb5:Below W0.heap.size W0 w5:=(hb.alloc hb.size _).grown hg5 (by have:=hb.size;simp;omega) (fun j e=>(ho.lt j e).1)
        have HB:=Lib.hid (show w5.ownsRow W0.heap.size 2 1 v' (l++[id]).length ((l++[id]).map (Value.int .i64)) by rw [List.length_append,List.map_append];exact ho5)
        clear ho5 hg5 hloc5 ho hb
        go_wp2_with fail
        go_roundg (gk - 1)
        case measure=>omega
        case rel=>exact ⟨j+1,by omega,by go_num,Lib.hid (by rw [HT.out];exact ⟨HB.out,hb5⟩)⟩
      | false=>
        have HT:Hid (hopL (es.take (j+1)) x 0 ts=l):=Lib.hid (by rw [etk,hgo,decide_eq_false hm0,if_neg (by decide),List.append_nil])
        clear etk hgo
        go_wp2_with (first
         |(go_at_call 55;(with_reducible refine HI.out.mono ?_);rintro e w4 ⟨ri,rfl,hi1,hi2,rfl⟩;have hri:=hi2 rfl;have hrd:decide (0≤ri)=false:=decide_eq_false (by omega)))
        go_roundg (gk - 1)
        case measure=>omega
        case rel=>exact ⟨j+1,by omega,by go_num,Lib.hid (by rw [HT.out];exact ⟨ho,hb⟩)⟩
    ·have esrc:(src == x)=false:=by simpa using hsrc
     by_cases hdst:dst=x
     ·have edst:(dst == x)=true:=by simpa using hdst
      have hgo:ze5 ⟨id,src,dst,ty,ps⟩ x 0=true:=by unfold ze5;simp [hdst]
      by_cases hm0:m=0
      ·have HT:Hid (hopL (es.take (j+1)) x 0 ts=l++[id]):=Lib.hid (by rw [etk,hgo,decide_eq_true hm0];rfl)
       subst hm0
       clear etk hgo HI
       go_wp2_with (first
        |(at_builtin;refine wpList_append_own_at _ rfl _ _ 42 rfl W0.heap.size 2 i0 (.int .i64 0) 1 8 Tryz.underlying42 hi hz0 hz1 hz2 rfl (by decide) _ _ _ rfl (ho.alloc _) ⟨wX.heap.size,0,none⟩ 1 1 [.int .i64 id] rfl rfl (zbc wX [.int .i64 id] 2) (by simp [Value.oneCell']) ?_ ?_ ?_ ?_))
       all_goals (try (first |(unfold maxLen;omega) | omega |(have:=hb.size;omega) |(simp;have:=hb.size;omega)))
       intro v' w5 ho5 hg5 _ hloc5
       have hb5:Below W0.heap.size W0 w5:=(hb.alloc hb.size _).grown hg5 (by have:=hb.size;simp;omega) (fun j e=>(ho.lt j e).1)
       have HB:=Lib.hid (show w5.ownsRow W0.heap.size 2 1 v' (l++[id]).length ((l++[id]).map (Value.int .i64)) by rw [List.length_append,List.map_append];exact ho5)
       clear ho5 hg5 hloc5 ho hb
       go_wp2_with fail
       go_roundg (gk - 1)
       case measure=>omega
       case rel=>exact ⟨j+1,by omega,by go_num,Lib.hid (by rw [HT.out];exact ⟨HB.out,hb5⟩)⟩
      ·have hm1:((m:Int) == 0)=false:=by simp;omega
       cases r with
       | true=>
         have HT:Hid (hopL (es.take (j+1)) x 0 ts=l++[id]):=Lib.hid (by rw [etk,hgo,Bool.or_true];rfl)
         clear etk hgo
         go_wp2_with (first
          |(go_at_call 55;(with_reducible refine HI.out.mono ?_);rintro e w4 ⟨ri,rfl,hi1,hi2,rfl⟩;have hri:=hi1 rfl;have hrd:decide (0≤ri)=true:=decide_eq_true hri)
          |(at_builtin;refine wpList_append_own_at _ rfl _ _ 42 rfl W0.heap.size 2 i0 (.int .i64 0) 1 8 Tryz.underlying42 hi hz0 hz1 hz2 rfl (by decide) _ _ _ rfl (ho.alloc _) ⟨wX.heap.size,0,none⟩ 1 1 [.int .i64 id] rfl rfl (zbc wX [.int .i64 id] 2) (by simp [Value.oneCell']) ?_ ?_ ?_ ?_))
         all_goals (try (first |(unfold maxLen;omega) | omega |(have:=hb.size;omega) |(simp;have:=hb.size;omega)))
         intro v' w5 ho5 hg5 _ hloc5
         have hb5:Below W0.heap.size W0 w5:=(hb.alloc hb.size _).grown hg5 (by have:=hb.size;simp;omega) (fun j e=>(ho.lt j e).1)
         have HB:=Lib.hid (show w5.ownsRow W0.heap.size 2 1 v' (l++[id]).length ((l++[id]).map (Value.int .i64)) by rw [List.length_append,List.map_append];exact ho5)
         clear ho5 hg5 hloc5 ho hb
         go_wp2_with fail
         go_roundg (gk - 1)
         case measure=>omega
         case rel=>exact ⟨j+1,by omega,by go_num,Lib.hid (by rw [HT.out];exact ⟨HB.out,hb5⟩)⟩
       | false=>
         have HT:Hid (hopL (es.take (j+1)) x 0 ts=l):=Lib.hid (by rw [etk,hgo,decide_eq_false hm0,if_neg (by decide),List.append_nil])
         clear etk hgo
         go_wp2_with (first
          |(go_at_call 55;(with_reducible refine HI.out.mono ?_);rintro e w4 ⟨ri,rfl,hi1,hi2,rfl⟩;have hri:=hi2 rfl;have hrd:decide (0≤ri)=false:=decide_eq_false (by omega)))
         go_roundg (gk - 1)
         case measure=>omega
         case rel=>exact ⟨j+1,by omega,by go_num,Lib.hid (by rw [HT.out];exact ⟨ho,hb⟩)⟩
     ·have edst:(dst == x)=false:=by simpa using hdst
      have hgo:ze5 ⟨id,src,dst,ty,ps⟩ x 0=false:=by unfold ze5;simp [hsrc,hdst]
      have HT:Hid (hopL (es.take (j+1)) x 0 ts=l):=Lib.hid (by rw [etk,hgo,Bool.false_and,if_neg (by decide),List.append_nil])
      clear etk hgo
      go_wp2_with fail
      go_roundg (gk - 1)
      case measure=>omega
      case rel=>exact ⟨j+1,by omega,by go_num,Lib.hid (by rw [HT.out];exact ⟨ho,hb⟩)⟩
   have e1:(d == 1)=false:=by simpa using d1
   have e2:(d == -1)=false:=by simpa using d2
   have e3:(d == 0)=false:=by simpa using d3
   have hgo:ze5 ⟨id,src,dst,ty,ps⟩ x d=false:=by unfold ze5;simp [d1,d2,d3]
   have HT:Hid (hopL (es.take (j+1)) x d ts=l):=Lib.hid (by rw [etk,hgo,Bool.false_and,if_neg (by decide),List.append_nil])
   clear etk hgo
   go_wp2_with fail
   go_roundg (gk - 1)
   case measure=>omega
   case rel=>exact ⟨j+1,by omega,by go_num,Lib.hid (by rw [HT.out];exact ⟨ho,hb⟩)⟩
  ·have e:es.take j=es:=by rw [List.take_of_length_le];have:=HL.out;omega
   have hA:=HA.out
   rw [e] at hA
   have HZ:=Lib.hid (And.intro (zbr hA.1 HB0.out.size) (zab HB0.out hA.2 HB0.out.size))
   clear hA HA e
   go_wp2_with fail
   go_ret
   exact ⟨_,rfl,HZ.out⟩
end Go.Proofs.YtcfmenkigolnoaaGreatDoor
