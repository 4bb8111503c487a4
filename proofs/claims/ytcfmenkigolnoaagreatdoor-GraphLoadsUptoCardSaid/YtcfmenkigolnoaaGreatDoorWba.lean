/- Texts of one kind, one behind the other: each says ahead of itself what it shows. -/
import Derived.Test.YtcfmenkigolnoaaGreatDoorWay
import Derived.Test.YtcfmenkigolnoaaGreatDoorWaw
/- GSO -/
namespace Go.Proofs.YtcfmenkigolnoaaGreatDoor
open Go.RowKit
theorem zik {w:World} {base size n:Nat} {e:TypeId} {v:Value} {xs:List Value} (h:w.ownsRow base e size v n xs):(v=.slice none 0 0∧n=0)∨∃ g cap,v=.slice (some ⟨g,0,none⟩) n cap∧base≤g:=by
 rcases h.2 with q | ⟨g,cap,cur,q,hb,_⟩
 ·exact .inl q
 ·exact .inr ⟨g,cap,q,hb⟩
section
variable {α:Type} {O:zeb α} {D:TypeId} {w w':World} {N base top ga off i k:Nat} {gs:List α} {pl:α→α} {id:α→Int} {A:Value} {L L1 L2:List (Item α)}
def leO (id:α→Int) (x y:Item α):Bool:=leI (id x.a) (id y.a)
theorem leO_tr (id:α→Int):∀ a b c:Item α,leO id a b=true→leO id b c=true→leO id a c=true:=fun _ _ _=>zhp _ _ _
def zch (O:zeb α) (D:TypeId) (N base top ga off:Nat) (gs:List α) (pl:α→α) (id:α→Int) (i:Nat) (w:World):Prop:=
 ∃ L:List (Item α),L.length=gs.length∧zbr O w base top (some ga) L∧(gs≠[]→zbz w ga off O.E.k D N (L.map (·.c)))∧((L.take i).map (·.a)).Perm ((gs.take i).map pl)∧(L.take i).Pairwise (fun x y=>leO id x y=true)∧(L.drop i).map (·.a)=gs.drop i
theorem AccO.sorts0 (pl:α→α) (id:α→Int) (h:AccO O D base top gs A w):∃ pA kA ga off N,A=.slice pA gs.length kA∧(gs≠[]→pA=some ⟨ga,off,none⟩∧off=0∧base≤ga∧ga < top)∧zch O D N base top ga off gs pl id 0 w:=by
 obtain ⟨h1,h2,L,rfl,h4,h5⟩:=h
 rw [List.length_map] at h4
 rcases zik h4 with ⟨e,hn⟩ | ⟨g,cap,e,hg⟩
 ·have hL:L=[]:=List.length_eq_zero_iff.1 hn
  subst hL
  exact ⟨none,0,top,0,0,e,fun q=>absurd rfl q,[],rfl,⟨by simp,by simp,List.Pairwise.nil⟩,fun q=>absurd rfl q,by simp,List.Pairwise.nil,rfl⟩
 ·subst e
  refine ⟨_,cap,g,0,cap*O.E.k,by rw [List.length_map],fun _=>⟨rfl,rfl,hg,h2 g rfl⟩,L,(List.length_map _).symm,h5,fun _=>?_,by simp,by simp,rfl⟩
  exact zff h4 (fun c hc=>by
   obtain ⟨x,hx,rfl⟩:=List.mem_map.1 hc
   exact zeb.len (h5.rel x hx)) (List.length_map _) (fun c hc=>by
   obtain ⟨x,hx,rfl⟩:=List.mem_map.1 hc
   exact zeb.one (h5.rel x hx))
theorem zch.keep (h:zch O D N base top ga off gs pl id i w) (hga:gs≠[]→base≤ga∧ga < top) (hs:∀ g,base≤g→g < top→w'.heap[g]?=w.heap[g]?):zch O D N base top ga off gs pl id i w':=by
 obtain ⟨L,h1,h2,h3,h4⟩:=h
 exact ⟨L,h1,h2.keep fun g a b _=>hs g a b,fun q=>(h3 q).heap (hs ga (hga q).1 (hga q).2),h4⟩
theorem zch.done {P:Nat→Prop} {pA:Option Addr} {kA:Nat} (h:zch O D N base top ga off gs pl id gs.length w) (hk:0 < O.E.k) (hp:gs≠[]→pA=some ⟨ga,0,none⟩∧off=0∧P ga) (hP:∀ i,base≤i→i < top→P i):
 ∃ us,zak O.E w P (.slice pA gs.length kA) us∧us.Perm (gs.map pl)∧us.Pairwise (fun x y=>leI (id x) (id y)=true):=by
 obtain ⟨L,h1,h2,h3,h4,h5,_⟩:=h
 rw [List.take_of_length_le (Nat.le_of_eq h1),List.take_of_length_le (Nat.le_refl _)] at h4
 rw [List.take_of_length_le (Nat.le_of_eq h1)] at h5
 refine ⟨L.map (·.a),?_,h4,by rw [List.pairwise_map];exact h5⟩
 by_cases hn:gs=[]
 ·subst hn
  have hL:L=[]:=List.length_eq_zero_iff.1 h1
  subst hL
  exact zak.nil _ _
 ·obtain ⟨e,e0,hg⟩:=hp hn
  subst e e0
  rw [← h1]
  exact zf7 (h3 hn) rfl hk h2 hP hg
def Rdy (gs:List α) (pl:α→α) (id:α→Int) (i:Nat) (L1:List (Item α)):Prop:=
 L1.length=gs.length∧((L1.take i).map (·.a)).Perm ((gs.take i).map pl)∧(L1.take i).Pairwise (fun x y=>leO id x y=true)∧(∃ x a,L1[i]?=some x∧gs[i]?=some a∧x.a=pl a)∧(L1.drop (i+1)).map (·.a)=gs.drop (i+1)
theorem Rdy.mk {x:Item α} (h1:L.length=gs.length) (h4:((L.take i).map (·.a)).Perm ((gs.take i).map pl)) (h5:(L.take i).Pairwise (fun x y=>leO id x y=true)) (h6:(L.drop i).map (·.a)=gs.drop i) (hi:i < gs.length) (hx:x.a=pl gs[i]):Rdy gs pl id i (L.set i x):=by
 refine ⟨by rw [List.length_set];exact h1,?_,?_,⟨x,gs[i],?_,List.getElem?_eq_getElem hi,hx⟩,?_⟩
 ·rw [List.take_set_of_le (Nat.le_refl _)]
  exact h4
 ·rw [List.take_set_of_le (Nat.le_refl _)]
  exact h5
 ·rw [List.getElem?_set,if_pos rfl,if_pos (by omega)]
 ·rw [List.drop_set_of_lt (Nat.lt_succ_self _)]
  have e:∀ {β:Type} (l:List β),l.drop (i+1)=(l.drop i).drop 1:=fun l=>by rw [List.drop_drop]
  rw [e L,e gs,← h6,List.map_drop]
def InsO (id:α→Int) (L1 L2:List (Item α)) (i k:Nat):Prop:=InsG (leO id) L1 L2 i k∧L2.drop (i+1)=L1.drop (i+1)
theorem InsO.start (h:Rdy gs pl id i L1):InsO id L1 L1 i i:=by
 obtain ⟨h1,_,h3,⟨x,_,hx,_⟩,_⟩:=h
 exact ⟨InsG.start (List.getElem?_eq_some_iff.1 hx).1 (List.Perm.refl _) h3,rfl⟩
theorem InsO.step {m:Nat} {x y:Item α} (h:InsO id L1 L2 i (m+1)) (hx:L2[m+1]?=some x) (hy:L2[m]?=some y) (hlt:id x.a≤id y.a):InsO id L1 ((L2.set (m+1) y).set m x) i m:=by
 have hk:=h.1.at_
 refine ⟨h.1.step hx hy (decide_eq_true hlt),?_⟩
 rw [List.drop_set_of_lt (by omega),List.drop_set_of_lt (by omega)]
 exact h.2
theorem InsO.stop (h:InsO id L1 L2 i k) (hr:Rdy gs pl id i L1) (hk:k=0∨∃ x y,L2[k]?=some x∧L2[k - 1]?=some y∧id y.a≤id x.a) (hI:zbr O w base top (some ga) L2) (hR:gs≠[]→zbz w ga off O.E.k D N (L2.map (·.c))):zch O D N base top ga off gs pl id (i+1) w:=by
 obtain ⟨r1,r2,r3,⟨x,a,hx,ha,hxa⟩,r5⟩:=hr
 obtain ⟨hp,hs⟩:=h.1.stop (leO_tr id) (hk.imp (fun e=>e) fun ⟨x,y,q1,q2,q3⟩=>⟨x,y,q1,q2,decide_eq_true q3⟩)
 refine ⟨L2,by rw [hp.length_eq];exact r1,hI,hR,?_,hs,by rw [h.2];exact r5⟩
 have e2:(L2.take (i+1)).Perm (L1.take (i+1)):=by
  have q:(L2.take (i+1)++L2.drop (i+1)).Perm (L1.take (i+1)++L1.drop (i+1)):=by
   rw [List.take_append_drop,List.take_append_drop]
   exact hp
  rw [h.2] at q
  exact (List.perm_append_right_iff _).1 q
 refine (e2.map _).trans ?_
 obtain ⟨hi1,rfl⟩:=List.getElem?_eq_some_iff.1 hx
 obtain ⟨hi2,rfl⟩:=List.getElem?_eq_some_iff.1 ha
 rw [List.take_succ_eq_append_getElem hi1,List.take_succ_eq_append_getElem hi2,List.map_append,List.map_append,List.map_cons,List.map_cons,List.map_nil,List.map_nil,hxa]
 exact r2.append_right _
theorem znj (hi:i < L.length) (x:Item α) (hx:x.c=L[i].c):(L.set i x).map (·.c)=L.map (·.c):=by
 rw [List.map_set,hx]
 have e:(L.map (·.c))[i]'(by rw [List.length_map];exact hi)=L[i].c:=by rw [List.getElem_map]
 rw [← e,List.set_getElem_self]
end
theorem Mod.mono {P Q:Nat→Prop} {a b:World} (h:Mod P a b) (hq:∀ g,P g→Q g):Mod Q a b:=⟨h.os,h.tape,h.output,h.size,fun g hg hp=>h.block g hg (fun q=>hp (hq g q))⟩
theorem zil {α:Type} {id:α→Int} {us bs:List α} (hp:us.Perm bs) (ha:us.Pairwise (fun x y=>leI (id x) (id y)=true)) (hb:bs.Pairwise (fun x y=>leI (id x) (id y)=true)) (hd:∀ x∈bs,∀ y∈bs,id x=id y→x=y):us=bs:=
 List.Perm.eq_of_pairwise (le:=fun x y=>leI (id x) (id y)=true) (fun a b ma mb h1 h2=>hd a (hp.mem_iff.1 ma) b mb (zow _ _ h1 h2)) ha hb hp
theorem zim {α:Type} {id:α→Int} {f:Int→α} {I:List Int} (hf:∀ i∈I,id (f i)=i) (hs:I.Pairwise (fun x y=>leI x y=true)):(I.map f).Pairwise (fun x y=>leI (id x) (id y)=true):=by
 rw [List.pairwise_map]
 exact hs.imp_of_mem fun ma mb h=>by rw [hf _ ma,hf _ mb];exact h
theorem zok {g:zau} (hg:zel g) {us:List zap} (hp:us.Perm (g.nodes.map zcr)) (hs:us.Pairwise (fun x y=>leI x.id y.id=true)):us=(za3 g).nodes:=by
 have e:(g.nodes.map zap.id).map (zh1 g)=g.nodes.map zcr:=by
  rw [List.map_map]
  exact List.map_congr_left fun a ha=>zfu hg.dn ha
 refine zil (id:=zap.id) (hp.trans ?_) hs (zim (fun i hi=>zih hg i hi) (List.pairwise_mergeSort zhp zix _)) fun x hx y hy h=>?_
 ·rw [← e]
  exact ((List.mergeSort_perm _ leI).map _).symm
 ·obtain ⟨i,hi,rfl⟩:=List.mem_map.1 hx
  obtain ⟨j,hj,rfl⟩:=List.mem_map.1 hy
  rw [zih hg i hi,zih hg j hj] at h
  rw [h]
theorem zol {g:zau} (hg:zel g) {us:List zat} (hp:us.Perm (g.edges.map zc2)) (hs:us.Pairwise (fun x y=>leI x.id y.id=true)):us=(za3 g).edges:=by
 have e:(g.edges.map zat.id).map (zh2 g)=g.edges.map zc2:=by
  rw [List.map_map]
  exact List.map_congr_left fun a ha=>zfv hg.de ha
 refine zil (id:=zat.id) (hp.trans ?_) hs (zim (fun i hi=>zii hg i hi) (List.pairwise_mergeSort zhp zix _)) fun x hx y hy h=>?_
 ·rw [← e]
  exact ((List.mergeSort_perm _ leI).map _).symm
 ·obtain ⟨i,hi,rfl⟩:=List.mem_map.1 hx
  obtain ⟨j,hj,rfl⟩:=List.mem_map.1 hy
  rw [zii hg i hi,zii hg j hj] at h
  rw [h]
theorem zom {w:World} {base top ga i:Nat} {L:List (Item zap)} {n:Int} {ls:List ByteArray} {ps:List zax} {lv pv:Value} (I:zbr zbw w base top (some ga) L) (hi:i < L.length) (hc:L[i].c=[.int .i64 n,lv,pv]) (ha:L[i].a=⟨n,ls,ps⟩) (ht:top≤w.heap.size):
 Calls Tryz.prog 43 #[lv] w fun e w'=>e=.returned (.tuple #[])∧zbr zbw w' base top (some ga) (L.set i ⟨[.int .i64 n,lv,pv],⟨n,sortS ls,ps⟩,L[i].lo,L[i].hi⟩)∧Mod (fun g=>Btw base top g∧g≠ga) w w':=by
 have h:zdb w L[i].lo L[i].hi L[i].c L[i].a:=I.rel _ (List.getElem_mem hi)
 obtain ⟨b1,b2,b3,b4⟩:=I.bnd _ (List.getElem_mem hi)
 rw [hc,ha] at h
 have hb:∀ g,lv.ownBlock=some g→Btw L[i].lo L[i].hi g:=by
  obtain ⟨lv',pv',e,_,h2,_⟩:=h
  injection e with _ e
  injection e with e1 _
  subst e1
  exact fun g e=>⟨(h2.2.2.2.lt g e).1,h2.2.2.1 g e⟩
 refine (h.sortLabels (by omega)).mono ?_
 rintro e w' ⟨rfl,hn,hg⟩
 refine ⟨rfl,I.set i hi _ _ (fun g _ q3 _ q5=>hg.block g (by omega) (fun e=>q5 (hb g e.symm))) hn,Mod.grown hg fun g e=>?_⟩
 have q:=hb g e
 exact ⟨⟨Nat.le_trans b1 q.1,Nat.lt_of_lt_of_le q.2 b3⟩,fun e2=>b4 ga rfl (by rw [← e2];exact q)⟩
theorem zqp {w:World} {base top ga i:Nat} {L:List (Item zap)} {n:Int} {ls:List ByteArray} {ps:List zax} {lv pv:Value} (I:zbr zbw w base top (some ga) L) (hi:i < L.length) (hc:L[i].c=[.int .i64 n,lv,pv]) (ha:L[i].a=⟨n,ls,ps⟩) (ht:top≤w.heap.size) (hd:(ps.map fun p=>bl p.key).Nodup):
 Calls Tryz.prog 44 #[pv] w fun e w'=>e=.returned (.tuple #[])∧zbr zbw w' base top (some ga) (L.set i ⟨[.int .i64 n,lv,pv],⟨n,ls,zmo ps⟩,L[i].lo,L[i].hi⟩)∧Mod (fun g=>Btw base top g∧g≠ga) w w':=by
 have h:zdb w L[i].lo L[i].hi L[i].c L[i].a:=I.rel _ (List.getElem_mem hi)
 obtain ⟨b1,b2,b3,b4⟩:=I.bnd _ (List.getElem_mem hi)
 rw [hc,ha] at h
 have hb:∀ g,pv.ownBlock=some g→Btw L[i].lo L[i].hi g:=by
  obtain ⟨lv',pv',e,_,_,⟨_,h3,xs,h4,_⟩,_⟩:=h
  injection e with _ e
  injection e with e1 e
  injection e with e2 _
  subst e1 e2
  exact fun g e=>⟨(h4.lt g e).1,h3 g e⟩
 refine (h.sortProps (by omega)).mono ?_
 rintro e w' ⟨rfl,⟨ps',hp,hn⟩,hg⟩
 rw [hp.eq hd] at hn
 refine ⟨rfl,I.set i hi _ _ (fun g _ q3 _ q5=>hg.block g (by omega) (fun e=>q5 (hb g e.symm))) hn,Mod.grown hg fun g e=>?_⟩
 have q:=hb g e
 exact ⟨⟨Nat.le_trans b1 q.1,Nat.lt_of_lt_of_le q.2 b3⟩,fun e2=>b4 ga rfl (by rw [← e2];exact q)⟩
theorem zon {w:World} {base top ga i lo hi:Nat} {L:List (Item zap)} {n:Int} {ls:List ByteArray} {ps:List zax} {lv pv:Value} (I:zbr zbw w base top (some ga) (L.set i ⟨[.int .i64 n,lv,pv],⟨n,ls,ps⟩,lo,hi⟩)) (hiL:i < L.length) (ht:top≤w.heap.size) (hd:(ps.map fun p=>bl p.key).Nodup):
 Calls Tryz.prog 44 #[pv] w fun e w'=>e=.returned (.tuple #[])∧zbr zbw w' base top (some ga) (L.set i ⟨[.int .i64 n,lv,pv],⟨n,ls,zmo ps⟩,lo,hi⟩)∧Mod (fun g=>Btw base top g∧g≠ga) w w':=by
 have h:=zqp I (by rw [List.length_set];exact hiL) (by rw [List.getElem_set_self]) (by rw [List.getElem_set_self]) ht hd
 simpa only [List.getElem_set_self,List.set_set] using h
theorem zqq {w:World} {base top ga i:Nat} {L:List (Item zat)} {n src dst:Int} {ty:ByteArray} {ps:List zax} {pv:Value} (I:zbr zdy w base top (some ga) L) (hi:i < L.length) (hc:L[i].c=[.int .i64 n,.int .i64 src,.int .i64 dst,.string ty,pv]) (ha:L[i].a=⟨n,src,dst,ty,ps⟩) (ht:top≤w.heap.size) (hd:(ps.map fun p=>bl p.key).Nodup):
 Calls Tryz.prog 44 #[pv] w fun e w'=>e=.returned (.tuple #[])∧zbr zdy w' base top (some ga) (L.set i ⟨[.int .i64 n,.int .i64 src,.int .i64 dst,.string ty,pv],⟨n,src,dst,ty,zmo ps⟩,L[i].lo,L[i].hi⟩)∧Mod (fun g=>Btw base top g∧g≠ga) w w':=by
 have h:zfe w L[i].lo L[i].hi L[i].c L[i].a:=I.rel _ (List.getElem_mem hi)
 obtain ⟨b1,b2,b3,b4⟩:=I.bnd _ (List.getElem_mem hi)
 rw [hc,ha] at h
 have hb:∀ g,pv.ownBlock=some g→Btw L[i].lo L[i].hi g:=by
  obtain ⟨pv',e,_,_,⟨_,h3,xs,h4,_⟩⟩:=h
  have e2:pv=pv':=by simpa using e
  subst e2
  exact fun g e=>⟨(h4.lt g e).1,h3 g e⟩
 refine (h.sortProps (by omega)).mono ?_
 rintro e w' ⟨rfl,⟨ps',hp,hn⟩,hg⟩
 rw [hp.eq hd] at hn
 refine ⟨rfl,I.set i hi _ _ (fun g _ q3 _ q5=>hg.block g (by omega) (fun e=>q5 (hb g e.symm))) hn,Mod.grown hg fun g e=>?_⟩
 have q:=hb g e
 exact ⟨⟨Nat.le_trans b1 q.1,Nat.lt_of_lt_of_le q.2 b3⟩,fun e2=>b4 ga rfl (by rw [← e2];exact q)⟩
end Go.Proofs.YtcfmenkigolnoaaGreatDoor
