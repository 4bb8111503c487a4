/- Texts of one kind, one behind the other: each says ahead of itself what it shows. -/
import Derived.Test.YtcfmenkigolnoaaGreatDoorWah
import Derived.Test.YtcfmenkigolnoaaGreatDoorWag
import Derived.Shelf.Small.Strs
import Derived.Shelf.SlSortCmp.NoneTotal
/- GP -/
namespace Go.Proofs.YtcfmenkigolnoaaGreatDoor
open Go.RowKit
def zgv (n:Nat) (w:World):Nat→Prop:=fun g=>n+1 < g∧g < w.heap.size
section
variable {α:Type} {E:Elem α} {w w':World} {n i:Nat} {V v:Value} {l:List α}
theorem zbv (w:World) (n i:Nat) (v:Value):zc9 (zgv n w) (zgv n (w.setCell ⟨n,i,none⟩ v)) w (w.setCell ⟨n,i,none⟩ v):=fun g hg=>⟨⟨hg.1,by simpa using hg.2⟩,Below.heap_setCell _ _ _ _ (by show g≠n;have:=hg.1;omega)⟩
theorem zga (b:Below w.heap.size w w'):zc9 (zgv n w) (zgv n w') w w':=fun g hg=>⟨⟨hg.1,Nat.lt_of_lt_of_le hg.2 b.size⟩,b.block g hg.2⟩
theorem zcm {e:Nat} (b:Only e w w') (he:e≤n+1):zc9 (zgv n w) (zgv n w') w w':=fun g hg=>⟨⟨hg.1,Nat.lt_of_lt_of_le hg.2 b.size⟩,b.block g hg.2 (by have:=hg.1;omega)⟩
theorem zsl (h:n+1 < w.heap.size):zc9 (New w w') (zgv n w') w' w':=fun g hg=>⟨⟨by have:=hg.1;omega,hg.2⟩,rfl⟩
theorem zsm {W:World}:zc9 (zgv W.heap.size w) (New W w) w w:=fun g hg=>⟨⟨by have:=hg.1;omega,hg.2⟩,rfl⟩
end
theorem zsn (x:ByteArray) (W:World) (c:List Value) (h:zbq.rel W (Old W) c x):Calls Tryz.prog 86 #[.string x] W (zb6 zbq x W):=by
 refine (zhu x W (by have:=h.2;omega)).mono ?_
 rintro e w' ⟨rfl,hb⟩
 exact ⟨_,[.string x],rfl,rfl,⟨rfl,h.2⟩,hb⟩
theorem zvc (l:List ByteArray) (L:Value) (W:World) (hl:zak zbq W (Old W) L l) (hn:l.length≤2097152):Calls Tryz.prog 85 #[L,.func (.func 86) #[] #[]] W (za9 zbq 9 W l):=by
 have h:=map85 id l L W hl hn fun x hx W' c _ hr=>zsn x W' c hr
 rwa [List.map_id] at h
theorem zb4 {w:World} {g:Nat} {cs:Array Value} {t:TypeId} (h:w.heap[g]?=some (.cells cs t (0,0))) (o:Nat) (l:List Value) (hl:(cs.toList.drop o).take l.length=l):w.rangeAt g o l:=by
 intro j u hu
 have hj:j < l.length:=(List.getElem?_eq_some_iff.1 hu).1
 refine zac h (o+j) ?_
 rw [← hl,List.getElem?_take_of_lt hj,List.getElem?_drop,Array.getElem?_toList] at hu
 exact hu
set_option maxHeartbeats 6400000 in
set_option maxRecDepth 20000 in
theorem znw (key:ByteArray) (k:Int) (b:Bool) (n:Int) (t x:ByteArray) (q:List Val) (p:Option Addr) (cap:Nat) (w:World) (hk:key.size≤2097152) (hf:Fine n t x q.length) (hl:zay w (Old w) (.slice p q.length cap) q):
 Calls Tryz.prog 88 #[.agg #[.string key,.int .i64 k,.bool b,.int .i64 n,.string t,.string x,.slice p q.length cap]] w fun e w'=>∃ V,e=.returned (.agg #[.string key,.int .i64 k,.bool b,.int .i64 n,.string t,.string x,V])∧zay w' (New w w') V q∧Below w.heap.size w w':=by
 obtain ⟨w1,hw1⟩:∃ w1,w1=(w.alloc (.cells #[.string key,.int .i64 k,.bool b,.int .i64 n,.string t,.string x,.slice p q.length cap] 70)).alloc (.cells #[.string ⟨#[]⟩,.int .i64 0,.bool false,.int .i64 0,.string ⟨#[]⟩,.string ⟨#[]⟩,.slice none 0 0] 70):=⟨_,rfl⟩
 have u1:w1.heap[w.heap.size]?=some (.cells #[.string key,.int .i64 k,.bool b,.int .i64 n,.string t,.string x,.slice p q.length cap] 70 (0,0)):=by rw [hw1];exact zar _ (zae _ _ rfl)
 have u2:w1.heap[w.heap.size+1]?=some (.cells #[.string ⟨#[]⟩,.int .i64 0,.bool false,.int .i64 0,.string ⟨#[]⟩,.string ⟨#[]⟩,.slice none 0 0] 70 (0,0)):=by rw [hw1];exact zae _ _ (by simp)
 have bw:Below w.heap.size w w1:=by rw [hw1];exact zbk _ _ _
 have HCL:=Lib.hid (fun W=>zhu key W (by omega))
 have HOV:Hid (∀ W,Below w.heap.size w W→Calls Tryz.prog 59 #[.agg #[.int .i64 k,.bool b,.int .i64 n,.string t,.string x,.slice p q.length cap]] W fun e w'=>∃ V,e=.returned (.agg #[.int .i64 k,.bool b,.int .i64 n,.string t,.string x,V])∧zay w' (New W w') V q∧Below W.heap.size W w'):=
  Lib.hid fun W hb=>zsk k b n t x q p cap W hf (zay.stays (zad hb) q hl) (znv q)
 have HW:=Lib.hid hw1
 clear hw1 hf hl hk
 go_enter Tryz.func88,Tryz.ntmps88
 go_upto_region 1 with fail
 rw [← HW.out]
 refine wp_region_held_drew (S:=fun W=>W.heap[w.heap.size]?=some (.cells #[.string key,.int .i64 k,.bool b,.int .i64 n,.string t,.string x,.slice p q.length cap] 70 (0,0))) (by kernel_rfl) u1 (fun _=>?_)
 replace bw:=bw.drew
 replace u1:w1.drew.heap[w.heap.size]?=_:=u1
 replace u2:w1.drew.heap[w.heap.size+1]?=_:=u2
 refine tg (i:=0) (.pointer (some ⟨w.heap.size,0,none⟩)) rfl (u1) ?_
 refine tg (i:=3) (.pointer (some ⟨w.heap.size,1,none⟩)) rfl (u1) ?_
 refine tk (i:=1) (v:=.string key) rfl (Or.inl ⟨by rfl,fun W h=>by have c0:=zac h 0 rfl;go_simp⟩) (u1) ?_
 refine tk (i:=4) (v:=.agg #[.int .i64 k,.bool b,.int .i64 n,.string t,.string x,.slice p q.length cap]) rfl (yieldsIf_load_mid (by rfl) 60 (.tmp 6) rfl w.heap.size 1 rfl [.int .i64 k,.bool b,.int .i64 n,.string t,.string x,.slice p q.length cap] _ (fun W h=>zb4 h 1 _ rfl) Tryz.underlying60 rfl zcg) (u1) ?_
 refine tr 2 rfl (fun K hK=>?_)
 rw [if_pos (by rfl)]
 go_simp
 refine (HCL.out _).mono ?_
 rintro e0 w3 ⟨rfl,hb3⟩
 replace u1:=(hb3.block _ (zaa u1)).trans u1
 replace u2:=(hb3.block _ (zaa u2)).trans u2
 replace bw:=zab bw hb3 bw.size
 clear hb3
 refine hK.out _ _ (u1) (fun _=>?_)
 clear hK K
 try simp only [putS]
 refine tr 5 rfl (fun K hK=>?_)
 rw [if_pos (by rfl)]
 go_simp
 refine (HOV.out _ bw).mono ?_
 rintro e0 w3 ⟨V,rfl,hV,hb3⟩
 have HV:=Lib.hid (zay.stays (zsl (n:=w.heap.size) (zaa u2)) q hV)
 obtain ⟨pv,cv,rfl⟩:=za5 (zay.held q hV)
 replace u1:=(hb3.block _ (zaa u1)).trans u1
 replace u2:=(hb3.block _ (zaa u2)).trans u2
 replace bw:=zab bw hb3 bw.size
 clear hb3 hV
 refine hK.out _ _ (u1) (fun _=>?_)
 clear hK K
 try simp only [putS]
 refine tg (i:=6) (.agg #[.string key,.int .i64 k,.bool b,.int .i64 n,.string t,.string x,.slice pv q.length cv]) rfl (u1) ?_
 refine tr 7 rfl (fun K hK=>?_)
 rw [if_pos (by rfl)]
 refine wp_store_row 70 (.tmp 2) (.tmp 9) rfl (w.heap.size+1) #[.string key,.int .i64 k,.bool b,.int .i64 n,.string t,.string x,.slice pv q.length cv] rfl rfl 70 _ u2 zbb rfl (by simp [Value.oneCell']) ?_
 have u5:=zc7 (c':=#[.string key,.int .i64 k,.bool b,.int .i64 n,.string t,.string x,.slice pv q.length cv]) u2
 have on:=Only.setRow (b:=w.heap.size+1) w3 #[.string key,.int .i64 k,.bool b,.int .i64 n,.string t,.string x,.slice pv q.length cv]
 replace HV:=Lib.hid (zay.stays (zcm on (Nat.le_refl _)) q HV.out)
 replace u1:=(on.block w.heap.size (zaa u1) (by omega)).trans u1
 replace bw:=zag bw on (Nat.le_succ _) bw.size
 refine hK.out _ _ (u1) (fun _=>?_)
 clear hK K
 try simp only [putS]
 refine wpAnyH_done (by kernel_rfl) ?_ _
 go_wp2_with fail
 exact bodyPost_ret (results_cell_row (p:=2) (ty:=70) Tryz.results88 _ _ (w.heap.size+1) 70 _ (0,0) _ rfl u5 Tryz.underlying70 rfl zbb) rfl ⟨_,rfl,zay.stays zsm q HV.out,bw⟩
theorem zso (a:zax) (W:World) (c:List Value) (h:za0.rel W (Old W) c a):Calls Tryz.prog 88 #[.agg c.toArray] W (zb6 za0 a W):=by
 obtain ⟨key,⟨k,b,n,t,x,q⟩⟩:=a
 obtain ⟨c,rfl,hk,⟨L,rfl,hf,hq⟩⟩:=h
 obtain ⟨p,cap,rfl⟩:=za5 (zay.held q hq)
 refine (znw key k b n t x q p cap W hk hf hq).mono ?_
 rintro e w' ⟨V,rfl,hV,hb⟩
 exact ⟨_,[.string key,.int .i64 k,.bool b,.int .i64 n,.string t,.string x,V],rfl,rfl,⟨_,rfl,hk,⟨V,rfl,hf,hV⟩⟩,hb⟩
theorem zo1 (l:List zax) (L:Value) (W:World) (hl:zak za0 W (Old W) L l) (hn:l.length≤2097152):Calls Tryz.prog 87 #[L,.func (.func 88) #[] #[]] W (za9 za0 70 W l):=by
 have h:=map87 id l L W hl hn fun x hx W' c _ hr=>zso x W' c hr
 rwa [List.map_id] at h
theorem zaw {w w':World} {base size n:Nat} {e:TypeId} {v:Value} {xs:List Value} (h:w.ownsRow base e size v n xs) (k:∀ g,v.ownBlock=some g→w'.heap[g]?=w.heap[g]?):w'.ownsRow base e size v n xs:=by
 obtain ⟨h0,h⟩:=h
 refine ⟨h0,?_⟩
 rcases h with h | ⟨g,cap,cur,rfl,h1,h2,h3⟩
 ·exact .inl h
 ·exact .inr ⟨g,cap,cur,rfl,h1,(k g rfl).trans h2,h3⟩
theorem zcd {w:World} {base base' size n:Nat} {e:TypeId} {v:Value} {xs:List Value} (h:w.ownsRow base e size v n xs) (k:base'≤base):w.ownsRow base' e size v n xs:=by
 obtain ⟨h0,h⟩:=h
 refine ⟨h0,?_⟩
 rcases h with h | ⟨g,cap,cur,rfl,h1,h2⟩
 ·exact .inl h
 ·exact .inr ⟨g,cap,cur,rfl,Nat.le_trans k h1,h2⟩
theorem zmf {w:World} {P:Nat→Prop}:{xs:List Value}→(l:List ByteArray)→RowE zbq w P xs l→xs=l.map Value.string∧∀ t∈l,t.size≤2097152
 | _,[],h=>by unfold RowE at h;exact ⟨h,by simp⟩
 | _,t::l,h=>by
   unfold RowE at h
   obtain ⟨c,ys,rfl,⟨rfl,ht⟩,hr⟩:=h
   obtain ⟨rfl,h2⟩:=zmf l hr
   refine ⟨rfl,fun u hu=>?_⟩
   rcases List.mem_cons.1 hu with rfl | hu
   ·exact ht
   ·exact h2 u hu
def OwnT (n:Nat) (W:World) (V:Value) (ls:List ByteArray):Prop:=W.ownsRow (n+2) 9 1 V ls.length (ls.map Value.string)∧∀ t∈ls,t.size≤2097152
def OwnP (n:Nat) (V:Value) (W:World) (U:Value) (ps:List zax):Prop:=
 ∃ lo xs,n+2≤lo∧(∀ g,V.ownBlock=some g→g < lo)∧W.ownsRow lo 70 7 U ps.length xs∧RowE za0 W (fun g=>lo≤g∧g < W.heap.size∧U.ownBlock≠some g) xs ps
theorem OwnT.stays {n:Nat} {w w':World} {V:Value} {ls:List ByteArray} (h:OwnT n w V ls) (s:zc9 (zgv n w) (zgv n w') w w'):OwnT n w' V ls:=
 ⟨zaw h.1 fun g e=>(s g ⟨by have:=(h.1.lt g e).1;omega,(h.1.lt g e).2⟩).2,h.2⟩
theorem OwnP.stays {n:Nat} {w w':World} {V U:Value} {ps:List zax} (h:OwnP n V w U ps) (s:zc9 (zgv n w) (zgv n w') w w'):OwnP n V w' U ps:=by
 obtain ⟨lo,xs,h1,h2,h3,h4⟩:=h
 refine ⟨lo,xs,h1,h2,zaw h3 fun g e=>(s g ⟨by have:=(h3.lt g e).1;omega,(h3.lt g e).2⟩).2,h4.stays (fun g hg=>?_)⟩
 have:=s g ⟨by have:=hg.1;omega,hg.2.1⟩
 exact ⟨⟨hg.1,this.1.2,hg.2.2⟩,this.2⟩
theorem OwnT.mk {n:Nat} {w w':World} {V:Value} {ls:List ByteArray} {xs:List Value} (h:n+1 < w.heap.size) (o:w'.ownsRow w.heap.size 9 zbq.k V ls.length xs) (r:RowE zbq w' (Inn w V w') xs ls):OwnT n w' V ls:=by
 obtain ⟨rfl,h2⟩:=zmf ls r
 exact ⟨zcd o (by omega),h2⟩
theorem OwnP.mk {n:Nat} {w w':World} {V U:Value} {ps:List zax} {xs:List Value} (h:n+1 < w.heap.size) (hV:∀ g,V.ownBlock=some g→g < w.heap.size) (o:w'.ownsRow w.heap.size 70 za0.k U ps.length xs) (r:RowE za0 w' (Inn w U w') xs ps):OwnP n V w' U ps:=
 ⟨w.heap.size,xs,by omega,hV,o,r⟩
theorem OwnT.lt {n:Nat} {w:World} {V:Value} {ls:List ByteArray} (h:OwnT n w V ls) (g:Nat) (e:V.ownBlock=some g):g < w.heap.size:=(h.1.lt g e).2
theorem OwnT.slice {n:Nat} {W w:World} {V:Value} {ls:List ByteArray} (h:OwnT n w V ls) (hn:W.heap.size≤n):zak zbq w (New W w) V ls:=by
 have hr:∀ l:List ByteArray,(∀ t∈l,t.size≤2097152)→RowE zbq w (New W w) (l.map Value.string) l:=by
  intro l
  induction l with
  | nil=>exact fun _=>RowE.nil
  | cons t l ih=>exact fun h=>RowE.append [t] l (RowE.single (E:=zbq) (c:=[.string t]) ⟨rfl,h t (by simp)⟩) (ih fun u hu=>h u (by simp [hu]))
 exact zbm h.1 (hr ls h.2) (fun g hg=>hg) (fun g e=>⟨by have:=(h.1.lt g e).1;omega,(h.1.lt g e).2⟩)
theorem OwnP.slice {n:Nat} {W w:World} {V U:Value} {ps:List zax} (h:OwnP n V w U ps) (hn:W.heap.size≤n):zak za0 w (New W w) U ps:=by
 obtain ⟨lo,xs,h1,h2,h3,h4⟩:=h
 exact zbm h3 h4 (fun g hg=>⟨by have:=hg.1;omega,hg.2.1⟩) (fun g e=>⟨by have:=(h3.lt g e).1;omega,(h3.lt g e).2⟩)
set_option maxHeartbeats 6400000 in
set_option maxRecDepth 20000 in
theorem ze8 (id:Int) (ls:List ByteArray) (ps:List zax) (p1 p2:Option Addr) (c1 c2:Nat) (w:World) (hn1:ls.length≤2097152) (hn2:ps.length≤2097152) (hl:zak zbq w (Old w) (.slice p1 ls.length c1) ls) (hp:zak za0 w (Old w) (.slice p2 ps.length c2) ps):
 Calls Tryz.prog 47 #[.agg #[.int .i64 id,.slice p1 ls.length c1,.slice p2 ps.length c2]] w fun e w'=>∃ V U,e=.returned (.agg #[.int .i64 id,V,U])∧OwnT w.heap.size w' V ls∧OwnP w.heap.size V w' U ps∧Below w.heap.size w w':=by
 obtain ⟨w1,hw1⟩:∃ w1,w1=(w.alloc (.cells #[.int .i64 id,.slice p1 ls.length c1,.slice p2 ps.length c2] 38)).alloc (.cells #[.int .i64 0,.slice none 0 0,.slice none 0 0] 38):=⟨_,rfl⟩
 have u1:w1.heap[w.heap.size]?=some (.cells #[.int .i64 id,.slice p1 ls.length c1,.slice p2 ps.length c2] 38 (0,0)):=by rw [hw1];exact zar _ (zae _ _ rfl)
 have u2:w1.heap[w.heap.size+1]?=some (.cells #[.int .i64 0,.slice none 0 0,.slice none 0 0] 38 (0,0)):=by rw [hw1];exact zae _ _ (by simp)
 have bw:Below w.heap.size w w1:=by rw [hw1];exact zbk _ _ _
 have HLT:Hid (∀ W,Below w.heap.size w W→Calls Tryz.prog 85 #[.slice p1 ls.length c1,.func (.func 86) #[] #[]] W (za9 zbq 9 W ls)):=Lib.hid fun W hb=>zvc ls _ W (hl.stays (zad hb)) hn1
 have HLP:Hid (∀ W,Below w.heap.size w W→Calls Tryz.prog 87 #[.slice p2 ps.length c2,.func (.func 88) #[] #[]] W (za9 za0 70 W ps)):=Lib.hid fun W hb=>zo1 ps _ W (hp.stays (zad hb)) hn2
 clear hl hp
 have HW:=Lib.hid hw1
 clear hw1
 go_enter Tryz.func47,Tryz.ntmps47
 go_upto_region 1 with fail
 rw [← HW.out]
 refine wp_region_held_drew (S:=fun W=>∃ A B,W.heap[w.heap.size]?=some (.cells #[.int .i64 id,A,B] 38 (0,0))) (by kernel_rfl) ⟨_,_,u1⟩ (fun _=>?_)
 replace bw:=bw.drew
 replace u1:w1.drew.heap[w.heap.size]?=_:=u1
 replace u2:w1.drew.heap[w.heap.size+1]?=_:=u2
 refine tg (i:=0) (.pointer (some ⟨w.heap.size,1,none⟩)) rfl (⟨_,_,u1⟩) ?_
 refine tg (i:=3) (.pointer (some ⟨w.heap.size,2,none⟩)) rfl (⟨_,_,u1⟩) ?_
 refine wpAnyH_ready (rs:=[1,4]) (by kernel_rfl) (by simp) ?_
 refine AllReadyH.cons rfl (fun K hK=>?_) (AllReadyH.cons rfl (fun K hK=>?_) AllReadyH.nil)
 ·rw [if_pos (by rfl)]
  have c0:=zac u1 1 rfl
  go_simp
  refine hK.out _ _ (⟨_,_,u1⟩) (fun _=>?_)
  clear hK K
  try simp only [putS]
  refine wpAnyH_ready (rs:=[2,4]) (by kernel_rfl) (by simp) ?_
  refine AllReadyH.cons rfl (fun K hK=>?_) (AllReadyH.cons rfl (fun K hK=>?_) AllReadyH.nil)
  ·rw [if_pos (by rfl)]
   go_simp
   refine (HLT.out _ bw).mono ?_
   rintro e0 w3 ⟨V,xs,rfl,hown,hrow,hb3⟩
   have HV:=Lib.hid (OwnT.mk (n:=w.heap.size) (zaa u2) hown hrow)
   obtain ⟨pV,cV,rfl⟩:=(za9.slice hown hrow).slice
   replace u1:=(hb3.block _ (zaa u1)).trans u1
   replace u2:=(hb3.block _ (zaa u2)).trans u2
   replace bw:=zab bw hb3 bw.size
   clear hb3 hown hrow
   refine hK.out _ _ (⟨_,_,u1⟩) (fun _=>?_)
   clear hK K
   try simp only [putS]
   refine tr 4 rfl (fun K hK=>?_)
   rw [if_pos (by rfl)]
   have c0:=zac u1 2 rfl
   go_simp
   refine hK.out _ _ (⟨_,_,u1⟩) (fun _=>?_)
   clear hK K
   try simp only [putS]
   refine tg (i:=6) (.pointer (some ⟨w.heap.size,1,none⟩)) rfl (⟨_,_,u1⟩) ?_
   refine tr 5 rfl (fun K hK=>?_)
   rw [if_pos (by rfl)]
   go_simp
   refine (HLP.out _ bw).mono ?_
   rintro e0 w3 ⟨U,xs,rfl,hown,hrow,hb3⟩
   have HU:=Lib.hid (OwnP.mk (n:=w.heap.size) (V:=.slice pV ls.length cV) (zaa u2) HV.out.lt hown hrow)
   replace HV:=Lib.hid (HV.out.stays (zga hb3))
   obtain ⟨pU,cU,rfl⟩:=(za9.slice hown hrow).slice
   replace u1:=(hb3.block _ (zaa u1)).trans u1
   replace u2:=(hb3.block _ (zaa u2)).trans u2
   replace bw:=zab bw hb3 bw.size
   clear hb3 hown hrow
   refine hK.out _ _ (⟨_,_,u1⟩) (fun _=>?_)
   clear hK K
   try simp only [putS]
   refine tr 7 rfl (fun K hK=>?_)
   have c0:=zac u1 1 rfl
   have f0:=zbj u1 1
   go_simp
   replace HV:=Lib.hid (HV.out.stays (zbv _ w.heap.size 1 (.slice pV ls.length cV)))
   replace HU:=Lib.hid (HU.out.stays (zbv _ w.heap.size 1 (.slice pV ls.length cV)))
   replace bw:=zam (e:=w.heap.size) (o:=1) bw none (.slice pV ls.length cV) (Nat.le_refl _) bw.size
   replace u2:=((Only.refl w.heap.size _).setCell 1 none (.slice pV ls.length cV)).block (w.heap.size+1) (zaa u2) (by omega) |>.trans u2
   replace u1:=za6 u1 1 (.slice pV ls.length cV)
   simp only [List.setIfInBounds_toArray,List.set_cons_zero,List.set_cons_succ] at u1
   clear c0 f0
   refine hK.out _ _ (⟨_,_,u1⟩) (fun _=>?_)
   clear hK K
   try simp only [putS]
   refine tg (i:=8) (.pointer (some ⟨w.heap.size,2,none⟩)) rfl (⟨_,_,u1⟩) ?_
   refine tr 9 rfl (fun K hK=>?_)
   have c0:=zac u1 2 rfl
   have f0:=zbj u1 2
   go_simp
   replace HV:=Lib.hid (HV.out.stays (zbv _ w.heap.size 2 (.slice pU ps.length cU)))
   replace HU:=Lib.hid (HU.out.stays (zbv _ w.heap.size 2 (.slice pU ps.length cU)))
   replace bw:=zam (e:=w.heap.size) (o:=2) bw none (.slice pU ps.length cU) (Nat.le_refl _) bw.size
   replace u2:=((Only.refl w.heap.size _).setCell 2 none (.slice pU ps.length cU)).block (w.heap.size+1) (zaa u2) (by omega) |>.trans u2
   replace u1:=za6 u1 2 (.slice pU ps.length cU)
   simp only [List.setIfInBounds_toArray,List.set_cons_zero,List.set_cons_succ] at u1
   clear c0 f0
   refine hK.out _ _ (⟨_,_,u1⟩) (fun _=>?_)
   clear hK K
   try simp only [putS]
   refine wpAnyH_done (by kernel_rfl) ?_ _
   go_wp2_with (first
    |((with_reducible refine zaf (.tmp 1) w.heap.size 38 38 [.int .i64 id,.slice pV ls.length cV,.slice pU ps.length cU] 3 _ u1 rfl Tryz.underlying38 rfl zal ?_ ?_ ?_ ?_);rfl;rfl;rfl)
    |((with_reducible refine zah (.tmp 2) (.tmp 11) (w.heap.size+1) 38 38 _ [.int .i64 id,.slice pV ls.length cV,.slice pU ps.length cU] 3 u2 rfl ?_ ?_ ?_ ?_ zal rfl (by simp [Value.oneCell']) ?_);rfl;rfl;rfl;rfl;intro w5 ho5 u5))
   have b5:=zag bw ho5 (Nat.le_succ _) bw.size
   exact bodyPost_ret (results_cell_row (p:=2) (ty:=38) Tryz.results47 _ _ (w.heap.size+1) 38 _ (0,0) _ rfl u5 Tryz.underlying38 rfl zal) rfl ⟨_,_,rfl,HV.out.stays (zcm ho5 (Nat.le_refl _)),HU.out.stays (zcm ho5 (Nat.le_refl _)),b5⟩
  ·rw [if_pos (by rfl)]
   have c0:=zac u1 2 rfl
   go_simp
   refine hK.out _ _ (⟨_,_,u1⟩) (fun _=>?_)
   clear hK K
   try simp only [putS]
   refine tr 2 rfl (fun K hK=>?_)
   rw [if_pos (by rfl)]
   go_simp
   refine (HLT.out _ bw).mono ?_
   rintro e0 w3 ⟨V,xs,rfl,hown,hrow,hb3⟩
   have HV:=Lib.hid (OwnT.mk (n:=w.heap.size) (zaa u2) hown hrow)
   obtain ⟨pV,cV,rfl⟩:=(za9.slice hown hrow).slice
   replace u1:=(hb3.block _ (zaa u1)).trans u1
   replace u2:=(hb3.block _ (zaa u2)).trans u2
   replace bw:=zab bw hb3 bw.size
   clear hb3 hown hrow
   refine hK.out _ _ (⟨_,_,u1⟩) (fun _=>?_)
   clear hK K
   try simp only [putS]
   refine tg (i:=6) (.pointer (some ⟨w.heap.size,1,none⟩)) rfl (⟨_,_,u1⟩) ?_
   refine tr 5 rfl (fun K hK=>?_)
   rw [if_pos (by rfl)]
   go_simp
   refine (HLP.out _ bw).mono ?_
   rintro e0 w3 ⟨U,xs,rfl,hown,hrow,hb3⟩
   have HU:=Lib.hid (OwnP.mk (n:=w.heap.size) (V:=.slice pV ls.length cV) (zaa u2) HV.out.lt hown hrow)
   replace HV:=Lib.hid (HV.out.stays (zga hb3))
   obtain ⟨pU,cU,rfl⟩:=(za9.slice hown hrow).slice
   replace u1:=(hb3.block _ (zaa u1)).trans u1
   replace u2:=(hb3.block _ (zaa u2)).trans u2
   replace bw:=zab bw hb3 bw.size
   clear hb3 hown hrow
   refine hK.out _ _ (⟨_,_,u1⟩) (fun _=>?_)
   clear hK K
   try simp only [putS]
   refine tr 7 rfl (fun K hK=>?_)
   have c0:=zac u1 1 rfl
   have f0:=zbj u1 1
   go_simp
   replace HV:=Lib.hid (HV.out.stays (zbv _ w.heap.size 1 (.slice pV ls.length cV)))
   replace HU:=Lib.hid (HU.out.stays (zbv _ w.heap.size 1 (.slice pV ls.length cV)))
   replace bw:=zam (e:=w.heap.size) (o:=1) bw none (.slice pV ls.length cV) (Nat.le_refl _) bw.size
   replace u2:=((Only.refl w.heap.size _).setCell 1 none (.slice pV ls.length cV)).block (w.heap.size+1) (zaa u2) (by omega) |>.trans u2
   replace u1:=za6 u1 1 (.slice pV ls.length cV)
   simp only [List.setIfInBounds_toArray,List.set_cons_zero,List.set_cons_succ] at u1
   clear c0 f0
   refine hK.out _ _ (⟨_,_,u1⟩) (fun _=>?_)
   clear hK K
   try simp only [putS]
   refine tg (i:=8) (.pointer (some ⟨w.heap.size,2,none⟩)) rfl (⟨_,_,u1⟩) ?_
   refine tr 9 rfl (fun K hK=>?_)
   have c0:=zac u1 2 rfl
   have f0:=zbj u1 2
   go_simp
   replace HV:=Lib.hid (HV.out.stays (zbv _ w.heap.size 2 (.slice pU ps.length cU)))
   replace HU:=Lib.hid (HU.out.stays (zbv _ w.heap.size 2 (.slice pU ps.length cU)))
   replace bw:=zam (e:=w.heap.size) (o:=2) bw none (.slice pU ps.length cU) (Nat.le_refl _) bw.size
   replace u2:=((Only.refl w.heap.size _).setCell 2 none (.slice pU ps.length cU)).block (w.heap.size+1) (zaa u2) (by omega) |>.trans u2
   replace u1:=za6 u1 2 (.slice pU ps.length cU)
   simp only [List.setIfInBounds_toArray,List.set_cons_zero,List.set_cons_succ] at u1
   clear c0 f0
   refine hK.out _ _ (⟨_,_,u1⟩) (fun _=>?_)
   clear hK K
   try simp only [putS]
   refine wpAnyH_done (by kernel_rfl) ?_ _
   go_wp2_with (first
    |((with_reducible refine zaf (.tmp 1) w.heap.size 38 38 [.int .i64 id,.slice pV ls.length cV,.slice pU ps.length cU] 3 _ u1 rfl Tryz.underlying38 rfl zal ?_ ?_ ?_ ?_);rfl;rfl;rfl)
    |((with_reducible refine zah (.tmp 2) (.tmp 11) (w.heap.size+1) 38 38 _ [.int .i64 id,.slice pV ls.length cV,.slice pU ps.length cU] 3 u2 rfl ?_ ?_ ?_ ?_ zal rfl (by simp [Value.oneCell']) ?_);rfl;rfl;rfl;rfl;intro w5 ho5 u5))
   have b5:=zag bw ho5 (Nat.le_succ _) bw.size
   exact bodyPost_ret (results_cell_row (p:=2) (ty:=38) Tryz.results47 _ _ (w.heap.size+1) 38 _ (0,0) _ rfl u5 Tryz.underlying38 rfl zal) rfl ⟨_,_,rfl,HV.out.stays (zcm ho5 (Nat.le_refl _)),HU.out.stays (zcm ho5 (Nat.le_refl _)),b5⟩
 ·rw [if_pos (by rfl)]
  have c0:=zac u1 2 rfl
  go_simp
  refine hK.out _ _ (⟨_,_,u1⟩) (fun _=>?_)
  clear hK K
  try simp only [putS]
  refine tr 1 rfl (fun K hK=>?_)
  rw [if_pos (by rfl)]
  have c0:=zac u1 1 rfl
  go_simp
  refine hK.out _ _ (⟨_,_,u1⟩) (fun _=>?_)
  clear hK K
  try simp only [putS]
  refine tr 2 rfl (fun K hK=>?_)
  rw [if_pos (by rfl)]
  go_simp
  refine (HLT.out _ bw).mono ?_
  rintro e0 w3 ⟨V,xs,rfl,hown,hrow,hb3⟩
  have HV:=Lib.hid (OwnT.mk (n:=w.heap.size) (zaa u2) hown hrow)
  obtain ⟨pV,cV,rfl⟩:=(za9.slice hown hrow).slice
  replace u1:=(hb3.block _ (zaa u1)).trans u1
  replace u2:=(hb3.block _ (zaa u2)).trans u2
  replace bw:=zab bw hb3 bw.size
  clear hb3 hown hrow
  refine hK.out _ _ (⟨_,_,u1⟩) (fun _=>?_)
  clear hK K
  try simp only [putS]
  refine tg (i:=6) (.pointer (some ⟨w.heap.size,1,none⟩)) rfl (⟨_,_,u1⟩) ?_
  refine tr 5 rfl (fun K hK=>?_)
  rw [if_pos (by rfl)]
  go_simp
  refine (HLP.out _ bw).mono ?_
  rintro e0 w3 ⟨U,xs,rfl,hown,hrow,hb3⟩
  have HU:=Lib.hid (OwnP.mk (n:=w.heap.size) (V:=.slice pV ls.length cV) (zaa u2) HV.out.lt hown hrow)
  replace HV:=Lib.hid (HV.out.stays (zga hb3))
  obtain ⟨pU,cU,rfl⟩:=(za9.slice hown hrow).slice
  replace u1:=(hb3.block _ (zaa u1)).trans u1
  replace u2:=(hb3.block _ (zaa u2)).trans u2
  replace bw:=zab bw hb3 bw.size
  clear hb3 hown hrow
  refine hK.out _ _ (⟨_,_,u1⟩) (fun _=>?_)
  clear hK K
  try simp only [putS]
  refine tr 7 rfl (fun K hK=>?_)
  have c0:=zac u1 1 rfl
  have f0:=zbj u1 1
  go_simp
  replace HV:=Lib.hid (HV.out.stays (zbv _ w.heap.size 1 (.slice pV ls.length cV)))
  replace HU:=Lib.hid (HU.out.stays (zbv _ w.heap.size 1 (.slice pV ls.length cV)))
  replace bw:=zam (e:=w.heap.size) (o:=1) bw none (.slice pV ls.length cV) (Nat.le_refl _) bw.size
  replace u2:=((Only.refl w.heap.size _).setCell 1 none (.slice pV ls.length cV)).block (w.heap.size+1) (zaa u2) (by omega) |>.trans u2
  replace u1:=za6 u1 1 (.slice pV ls.length cV)
  simp only [List.setIfInBounds_toArray,List.set_cons_zero,List.set_cons_succ] at u1
  clear c0 f0
  refine hK.out _ _ (⟨_,_,u1⟩) (fun _=>?_)
  clear hK K
  try simp only [putS]
  refine tg (i:=8) (.pointer (some ⟨w.heap.size,2,none⟩)) rfl (⟨_,_,u1⟩) ?_
  refine tr 9 rfl (fun K hK=>?_)
  have c0:=zac u1 2 rfl
  have f0:=zbj u1 2
  go_simp
  replace HV:=Lib.hid (HV.out.stays (zbv _ w.heap.size 2 (.slice pU ps.length cU)))
  replace HU:=Lib.hid (HU.out.stays (zbv _ w.heap.size 2 (.slice pU ps.length cU)))
  replace bw:=zam (e:=w.heap.size) (o:=2) bw none (.slice pU ps.length cU) (Nat.le_refl _) bw.size
  replace u2:=((Only.refl w.heap.size _).setCell 2 none (.slice pU ps.length cU)).block (w.heap.size+1) (zaa u2) (by omega) |>.trans u2
  replace u1:=za6 u1 2 (.slice pU ps.length cU)
  simp only [List.setIfInBounds_toArray,List.set_cons_zero,List.set_cons_succ] at u1
  clear c0 f0
  refine hK.out _ _ (⟨_,_,u1⟩) (fun _=>?_)
  clear hK K
  try simp only [putS]
  refine wpAnyH_done (by kernel_rfl) ?_ _
  go_wp2_with (first
   |((with_reducible refine zaf (.tmp 1) w.heap.size 38 38 [.int .i64 id,.slice pV ls.length cV,.slice pU ps.length cU] 3 _ u1 rfl Tryz.underlying38 rfl zal ?_ ?_ ?_ ?_);rfl;rfl;rfl)
   |((with_reducible refine zah (.tmp 2) (.tmp 11) (w.heap.size+1) 38 38 _ [.int .i64 id,.slice pV ls.length cV,.slice pU ps.length cU] 3 u2 rfl ?_ ?_ ?_ ?_ zal rfl (by simp [Value.oneCell']) ?_);rfl;rfl;rfl;rfl;intro w5 ho5 u5))
  have b5:=zag bw ho5 (Nat.le_succ _) bw.size
  exact bodyPost_ret (results_cell_row (p:=2) (ty:=38) Tryz.results47 _ _ (w.heap.size+1) 38 _ (0,0) _ rfl u5 Tryz.underlying38 rfl zal) rfl ⟨_,_,rfl,HV.out.stays (zcm ho5 (Nat.le_refl _)),HU.out.stays (zcm ho5 (Nat.le_refl _)),b5⟩
set_option maxHeartbeats 6400000 in
set_option maxRecDepth 20000 in
theorem zhv (id src dst:Int) (ty:ByteArray) (ps:List zax) (p2:Option Addr) (c2:Nat) (w:World) (hn1:ty.size≤2097152) (hn2:ps.length≤2097152) (hp:zak za0 w (Old w) (.slice p2 ps.length c2) ps):
 Calls Tryz.prog 50 #[.agg #[.int .i64 id,.int .i64 src,.int .i64 dst,.string ty,.slice p2 ps.length c2]] w fun e w'=>∃ U,e=.returned (.agg #[.int .i64 id,.int .i64 src,.int .i64 dst,.string ty,U])∧OwnP w.heap.size (.slice none 0 0) w' U ps∧Below w.heap.size w w':=by
 obtain ⟨w1,hw1⟩:∃ w1,w1=(w.alloc (.cells #[.int .i64 id,.int .i64 src,.int .i64 dst,.string ty,.slice p2 ps.length c2] 41)).alloc (.cells #[.int .i64 0,.int .i64 0,.int .i64 0,.string ⟨#[]⟩,.slice none 0 0] 41):=⟨_,rfl⟩
 have u1:w1.heap[w.heap.size]?=some (.cells #[.int .i64 id,.int .i64 src,.int .i64 dst,.string ty,.slice p2 ps.length c2] 41 (0,0)):=by rw [hw1];exact zar _ (zae _ _ rfl)
 have u2:w1.heap[w.heap.size+1]?=some (.cells #[.int .i64 0,.int .i64 0,.int .i64 0,.string ⟨#[]⟩,.slice none 0 0] 41 (0,0)):=by rw [hw1];exact zae _ _ (by simp)
 have bw:Below w.heap.size w w1:=by rw [hw1];exact zbk _ _ _
 have HCL:=Lib.hid (fun W=>zhu ty W (by omega))
 have HLP:Hid (∀ W,Below w.heap.size w W→Calls Tryz.prog 87 #[.slice p2 ps.length c2,.func (.func 88) #[] #[]] W (za9 za0 70 W ps)):=Lib.hid fun W hb=>zo1 ps _ W (hp.stays (zad hb)) hn2
 clear hp
 have HW:=Lib.hid hw1
 clear hw1
 go_enter Tryz.func50,Tryz.ntmps50
 go_upto_region 1 with fail
 rw [← HW.out]
 refine wp_region_held_drew (S:=fun W=>∃ B,W.heap[w.heap.size]?=some (.cells #[.int .i64 id,.int .i64 src,.int .i64 dst,.string ty,B] 41 (0,0))) (by kernel_rfl) ⟨_,u1⟩ (fun _=>?_)
 replace bw:=bw.drew
 replace u1:w1.drew.heap[w.heap.size]?=_:=u1
 replace u2:w1.drew.heap[w.heap.size+1]?=_:=u2
 refine tg (i:=0) (.pointer (some ⟨w.heap.size,3,none⟩)) rfl (⟨_,u1⟩) ?_
 refine tg (i:=3) (.pointer (some ⟨w.heap.size,4,none⟩)) rfl (⟨_,u1⟩) ?_
 refine tk (i:=1) (v:=.string ty) rfl (Or.inl ⟨by rfl,fun W ⟨_,h⟩=>by have c0:=zac h 3 rfl;go_simp⟩) (⟨_,u1⟩) ?_
 refine wpAnyH_ready (rs:=[2,4]) (by kernel_rfl) (by simp) ?_
 refine AllReadyH.cons rfl (fun K hK=>?_) (AllReadyH.cons rfl (fun K hK=>?_) AllReadyH.nil)
 ·rw [if_pos (by rfl)]
  go_simp
  refine (HCL.out _).mono ?_
  rintro e0 w3 ⟨rfl,hb3⟩
  replace u1:=(hb3.block _ (zaa u1)).trans u1
  replace u2:=(hb3.block _ (zaa u2)).trans u2
  replace bw:=zab bw hb3 bw.size
  clear hb3
  refine hK.out _ _ (⟨_,u1⟩) (fun _=>?_)
  clear hK K
  try simp only [putS]
  refine tr 4 rfl (fun K hK=>?_)
  rw [if_pos (by rfl)]
  have c0:=zac u1 4 rfl
  go_simp
  refine hK.out _ _ (⟨_,u1⟩) (fun _=>?_)
  clear hK K
  try simp only [putS]
  refine tg (i:=6) (.pointer (some ⟨w.heap.size,3,none⟩)) rfl (⟨_,u1⟩) ?_
  refine tr 5 rfl (fun K hK=>?_)
  rw [if_pos (by rfl)]
  go_simp
  refine (HLP.out _ bw).mono ?_
  rintro e0 w3 ⟨U,xs,rfl,hown,hrow,hb3⟩
  have HU:=Lib.hid (OwnP.mk (n:=w.heap.size) (V:=.slice none 0 0) (zaa u2) (fun g e=>by cases e) hown hrow)
  obtain ⟨pU,cU,rfl⟩:=(za9.slice hown hrow).slice
  replace u1:=(hb3.block _ (zaa u1)).trans u1
  replace u2:=(hb3.block _ (zaa u2)).trans u2
  replace bw:=zab bw hb3 bw.size
  clear hb3 hown hrow
  refine hK.out _ _ (⟨_,u1⟩) (fun _=>?_)
  clear hK K
  try simp only [putS]
  refine tr 7 rfl (fun K hK=>?_)
  have c0:=zac u1 3 rfl
  have f0:=zbj u1 3
  go_simp
  replace HU:=Lib.hid (HU.out.stays (zbv _ w.heap.size 3 (.string ty)))
  replace bw:=zam (e:=w.heap.size) (o:=3) bw none (.string ty) (Nat.le_refl _) bw.size
  replace u2:=((Only.refl w.heap.size _).setCell 3 none (.string ty)).block (w.heap.size+1) (zaa u2) (by omega) |>.trans u2
  replace u1:=za6 u1 3 (.string ty)
  simp only [List.setIfInBounds_toArray,List.set_cons_zero,List.set_cons_succ] at u1
  clear c0 f0
  refine hK.out _ _ (⟨_,u1⟩) (fun _=>?_)
  clear hK K
  try simp only [putS]
  refine tg (i:=8) (.pointer (some ⟨w.heap.size,4,none⟩)) rfl (⟨_,u1⟩) ?_
  refine tr 9 rfl (fun K hK=>?_)
  have c0:=zac u1 4 rfl
  have f0:=zbj u1 4
  go_simp
  replace HU:=Lib.hid (HU.out.stays (zbv _ w.heap.size 4 (.slice pU ps.length cU)))
  replace bw:=zam (e:=w.heap.size) (o:=4) bw none (.slice pU ps.length cU) (Nat.le_refl _) bw.size
  replace u2:=((Only.refl w.heap.size _).setCell 4 none (.slice pU ps.length cU)).block (w.heap.size+1) (zaa u2) (by omega) |>.trans u2
  replace u1:=za6 u1 4 (.slice pU ps.length cU)
  simp only [List.setIfInBounds_toArray,List.set_cons_zero,List.set_cons_succ] at u1
  clear c0 f0
  refine hK.out _ _ (⟨_,u1⟩) (fun _=>?_)
  clear hK K
  try simp only [putS]
  refine wpAnyH_done (by kernel_rfl) ?_ _
  go_wp2_with (first
   |((with_reducible refine zaf (.tmp 1) w.heap.size 41 41 [.int .i64 id,.int .i64 src,.int .i64 dst,.string ty,.slice pU ps.length cU] 5 _ u1 rfl Tryz.underlying41 rfl zan ?_ ?_ ?_ ?_);rfl;rfl;rfl)
   |((with_reducible refine zah (.tmp 2) (.tmp 11) (w.heap.size+1) 41 41 _ [.int .i64 id,.int .i64 src,.int .i64 dst,.string ty,.slice pU ps.length cU] 5 u2 rfl ?_ ?_ ?_ ?_ zan rfl (by simp [Value.oneCell']) ?_);rfl;rfl;rfl;rfl;intro w5 ho5 u5))
  have b5:=zag bw ho5 (Nat.le_succ _) bw.size
  exact bodyPost_ret (results_cell_row (p:=2) (ty:=41) Tryz.results50 _ _ (w.heap.size+1) 41 _ (0,0) _ rfl u5 Tryz.underlying41 rfl zan) rfl ⟨_,rfl,HU.out.stays (zcm ho5 (Nat.le_refl _)),b5⟩
 ·rw [if_pos (by rfl)]
  have c0:=zac u1 4 rfl
  go_simp
  refine hK.out _ _ (⟨_,u1⟩) (fun _=>?_)
  clear hK K
  try simp only [putS]
  refine tr 2 rfl (fun K hK=>?_)
  rw [if_pos (by rfl)]
  go_simp
  refine (HCL.out _).mono ?_
  rintro e0 w3 ⟨rfl,hb3⟩
  replace u1:=(hb3.block _ (zaa u1)).trans u1
  replace u2:=(hb3.block _ (zaa u2)).trans u2
  replace bw:=zab bw hb3 bw.size
  clear hb3
  refine hK.out _ _ (⟨_,u1⟩) (fun _=>?_)
  clear hK K
  try simp only [putS]
  refine tg (i:=6) (.pointer (some ⟨w.heap.size,3,none⟩)) rfl (⟨_,u1⟩) ?_
  refine tr 5 rfl (fun K hK=>?_)
  rw [if_pos (by rfl)]
  go_simp
  refine (HLP.out _ bw).mono ?_
  rintro e0 w3 ⟨U,xs,rfl,hown,hrow,hb3⟩
  have HU:=Lib.hid (OwnP.mk (n:=w.heap.size) (V:=.slice none 0 0) (zaa u2) (fun g e=>by cases e) hown hrow)
  obtain ⟨pU,cU,rfl⟩:=(za9.slice hown hrow).slice
  replace u1:=(hb3.block _ (zaa u1)).trans u1
  replace u2:=(hb3.block _ (zaa u2)).trans u2
  replace bw:=zab bw hb3 bw.size
  clear hb3 hown hrow
  refine hK.out _ _ (⟨_,u1⟩) (fun _=>?_)
  clear hK K
  try simp only [putS]
  refine tr 7 rfl (fun K hK=>?_)
  have c0:=zac u1 3 rfl
  have f0:=zbj u1 3
  go_simp
  replace HU:=Lib.hid (HU.out.stays (zbv _ w.heap.size 3 (.string ty)))
  replace bw:=zam (e:=w.heap.size) (o:=3) bw none (.string ty) (Nat.le_refl _) bw.size
  replace u2:=((Only.refl w.heap.size _).setCell 3 none (.string ty)).block (w.heap.size+1) (zaa u2) (by omega) |>.trans u2
  replace u1:=za6 u1 3 (.string ty)
  simp only [List.setIfInBounds_toArray,List.set_cons_zero,List.set_cons_succ] at u1
  clear c0 f0
  refine hK.out _ _ (⟨_,u1⟩) (fun _=>?_)
  clear hK K
  try simp only [putS]
  refine tg (i:=8) (.pointer (some ⟨w.heap.size,4,none⟩)) rfl (⟨_,u1⟩) ?_
  refine tr 9 rfl (fun K hK=>?_)
  have c0:=zac u1 4 rfl
  have f0:=zbj u1 4
  go_simp
  replace HU:=Lib.hid (HU.out.stays (zbv _ w.heap.size 4 (.slice pU ps.length cU)))
  replace bw:=zam (e:=w.heap.size) (o:=4) bw none (.slice pU ps.length cU) (Nat.le_refl _) bw.size
  replace u2:=((Only.refl w.heap.size _).setCell 4 none (.slice pU ps.length cU)).block (w.heap.size+1) (zaa u2) (by omega) |>.trans u2
  replace u1:=za6 u1 4 (.slice pU ps.length cU)
  simp only [List.setIfInBounds_toArray,List.set_cons_zero,List.set_cons_succ] at u1
  clear c0 f0
  refine hK.out _ _ (⟨_,u1⟩) (fun _=>?_)
  clear hK K
  try simp only [putS]
  refine wpAnyH_done (by kernel_rfl) ?_ _
  go_wp2_with (first
   |((with_reducible refine zaf (.tmp 1) w.heap.size 41 41 [.int .i64 id,.int .i64 src,.int .i64 dst,.string ty,.slice pU ps.length cU] 5 _ u1 rfl Tryz.underlying41 rfl zan ?_ ?_ ?_ ?_);rfl;rfl;rfl)
   |((with_reducible refine zah (.tmp 2) (.tmp 11) (w.heap.size+1) 41 41 _ [.int .i64 id,.int .i64 src,.int .i64 dst,.string ty,.slice pU ps.length cU] 5 u2 rfl ?_ ?_ ?_ ?_ zan rfl (by simp [Value.oneCell']) ?_);rfl;rfl;rfl;rfl;intro w5 ho5 u5))
  have b5:=zag bw ho5 (Nat.le_succ _) bw.size
  exact bodyPost_ret (results_cell_row (p:=2) (ty:=41) Tryz.results50 _ _ (w.heap.size+1) 41 _ (0,0) _ rfl u5 Tryz.underlying41 rfl zan) rfl ⟨_,rfl,HU.out.stays (zcm ho5 (Nat.le_refl _)),b5⟩
end Go.Proofs.YtcfmenkigolnoaaGreatDoor

/- GQ -/
namespace Go.Proofs.YtcfmenkigolnoaaGreatDoor
open Go.RowKit
def Tryz.lays106_ren:Go.Shelf.Ren:=⟨fun | 106=>93 | 213=>114 | 265=>139 | n=>n,fun | n=>n,fun | n=>n⟩
theorem Tryz.lays106:Go.Proofs.Lays.n106 Tryz.prog Tryz.lays106_ren:={
 mixed:=by kernel_rfl
 f106:=Tryz.func93.trans (congrArg some (by kernel_rfl))
 f213:=Tryz.func114.trans (congrArg some (by kernel_rfl))
 f265:=Tryz.func139.trans (congrArg some (by kernel_rfl))
 t3:=Tryz.underlying3
 a3:=Tryz.isAgg3
 z3:=Tryz.sizeOf3
 v3:=Tryz.zeroValue3
 t9:=Tryz.underlying9
 a9:=Tryz.isAgg9
 z9:=Tryz.sizeOf9
 v9:=Tryz.zeroValue9 }
theorem zvd (a b:ByteArray) (w:World):Calls Tryz.prog 93 #[.string a,.string b] w fun e w'=>e=.returned (.int .i64 (Lib.compareBytes (bl a) (bl b)))∧w'=w:=
 Any.strings_Compare Tryz.lays106 a b w
theorem zeq:(l m:List UInt8)→(Lib.compareBytes l m < 0↔l < m)
 | [],[]=>by simp [Lib.compareBytes]
 | [],_::_=>by simp [Lib.compareBytes]
 | _::_,[]=>by simp [Lib.compareBytes]
 | a::x,b::y=>by
   unfold Lib.compareBytes
   rw [List.cons_lt_cons_iff]
   have ih:=zeq x y
   by_cases h:a < b
   ·simp [h]
   ·by_cases g:b < a
    ·have e:a≠b:=by
      intro e
      subst e
      exact h g
     simp [h,g,e]
    ·have e:a=b:=by
      rw [UInt8.lt_iff_toNat_lt] at h g
      exact UInt8.toNat_inj.1 (by omega)
     subst e
     simpa [h] using ih
set_option maxHeartbeats 1600000 in
set_option maxRecDepth 20000 in
theorem zsp (x y:List Value) (kx ky:ByteArray) (w:World) (hx:x[0]?=some (.string kx)) (hy:y[0]?=some (.string ky)):
 Calls Tryz.prog 104 #[.agg x.toArray,.agg y.toArray] w fun e w'=>e=.returned (.int .i64 (Lib.compareBytes (bl kx) (bl ky)))∧w'=(w.alloc (.cells x.toArray 70)).alloc (.cells y.toArray 70):=by
 have c0:((w.alloc (.cells x.toArray 70)).alloc (.cells y.toArray 70)).cell? ⟨w.heap.size,0,none⟩=some (.string kx):=zac (zar _ (zae _ _ rfl)) 0 (by simpa using hx)
 have c1:((w.alloc (.cells x.toArray 70)).alloc (.cells y.toArray 70)).cell? ⟨w.heap.size+1,0,none⟩=some (.string ky):=zac (zae _ _ (by simp)) 0 (by simpa using hy)
 obtain ⟨r,hr⟩:∃ r,r=Lib.compareBytes (bl kx) (bl ky):=⟨_,rfl⟩
 have HC:=Lib.hid (fun W=>zvd kx ky W)
 rw [← hr] at HC ⊢
 clear hx hy hr
 go_enter Tryz.func104,Tryz.ntmps104
 go_wp2_with (first
  |(go_at_call 93;(with_reducible refine (HC.out _).mono ?_);rintro e w1 ⟨rfl,rfl⟩))
 go_ret
 exact ⟨rfl,rfl⟩
theorem zve {w:World} {base g cap q n k:Nat} {e:TypeId} {cur:Array Value} {os:Array Obj} (F:List Value) (hF:F.length=n*k) (hbase:base≤g) (hb:w.heap[g]?=some (.cells cur e (0,0))) (h1:n≤cap) (h2:cap≤maxLen) (h3:cur.size=cap*k):
 (Go.Sort.grow (Go.Sort.putRow id (Go.Sort.ahead w q) g 0 F.toArray) os).ownsRow base e k (.slice (some ⟨g,0,none⟩) n cap) n F∧w.grownBy (Go.Sort.grow (Go.Sort.putRow id (Go.Sort.ahead w q) g 0 F.toArray) os) (some g):=by
 have hg:g < w.heap.size:=zaa hb
 have hle:n*k≤cap*k:=Nat.mul_le_mul_right _ h1
 refine ⟨⟨hF,.inr ⟨g,cap,Go.Sort.putCells id 0 F.toArray cur,rfl,hbase,?_,h1,h2,by simp [Go.Sort.putCells,h3],?_⟩⟩,⟨rfl,rfl,rfl,by simp,fun i hi hne=>?_⟩⟩
 ·rw [Go.Sort.heap_grow_old _ _ (by simpa using hg)]
  simp [Go.Sort.putRow,Go.Sort.mapBlock,Go.Sort.ahead,Array.getElem?_modify,hb,Go.Sort.onCells]
 ·apply List.ext_getElem?
  intro j
  by_cases hj:j < n*k
  ·rw [List.getElem?_take_of_lt hj,Array.getElem?_toList]
   simp [Go.Sort.putCells,show j < cur.size by omega,show j < F.length by omega]
  ·rw [List.getElem?_take_eq_none (by omega),List.getElem?_eq_none (by omega)]
 ·have:g≠i:=fun e=>hne (by rw [e])
  rw [Go.Sort.heap_grow_old _ _ (by simpa using hi)]
  simp [Go.Sort.putRow,Go.Sort.mapBlock,Go.Sort.ahead,Array.getElem?_modify,this]
theorem zgl {α:Type} [Inhabited α] (enc:α→List Value) (k:Nat) (hk:∀ x,(enc x).length=k):(l:List α)→(t:Nat)→t < l.length*k→(l.flatMap enc)[t]?=some ((enc l[t / k]!)[t % k]!)
 | [],t,h=>by simp at h
 | x::l,t,h=>by
   have k0:0 < k:=by
    rcases Nat.eq_zero_or_pos k with e | e
    ·subst e;simp at h
    ·exact e
   rw [List.flatMap_cons]
   by_cases q:t < k
   ·rw [List.getElem?_append_left (by rw [hk];exact q),Nat.div_eq_of_lt q,Nat.mod_eq_of_lt q]
    have:t < (enc x).length:=by rw [hk];exact q
    show (enc x)[t]?=some ((enc x)[t]!)
    rw [List.getElem?_eq_getElem this,getElem!_pos _ t this]
   ·have h2:t - k < l.length*k:=by
     simp only [List.length_cons,Nat.add_mul] at h
     omega
    rw [List.getElem?_append_right (by rw [hk];omega),hk,zgl enc k hk l (t - k) h2]
    have e1:t / k=(t - k) / k+1:=Nat.div_eq_sub_div k0 (by omega)
    have e2:t % k=(t - k) % k:=Nat.mod_eq_sub_mod (by omega)
    rw [e1,e2]
    simp
theorem zer {α:Type} (enc:α→List Value) (k:Nat) (hk:∀ x,(enc x).length=k):(l:List α)→(l.flatMap enc).length=l.length*k
 | []=>by simp
 | x::l=>by rw [List.flatMap_cons,List.length_append,hk,zer enc k hk l,List.length_cons,Nat.add_mul];omega
theorem zo2 {α:Type} [Inhabited α] (enc:α→List Value) (k:Nat) (hk:∀ x,(enc x).length=k) (d:Array α):Go.Sort.flatK enc k d=(d.toList.flatMap enc).toArray:=by
 have hl:=zer enc k hk d.toList
 apply Array.ext_getElem?
 intro t
 by_cases h:t < d.size*k
 ·have h':t < (Go.Sort.flatK enc k d).size:=by simpa using h
  rw [Array.getElem?_eq_getElem h',← getElem!_pos _ t h',Go.Sort.get_flatK _ _ _ _ h,List.getElem?_toArray,zgl enc k hk d.toList t (by simpa using h)]
  have hq:t / k < d.size:=Nat.div_lt_of_lt_mul (by rw [Nat.mul_comm];exact h)
  rw [getElem!_pos d.toList _ (by simpa using hq),getElem!_pos d _ hq]
  simp
 ·rw [Array.getElem?_eq_none (by simpa using h),List.getElem?_toArray,List.getElem?_eq_none (by rw [hl];simpa using h)]
section
variable {w:World} {P:Nat→Prop}
abbrev PC (w:World) (P:Nat→Prop):={ x:List Value × zax // za0.rel w P x.1 x.2 }
def PC.enc (x:PC w P):List Value:=x.1.1
def PC.cf (x y:PC w P):Int:=Lib.compareBytes (bl x.1.2.key) (bl y.1.2.key)
theorem PC.len7 (x:PC w P):x.enc.length=7:=za0.len x.2
theorem PC.one (x:PC w P):∀ v∈x.enc,v.oneCell'=true:=za0.one x.2
theorem PC.lt (x y:PC w P):ltOf PC.cf x y=true↔bl x.1.2.key < bl y.1.2.key:=by
 rw [show ltOf PC.cf x y=decide (PC.cf x y < 0) from rfl,decide_eq_true_eq]
 exact zeq _ _
theorem PC.nlt (x y:PC w P):ltOf PC.cf x y=false↔bl y.1.2.key≤bl x.1.2.key:=by
 rw [← Bool.not_eq_true,PC.lt]
 exact List.not_lt
theorem swoP:Go.Sort.SWO (ltOf (PC.cf (w:=w) (P:=P))) where
 irrefl x:=(PC.nlt x x).2 (List.le_refl _)
 trans x y z h1 h2:=(PC.lt x z).2 (List.lt_trans ((PC.lt x y).1 h1) ((PC.lt y z).1 h2))
 ntrans x y z h1 h2:=(PC.nlt x z).2 (List.le_trans ((PC.nlt y z).1 h2) ((PC.nlt x y).1 h1))
theorem PC.of_row:{xs:List Value}→(l:List zax)→RowE za0 w P xs l→∃ d:List (PC w P),xs=d.flatMap PC.enc∧d.map (fun x=>x.1.2)=l
 | _,[],h=>by
   unfold RowE at h
   subst h
   exact ⟨[],rfl,rfl⟩
 | _,a::l,h=>by
   unfold RowE at h
   obtain ⟨c,ys,rfl,hc,hr⟩:=h
   obtain ⟨d,rfl,rfl⟩:=PC.of_row l hr
   exact ⟨⟨(c,a),hc⟩::d,rfl,rfl⟩
theorem PC.row:(d:List (PC w P))→RowE za0 w P (d.flatMap PC.enc) (d.map (fun x=>x.1.2))
 | []=>RowE.nil
 | x::d=>by
   rw [List.flatMap_cons,List.map_cons]
   exact RowE.append [x.1.2] _ (RowE.single x.2) (PC.row d)
end
theorem zhw (V:Value) (ps:List zax) (xs:List Value) (base:Nat) (P:Nat→Prop) (w:World) (h:w.ownsRow base 70 7 V ps.length xs) (hr:RowE za0 w P xs ps) (hP:∀ g,P g→g < w.heap.size∧V.ownBlock≠some g) (hn:ps.length≤2097152):
 Calls Tryz.prog 103 #[V,.func (.func 104) #[] #[]] w fun e w'=>e=.returned (.tuple #[])∧∃ xs' ps',ps'.Perm ps∧ps'.Pairwise (fun a b=>leT a.key b.key=true)∧w'.ownsRow base 70 7 V ps.length xs'∧RowE za0 w' P xs' ps'∧w.grownBy w' V.ownBlock:=by
 have empty:∀ (p:Option Addr) (cap:Nat),Calls Tryz.prog 103 #[.slice p 0 cap,.func (.func 104) #[] #[]] w fun e w'=>e=.returned (.tuple #[])∧w'=w:=fun p cap=>AnyF.slices_SortFunc_none Tryz.sortV p cap _ w
 by_cases h0:ps=[]
 ·subst h0
  obtain ⟨p,cap,rfl⟩:=zbc h
  refine (empty p cap).mono ?_
  rintro e w' ⟨rfl,rfl⟩
  exact ⟨rfl,xs,[],List.Perm.refl _,List.Pairwise.nil,h,hr,zcl _ _⟩
 ·rcases h.2 with ⟨rfl,hz⟩ | ⟨g,cap,cur,rfl,hb,hg,h1,h2,h3,h4⟩
  ·exact absurd (List.length_eq_zero_iff.1 hz) h0
  ·obtain ⟨d,rfl,hd⟩:=PC.of_row ps hr
   have hdl:d.length=ps.length:=by rw [← hd,List.length_map]
   obtain ⟨x0,d0,rfl⟩:∃ x0 d0,d=x0::d0:=by
    cases d with
    | nil=>exact absurd (by rw [← hd];rfl) h0
    | cons x d=>exact ⟨x,d,rfl⟩
   have _inst:Inhabited (PC w P):=⟨x0⟩
   obtain ⟨d,hdd⟩:∃ d,d=x0::d0:=⟨_,rfl⟩
   rw [← hdd] at h h4 hd hdl hr
   clear hdd
   have hH:Go.Sort.HoldsK (PC.enc (w:=w) (P:=P)) 7 w g 0 d.toArray:=by
    unfold Go.Sort.HoldsK
    rw [zo2 PC.enc 7 PC.len7]
    intro t ht
    have ht2:t < (d.flatMap PC.enc).length:=by simpa using ht
    refine ⟨?_,h.frozenAt _⟩
    rw [Nat.zero_add,h.cellAt t (by rw [← h.1];exact ht2)]
    simp [List.getElem?_eq_getElem ht2]
   have cmp:CmpLays Tryz.prog 104 #[] (PC.enc (w:=w) (P:=P)) 7 PC.cf g 0 d.toArray.size w:=fun m os dk hs x y=>by
    obtain ⟨⟨x,px⟩,c1,hx1,hx2,hx3⟩:=x
    obtain ⟨⟨y,py⟩,c2,hy1,hy2,hy3⟩:=y
    simp only at hx1 hy1 hx3 hy3
    subst hx1 hy1
    refine (zsp (.string px.key::c1) (.string py.key::c2) px.key py.key _ rfl rfl).mono ?_
    rintro e w' ⟨rfl,rfl⟩
    exact ⟨rfl,0,#[.cells (Value.string px.key::c1).toArray 70,.cells (Value.string py.key::c2).toArray 70],by rw [Go.Sort.alloc_eq_grow,Go.Sort.alloc_eq_grow,Go.Sort.grow_grow];rfl⟩
   have eg:∀ args w,(callFunc 104 args).run Tryz.prog w=.ok (.enter 104 args) w:=enters_of Tryz.func104 (by kernel_rfl) rfl
   have c:=AnyQ.slices_SortFunc Tryz.sortV 7 Tryz.isAgg70 Tryz.sizeOf70 PC.enc PC.len7 PC.one PC.cf swoP 104 #[] g 0 cap d.toArray w eg cmp hH (zaa hg) (by simp;omega)
   simp only [List.size_toArray,hdl] at c
   refine c.mono ?_
   rintro e w' ⟨rfl,d',n,os,hp,hs,rfl⟩
   have hd's:d'.size=d.length:=by simpa using hp.1
   have hperm:d'.toList.Perm d:=by
    have:=hp.2.2
    rw [← hdl] at this
    have e1:d'.extract 0 d.length=d':=by rw [← hd's];exact Array.extract_size
    have e2:d.toArray.extract 0 d.length=d.toArray:=by
     simp
    rw [e1,e2] at this
    exact this
   obtain ⟨r1,r2⟩:=zve (q:=n) (os:=os) (n:=ps.length) (k:=7) (d'.toList.flatMap PC.enc) (by rw [zer PC.enc 7 PC.len7];simp [hd's,hdl]) hb hg h1 h2 h3
   have ew:sortWorldK PC.enc 7 w g 0 n d' os=Go.Sort.grow (Go.Sort.putRow id (Go.Sort.ahead w n) g 0 (d'.toList.flatMap PC.enc).toArray) os:=by
    unfold sortWorldK Go.Sort.putRowK
    rw [zo2 PC.enc 7 PC.len7]
   rw [ew]
   refine ⟨rfl,_,d'.toList.map (fun x=>x.1.2),?_,?_,r1,(PC.row d'.toList).stays (fun i hi=>⟨hi,r2.block i (hP i hi).1 (fun e=>(hP i hi).2 e.symm)⟩) _,r2⟩
   ·rw [← hd]
    exact hperm.map _
   ·rw [List.pairwise_map,List.pairwise_iff_getElem]
    intro i j hi hj hij
    have hj':j < ps.length:=by rw [← hdl,← hd's];simpa using hj
    have:=hs i j (Nat.zero_le _) hij hj'
    rw [PC.nlt] at this
    rw [getElem!_pos d' i (by simpa using hi),getElem!_pos d' j (by simpa using hj)] at this
    simpa [leT,leB] using this
end Go.Proofs.YtcfmenkigolnoaaGreatDoor
