/- Texts of one kind, one behind the other: each says ahead of itself what it shows. -/
import Derived.Test.YtcfmenkigolnoaaGreatDoorWal
/- GTE -/
namespace Go.Proofs.YtcfmenkigolnoaaGreatDoor
open Go.RowKit
theorem own_ptr {w:World} {base n size:Nat} {e:TypeId} {v:Value} {xs:List Value} (h:w.ownsRow base e size v n xs) (hn:0 < n):∃ g cap,v=.slice (some ⟨g,0,none⟩) n cap:=by
 rcases h.2 with h | ⟨g,cap,_,e,_⟩
 ·omega
 ·exact ⟨g,cap,e⟩
theorem zsz {w w':World} {r:Option Nat} {p:Addr} {u:Value} (h:w.cell? p=some u) (g:w.grownBy w' r) (hr:r≠some p.block):w'.cell? p=some u:=by
 have hb:p.block < w.heap.size:=by
  by_cases q:p.block < w.heap.size
  ·exact q
  ·unfold World.cell? at h
   rw [Array.getElem?_eq_none (by omega)] at h
   cases h
 unfold World.cell? at h ⊢
 rw [g.block p.block hb (fun e=>hr e.symm)]
 exact h
theorem zs0 (a:Addr) (n:Nat):(a.add n).block=a.block:=by unfold Addr.add;split <;> rfl
theorem zin {P:Program} {o:Oper} {a:Act} {w w':World} {K:Act→World→Prop} {Q:Exit→Act→World→Prop} (m s x:Operand) (t:TypeId) (ho:o.op=Op.entryStore t m s x) {vm vs vx:Value} (hm:a.eval m=vm) (hs:a.eval s=vs) (hx:a.eval x=vx) (hr:(Instr.entryStore t vm vs vx).run P w=.ok () w') (h:K (a.put o.dst undef) w'):o.wp P a w K Q:=by
 unfold Oper.wp
 simp [execOp,ho,hm,hs,hx,hr,Result.andThen]
 exact h
set_option maxHeartbeats 6400000 in
set_option maxRecDepth 20000 in
theorem zn0 (B s mb lb:Nat) (sc:Array Value) (l:List zat) (v:Value) (w:World) (hs:w.heap[s]?=some (.cells sc 79 (0,0))) (h0:sc[1]?=some (.map (some mb))) (h2:sc[3]?=some (.slice none 0 0)) (h4:sc[5]?=some (.map (some lb))) (hm:w.heap[mb]?=some (.map #[] 0)) (hlb:w.heap[lb]?=some (.map #[] 0)) (hlm:lb≠mb) (hB:B≤mb) (hl:zak zaz w (fun g=>g < B) v l) (hnd:(l.map zat.id).Nodup) (hn:l.length≤65536):
 Calls Tryz.prog 38 #[.pointer (some ⟨s,0,none⟩),v] w (EPost w s mb lb sc l):=by
 obtain ⟨n,hln⟩:∃ n,n=l.length:=⟨_,rfl⟩
 obtain ⟨p,cap,rfl⟩:=hl.slice
 rw [← hln] at hn
 have hsb:s≠mb:=fun e=>by subst e;rw [hs] at hm;cases hm
 have HL:=Lib.hid hln
 have HH:=Lib.hid hl
 have HD:=Lib.hid hnd
 have hls:lb≠s:=fun e=>by subst e;rw [hs] at hlb;cases hlb
 have hlbl:=zaa hlb
 have HLB:=Lib.hid hlb
 clear hlb
 have HM:=Lib.hid hm
 have hmb:=zaa hm
 have hsl:=zaa hs
 have HB:Hid (B≤mb∧B≤w.heap.size):=Lib.hid ⟨hB,by omega⟩
 rw [← hln]
 clear hln hl hnd hm hB
 go_enter Tryz.func38,Tryz.ntmps38
 go_upto_block 0 with fail
 go_cut [13] (fun s13 wx=>Hid (T1 zaz zat.id zek mb w l wx))
 case first=>
  go_wp2_with fail
  go_loopg [13] n (fun gg s13 wr=>∃ j:Nat,j+gg=n∧s13=.int .i64 j∧Hid (T1 zaz zat.id zek mb w (l.take j) wr))
  case atStart=>exact ⟨0,by omega,rfl,Lib.hid ⟨zco.start HM.out,Kept.refl _ _⟩⟩
  case round=>
   obtain ⟨j,hjg,rfl,HA⟩:=hrel
   by_cases hlt:(j:Int) < n
   ·have hj1:j < l.length:=by have:=HL.out;omega
    have hbel:=HA.out.kept
    have st:zc9 (fun g=>g < B) (fun g=>g < B) w wr:=fun g hg=>⟨hg,hbel.block g (by have:=HB.out.2;omega) (fun (e:g=mb)=>by have:=HB.out.1;omega)⟩
    obtain ⟨g,off,cap',c,e0,hg,hrl,hra⟩:=(HH.out.stays st).at_ j hj1
    injection e0 with e1 e2 e3
    subst e1
    replace hra:wr.rangeAt g (off+j*5) c:=hra
    have hlen:c.length=5:=zaz.len hrl
    have hone:=zaz.one hrl
    have etk:l.take (j+1)=l.take j++[l[j]]:=List.take_succ_eq_append_getElem hj1
    have hnew:∀ x∈l.take j,zat.id x≠zat.id l[j]:=zgn HD.out hj1
    have HR:=Lib.hid (And.intro hrl hra)
    clear e2 e3
    go_upto_region 3 with (first
     |((with_reducible refine zav (.tmp 15) g (off+j*5) 41 c 5 _ HR.out.2 hlen Tryz.underlying41 rfl zan ?_ ?_ ?_ ?_);rfl;rfl;rfl)
     |((with_reducible refine zah (.tmp 5) (.tmp 16) wr.heap.size 41 41 _ c 5 (zae _ _ rfl) hlen ?_ ?_ ?_ ?_ zan rfl hone ?_);rfl;rfl;rfl;rfl;intro wX oX u5))
    have bX:Below wr.heap.size wr wX:=zag (zas wr _) oX (Nat.le_refl _) (by simp)
    have bX2:=bX.drew
    have us:wX.heap[s]?=some (.cells sc 79 (0,0)):=(bX.block s (Nat.lt_of_lt_of_le hsl hbel.size)).trans ((hbel.block s hsl hsb).trans hs)
    have HC:Hid (∀ W,Below wr.heap.size wr W→Calls Tryz.prog 81 #[.agg c.toArray] W fun e w'=>∃ a',zek l[j] a'∧∃ c',e=.returned (.agg c'.toArray)∧zaz.rel w' (New W w') c' a'∧Below W.heap.size W w'):=
     Lib.hid fun W hb=>zny l[j] W c (zaz.stays (fun i hi=>⟨Nat.lt_of_lt_of_le (by have:=HB.out.2;have:=hbel.size;omega) hb.size,hb.block i (by have:=HB.out.2;have:=hbel.size;omega)⟩) hrl)
    obtain ⟨nn,ff,hnn,hmap,h3,h4⟩:=HA.out.all
    have hnl:nn≤j:=by
     have:=List.length_take_le j l
     omega
    have hnb:wr.heap.size≠mb:=fun e=>by have:=hmap.lt;omega
    have HK:=Lib.hid (And.intro hbel (And.intro hnn (And.intro h3 (And.intro h4 hnew))))
    obtain ⟨pv,rfl,hwf,_,_,_⟩:=hrl
    have HID:=Lib.hid hwf
    clear hnn h3 h4 hnew HR oX bX hra HA hone
    refine wp_region_held_drew (S:=fun W=>W.heap[s]?=some (.cells sc 79 (0,0))∧W.heap[wr.heap.size]?=some (.cells #[.int .i64 l[j].id,.int .i64 l[j].src,.int .i64 l[j].dst,.string l[j].type,pv] 41 (0,0))) (by kernel_rfl) ⟨us,u5⟩ (fun _=>?_)
    replace us:wX.drew.heap[s]?=_:=us
    replace u5:wX.drew.heap[wr.heap.size]?=_:=u5
    refine tg (i:=0) (.pointer (some ⟨s,0,none⟩)) rfl (⟨us,u5⟩) ?_
    refine tg (i:=4) (.pointer (some ⟨wr.heap.size,0,none⟩)) rfl (⟨us,u5⟩) ?_
    refine tk (i:=6) (v:=.agg #[.int .i64 l[j].id,.int .i64 l[j].src,.int .i64 l[j].dst,.string l[j].type,pv]) rfl (yieldsIf_load_mid (by rfl) 41 (.tmp 5) rfl wr.heap.size 0 rfl [.int .i64 l[j].id,.int .i64 l[j].src,.int .i64 l[j].dst,.string l[j].type,pv] _ (fun W h=>zb4 h.2 0 _ rfl) Tryz.underlying41 rfl zan) (⟨us,u5⟩) ?_
    refine tg (i:=1) (.pointer (some ⟨s,0,none⟩)) rfl (⟨us,u5⟩) ?_
    refine tk (i:=5) (v:=.int .i64 l[j].id) rfl (Or.inl ⟨by rfl,fun W h=>by have c0:=zac h.2 0 rfl;go_simp⟩) (⟨us,u5⟩) ?_
    refine tg (i:=2) (.pointer (some ⟨s,1,none⟩)) rfl (⟨us,u5⟩) ?_
    refine tk (i:=3) (v:=.map (some mb)) rfl (Or.inl ⟨by rfl,fun W h=>by have c0:=zac h.1 1 h0;go_simp⟩) (⟨us,u5⟩) ?_
    refine tr 7 rfl (fun K hK=>?_)
    rw [if_pos (by rfl)]
    go_simp
    refine (HC.out _ bX2).mono ?_
    rintro e0 w3 ⟨a',hpl,c',rfl,hc',hb3⟩
    replace us:=(hb3.block _ (zaa us)).trans us
    replace u5:=(hb3.block _ (zaa u5)).trans u5
    refine hK.out _ _ (⟨us,u5⟩) (fun _=>?_)
    clear hK K
    try simp only [putS]
    refine tr 8 rfl (fun K hK=>?_)
    rw [if_pos (by rfl)]
    refine zdc (.tmp 20) (.tmp 22) (.tmp 24) 74 rfl 2 41 law2 Tryz.underlying74 mb nn rfl (hmap.keep ?_) ?_ (.int .i64 l[j].id) _ (.int .i64 l[j].id) rfl rfl (Go.Maps.keyOf_int_mk Tryz.underlying2 hwf.1) trivial ?_
    ·exact (hb3.block _ (Nat.lt_of_lt_of_le hmap.lt bX2.size)).trans (bX2.block _ hmap.lt)
    ·have:=HL.out;unfold maxLen;omega
    intro w4 hm4 hg4
    replace us:=(hg4.block s (zaa us) (fun e=>hsb (Option.some.inj e))).trans us
    replace u5:=(hg4.block wr.heap.size (zaa u5) (fun e=>hnb (Option.some.inj e))).trans u5
    refine hK.out _ _ (⟨us,u5⟩) (fun _=>?_)
    clear hK K
    try simp only [putS]
    refine wpAnyH_done (by kernel_rfl) ?_ _
    have acc:=T1.next HK.out.1 hmb HK.out.2.1 HK.out.2.2.1 HK.out.2.2.2.1 HK.out.2.2.2.2 hpl bX2 hb3 hc' hm4 hg4
    rw [← etk] at acc
    have ACC:=Lib.hid acc
    clear acc hm4 hg4 hpl hc' hb3 us u5 bX2 HK
    go_wp2_with fail
    go_roundg (gk - 1)
    case measure=>omega
    case rel=>exact ⟨j+1,by omega,by go_num,ACC⟩
   ·have e:l.take j=l:=by rw [List.take_of_length_le];have:=HL.out;omega
    have hA:=HA.out
    rw [e] at hA
    have HX:=Lib.hid hA
    clear hA HA
    go_wp2_with fail
    go_meet
    case rel=>exact HX
 case rest=>
  obtain ⟨nn,ff,hnn,hmap,h3,h4⟩:=hcut.out.all
  have us:wc.heap[s]?=some (.cells sc 79 (0,0)):=(hcut.out.kept.block s hsl hsb).trans hs
  have inj:∀ x y:Int,(Lit.int .i64 x)=.int .i64 y→x=y:=fun x y e=>by injection e
  have hmm:∀ x,x∈l.map zat.id↔(ff (.int .i64 x)).isSome=true:=fun x=>by
   constructor
   ·intro hx
    obtain ⟨a,ha,rfl⟩:=List.mem_map.1 hx
    obtain ⟨a',c,_,e,_⟩:=h3 a ha
    rw [e];rfl
   ·intro hx
    by_cases q:x∈l.map zat.id
    ·exact q
    ·have:=h4 (.int .i64 x) fun a ha e=>q (by rw [inj _ _ e];exact List.mem_map_of_mem ha)
     rw [this] at hx
     cases hx
  have HS:=Lib.hid (zsh mb nn ff (l.map zat.id) wc hmap HD.out hmm (by have:=HL.out;omega))
  have c0:=zac us 1 h0
  have H3:=Lib.hid (And.intro hmap (And.intro h3 h4))
  have HT:=Lib.hid hcut.out
  obtain ⟨nums,hnums⟩:∃ nums,nums=(l.map zat.id).mergeSort leI:=⟨_,rfl⟩
  rw [← hnums] at HS
  have HN:=Lib.hid hnums
  have HNN:=Lib.hid hnn
  clear hmm hnn h3 h4 hmap hcut hnums
  go_upto_region 6 with (first
   |(go_at_call 82;(with_reducible refine (keysEAt mb _).mono ?_);rintro e w1 ⟨rfl,rfl⟩)
   |(go_at_call 79;(with_reducible refine HS.out.mono ?_);rintro e w2 ⟨V,rfl,hV,hb2⟩
     have bk:Below wc.heap.size wc w2:=(zas wc (.cells #[.map (some mb)] 74)).trans (hb2.mono (by omega))
     replace us:=(bk.block s (zaa us)).trans us
     have c2:=zac us 3 h2
     have f2:=zbj us 3
     obtain ⟨pV,cV,rfl⟩:=zbc hV))
  have hVt:=hb2.size
  have zV:wc.heap.size < w2.heap.size:=by have:=hb2.size;simp at this;omega
  have us3:=za6 us 3 (.slice pV nums.length cV)
  have kt:=HT.out.kept
  have sl1:=zaa us
  have hV3:(w2.setCell ⟨s,3,none⟩ (.slice pV nums.length cV)).ownsRow (wc.heap.size+1) 2 1 (.slice pV nums.length cV) nums.length (nums.map (Value.int .i64)):=
   zaw hV fun g e=>Below.heap_setCell _ _ _ _ (by show g≠s;have:=(hV.lt g e).1;have:=kt.size;omega)
  have k3:Kept (fun i=>i=mb∨i=s) w (w2.setCell ⟨s,3,none⟩ (.slice pV nums.length cV)):=((kt.more (fun i e=>.inl e)).below bk).set (.inr rfl) _
  have st3:zc9 (New w wc) (New w wc) wc (w2.setCell ⟨s,3,none⟩ (.slice pV nums.length cV)):=fun g hg=>⟨hg,(Below.heap_setCell _ _ _ _ (by show g≠s;have:=hg.1;omega)).trans (bk.block g hg.2)⟩
  have mb3:(w2.setCell ⟨s,3,none⟩ (.slice pV nums.length cV)).heap[mb]?=wc.heap[mb]?:=(Below.heap_setCell _ _ _ _ (by show mb≠s;exact fun e=>hsb e.symm)).trans (bk.block mb (Nat.lt_of_lt_of_le hmb kt.size))
  have lb3:(w2.setCell ⟨s,3,none⟩ (.slice pV nums.length cV)).heap[lb]?=some (.map #[] 0):=(k3.block lb hlbl (fun e=>by rcases e with e | e;exact hlm e;exact hls e)).trans HLB.out
  have z3:wc.heap.size < (w2.setCell ⟨s,3,none⟩ (.slice pV nums.length cV)).heap.size:=by simpa using zV
  obtain ⟨hmapc,h3c,h4c⟩:=H3.out
  have hmap3:=hmapc.keep mb3
  have h33:∀ a∈l,∃ a' c,zek a a'∧ff (.int .i64 a.id)=some (.agg c.toArray)∧zaz.rel (w2.setCell ⟨s,3,none⟩ (.slice pV nums.length cV)) (New w wc) c a':=fun a ha=>by
   obtain ⟨a',c,q1,q2,q3⟩:=h3c a ha
   exact ⟨a',c,q1,q2,zaz.stays st3 q3⟩
  obtain ⟨sc3,hsc3⟩:∃ sc3,sc3=sc.setIfInBounds 3 (.slice pV nums.length cV):=⟨_,rfl⟩
  rw [← hsc3] at us3
  have q0:sc3[1]?=some (.map (some mb)):=by rw [hsc3,Array.getElem?_setIfInBounds_ne (by omega)];exact h0
  have q4:sc3[5]?=some (.map (some lb)):=by rw [hsc3,Array.getElem?_setIfInBounds_ne (by omega)];exact h4
  have q2:sc3[3]?=some (.slice pV nums.length cV):=by
   rw [hsc3,Array.getElem?_setIfInBounds_self_of_lt]
   exact (Array.getElem?_eq_some_iff.1 h2).1
  have HV:=Lib.hid hV3
  have HK3:=Lib.hid k3
  have HM3:=Lib.hid hmap3
  have H33:=Lib.hid h33
  have c23:=zac us3 3 q2
  have hkc:=kt.size
  have HG0:Hid (zcb 98 KW (w2.setCell ⟨s,3,none⟩ (.slice pV nums.length cV)) (w2.setCell ⟨s,3,none⟩ (.slice pV nums.length cV)).heap.size lb []):=Lib.hid (zcb.start lb3)
  have HSC:=Lib.hid hsc3
  have H4C:=Lib.hid h4c
  clear hV hV3 k3 st3 mb3 lb3 hmapc h3c h4c hmap3 h33 H3 HS c0 c2 f2 us bk hb2 sl1 hVt zV hsc3 kt
  generalize w2.setCell ⟨s,3,none⟩ (.slice pV nums.length cV)=w3 at*
  have HEV:Hid (∀ i,nums[i]?≠none→∃ a∈l,a.id=nums[i]! ):=Lib.hid fun i hi=>by
   have hi':i < nums.length:=by
    by_cases q:i < nums.length
    ·exact q
    ·exact absurd (List.getElem?_eq_none (by omega)) hi
   have hmm:∀ x,x∈nums→x∈l.map zat.id:=fun x hx=>by
    rw [HN.out] at hx
    exact List.mem_mergeSort.1 hx
   have:=hmm _ (List.getElem_mem hi')
   obtain ⟨a,ha,e⟩:=List.mem_map.1 this
   exact ⟨a,ha,by rw [e,getElem!_pos nums i hi']⟩
  have HEL:Hid (∀ j,((nums.take j).flatMap (evE l)).length≤j*4):=Lib.hid fun j=>by
   refine Nat.le_trans (zgb (evE l) 4 (nums.take j) fun x hx=>?_) (Nat.mul_le_mul_right _ (List.length_take_le j nums))
   have hx2:x∈l.map zat.id:=by
    have:=List.mem_of_mem_take hx
    rw [HN.out] at this
    exact List.mem_mergeSort.1 this
   obtain ⟨a,ha,rfl⟩:=List.mem_map.1 hx2
   unfold evE
   rw [List.length_map,zfb HD.out ha]
   exact (zhy _ _).1
  obtain ⟨K,hK⟩:∃ K,K=nums.length:=⟨_,rfl⟩
  have hKn:=Lib.hid (show K=n by rw [hK,HN.out,List.length_mergeSort,List.length_map,HL.out])
  have hK9:K≤65536:=by have:=hKn.out;omega
  rw [← hK] at c23 q2 HV ⊢
  have HKL:=Lib.hid hK
  clear hK
  go_wp2_with fail
  go_loopg [40] K (fun gg s40 wr=>∃ j:Nat,j+gg=K∧s40=.int .i64 j∧Hid (T2 98 KW lb w3 ((nums.take j).flatMap (evE l)) wr))
  case atStart=>exact ⟨0,by omega,rfl,Lib.hid ⟨HG0.out,Kept.refl _ _⟩⟩
  case round=>
   obtain ⟨j,hjg,rfl,HA⟩:=hrel
   by_cases hlt:(j:Int) < K
   ·have hj1:j < nums.length:=by have:=HKL.out;omega
    obtain ⟨a,ha,hid⟩:=HEV.out j (by rw [List.getElem?_eq_getElem hj1];simp)
    rw [getElem!_pos nums j hj1] at hid
    obtain ⟨a',c,hpl,hff,hq⟩:=H33.out a ha
    have hone:=zaz.one hq
    obtain ⟨pv,rfl,⟨hw1,hw2,hw3⟩,_,_,_⟩:=hq
    rw [hpl.1] at hw1 hff hone
    rw [hpl.2.1] at hw2 hff hone
    rw [hpl.2.2.1] at hw3 hff hone
    rw [hpl.2.2.2.1] at hff hone
    have kr:=HA.out.kept
    have hv:=HV.out
    rw [HKL.out] at hv
    have iv:=zbe (zaw hv fun g e=>kr.block g (hv.lt g e).2 (fun (q:g=lb)=>by have:=(hv.lt g e).1;omega))
    obtain ⟨pp,cc,e0,hcv⟩:=iv
    injection e0 with e1 e2 e3
    subst e1
    obtain ⟨g,off,rfl,hcj⟩:=hcv (by intro q;rw [q] at hj1;simp at hj1)
    have cj:wr.cell? ⟨g,off+j,none⟩=some (.int .i64 a.id):=by
     rw [hcj j hj1,hid]
     simp [hj1]
    have usr:wr.heap[s]?=some (.cells sc3 79 (0,0)):=(kr.block s (zaa us3) (fun q=>hls q.symm)).trans us3
    have hmr:=HM3.out.keep (kr.block mb HM3.out.lt (fun q=>hlm q.symm))
    have c0:=zac usr 1 q0
    have hki:keyOf Tryz.prog 2 (.int .i64 a.id)=some (.int .i64 a.id):=Go.Maps.keyOf_int_mk Tryz.underlying2 hw1
    obtain ⟨ways,hways⟩:∃ ways,ways=zee a.src a.dst:=⟨_,rfl⟩
    obtain ⟨m,hm⟩:∃ m,m=ways.length:=⟨_,rfl⟩
    have hpos:0 < ways.length:=by rw [hways];exact (zhy _ _).2
    have hle:ways.length≤4:=by rw [hways];exact (zhy _ _).1
    have etj:(nums.take (j+1)).flatMap (evE l)=(nums.take j).flatMap (evE l)++ways.map (fun p=>(mkW p,a.id)):=by
     have q:zdl l nums[j]=ways:=by rw [← hid,zfb HD.out ha,hways]
     rw [List.take_succ_eq_append_getElem hj1,List.flatMap_append]
     simp [evE,q,hid]
    have HWA:=Lib.hid (waysAt a.id a.src a.dst a.type pv · hw2 hw3)
    have HWF:Hid (∀ p∈ways,(Lit.int .i64 p.1).wf=true∧(Lit.int .i64 p.2).wf=true):=Lib.hid (by rw [hways];exact zo5 hw2 hw3)
    have HLV:=Lib.hid (And.intro hm (And.intro etj hle))
    have hm4:m≤4:=by omega
    have HWY:=Lib.hid hways
    clear hcv hcj hpl hv e2 e3 hid hw1 hw2 hw3 etj hle hways
    go_wp2_with (first
     |(at_lookup;refine zbs rfl _ _ 74 rfl 2 41 law2 Tryz.underlying74 (zo6 _) mb nn rfl hmr _ (.int .i64 a.id) rfl hki trivial ?_;rw [hff];simp only [Option.getD_some])
     |((with_reducible refine zah (.tmp 8) (.tmp 49) wr.heap.size 41 41 _ [.int .i64 a.id,.int .i64 a.src,.int .i64 a.dst,.string a.type,pv] 5 (zae _ _ rfl) rfl ?_ ?_ ?_ ?_ zan rfl hone ?_);rfl;rfl;rfl;rfl;intro wX oX u5)
     |((with_reducible refine zaf (.tmp 8) wr.heap.size 41 41 [.int .i64 a.id,.int .i64 a.src,.int .i64 a.dst,.string a.type,pv] 5 _ u5 rfl Tryz.underlying41 rfl zan ?_ ?_ ?_ ?_);rfl;rfl;rfl)
     |(go_at_call 83;(with_reducible refine (HWA.out _).mono ?_);rintro e w4 ⟨V,rfl,hV,hb4⟩;rw [← HWY.out] at hV;obtain ⟨gw,cw,rfl⟩:=own_ptr hV hpos;rw [← hm]))
    have bX:Below wr.heap.size wr wX:=zag (zas wr _) oX (Nat.le_refl _) (by simp)
    have b4:Below wr.heap.size wr w4:=bX.trans (hb4.mono bX.size)
    have t0:T3 gw (.slice (some ⟨gw,0,none⟩) ways.length cw) ways lb w3 ((nums.take j).flatMap (evE l)) w4:=⟨(HA.out.grp.shuns (No:=fun i=>i=gw) (fun g q=>by have:=(hV.lt gw rfl).1;have:=bX.size;have q':g=gw:=q;omega)).keep (fun i _ hi=>b4.block i hi),kr.below b4,zcd hV (by have:=kr.size;have:=bX.size;omega),(hV.lt gw rfl).2⟩
    have hHA0:Hid (T3 gw (.slice (some ⟨gw,0,none⟩) ways.length cw) ways lb w3 ((nums.take j).flatMap (evE l)++(ways.take 0).map (fun p=>(mkW p,a.id))) w4):=Lib.hid (by simpa using t0)
    have HJ:=Lib.hid hj1
    clear HA hmr usr c0 hff cj hki kr hj1 t0 bX b4 hV hb4 oX u5
    go_loopg [53] m (fun gg s53 wq=>∃ i:Nat,i+gg=m∧s53=.int .i64 i∧Hid (T3 gw (.slice (some ⟨gw,0,none⟩) ways.length cw) ways lb w3 ((nums.take j).flatMap (evE l)++(ways.take i).map (fun p=>(mkW p,a.id))) wq))
    case atStart=>exact ⟨0,by omega,rfl,hHA0⟩
    case round=>
     obtain ⟨i,hig,rfl,HA2⟩:=hrel
     by_cases hlt2:(i:Int) < m
     ·have hi1:i < ways.length:=by have:=HLV.out.1;omega
      have kq:=HA2.out.kept
      have hr:=zsx HA2.out.row i hi1
      obtain ⟨p,hp⟩:∃ p,p=ways[i]:=⟨_,rfl⟩
      have hpw:=HWF.out p (by rw [hp];exact List.getElem_mem hi1)
      rw [← hp] at hr
      have us:wr.heap[s]?=some (.cells sc3 79 (0,0)):=(kq.block s (zaa us3) (fun q=>hls q.symm)).trans us3
      obtain ⟨n2,f2,hn2,hm2,h32,h42,h52⟩:=HA2.out.grp
      obtain ⟨wy,hwy⟩:∃ wy,wy=mkW p:=⟨_,rfl⟩
      have hkey:=zo4 wy
      rw [show wy.1=p by rw [hwy];exact zwf hpw] at hkey
      obtain ⟨E,hE⟩:∃ E,E=(nums.take j).flatMap (evE l)++(ways.take i).map (fun p=>(mkW p,a.id)):=⟨_,rfl⟩
      have hEE:(nums.take j).flatMap (evE l)++(ways.take (i+1)).map (fun p=>(mkW p,a.id))=E++[(wy,a.id)]:=by
       rw [hE,List.take_succ_eq_append_getElem hi1,List.map_append,List.append_assoc,hwy,hp]
       rfl
      have hEl:E.length≤549755813888:=by
       have h1:=HEL.out j
       have h2:E.length≤((nums.take j).flatMap (evE l)).length+i:=by
        rw [hE,List.length_append,List.length_map]
        have:=List.length_take_le i ways
        omega
       have h3:=HLV.out.2.2
       have h4:=hKn.out
       omega
      rw [← hE] at hn2 h32 HA2
      obtain ⟨v0,hv0⟩:∃ v0,v0=(f2 (KW wy)).getD (.slice none 0 0):=⟨_,rfl⟩
      have hrow:=zez h32 wy
      rw [← hv0] at hrow
      have hs3:=zaa us3
      have hsrow:v0.ownBlock≠some s:=fun q=>by
       have:=(hrow.lt s q).1
       omega
      have hlrow:v0.ownBlock≠some lb:=fun q=>by
       have:=(hrow.lt lb q).1
       omega
      have hnrow:v0.ownBlock≠some wr.heap.size:=fun q=>by
       have:=(hrow.lt _ q).2
       omega
      have hwrow:v0.ownBlock≠some gw:=fun q=>by
       cases r:f2 (KW wy) with
       | none=>rw [hv0,r] at q;cases q
       | some v=>rw [hv0,r] at q;exact h52 wy v gw r q rfl
      have hnl:lb≠wr.heap.size:=fun q=>by have:=hm2.lt;omega
      have hrk:∀ i,v0.ownBlock=some i→i < w3.heap.size→i=lb:=fun i q hi=>by
       have:=(hrow.lt i q).1
       omega
      have HE:=Lib.hid (And.intro hn2 hEl)
      have HEE:=Lib.hid hEE
      have hgl:=zsw E wy
      have H32:=Lib.hid (And.intro h32 (And.intro h42 h52))
      have HV0:=Lib.hid hv0
      have HROW:=Lib.hid hrow
      clear hn2 hEl hEE h32 h42 h52 hE kq hrow hv0 hp hpw hwy
      obtain ⟨i0,hi,hz0,hz1,hz2⟩:=info_parts zd6
      go_upto_region 13 with (first
       |((with_reducible refine zav (.tmp 55) gw (i*2) 98 [.int .i64 p.1,.int .i64 p.2] 2 _ hr rfl Tryz.underlying98 rfl zsy ?_ ?_ ?_ ?_);rfl;rfl;rfl)
       |((with_reducible refine zah (.tmp 10) (.tmp 56) wr.heap.size 98 98 _ [.int .i64 p.1,.int .i64 p.2] 2 (zae _ _ rfl) rfl ?_ ?_ ?_ ?_ zsy rfl (by simp [Value.oneCell']) ?_);rfl;rfl;rfl;rfl;intro wX oX ux))
      have bX:Below wr.heap.size wr wX:=zag (zas wr _) oX (Nat.le_refl _) (by simp)
      have bXz:wr.heap.size < wX.heap.size:=zaa ux
      replace us:wX.heap[s]?=_:=(bX.block s (zaa us)).trans us
      refine wp_region_held_drew (S:=fun W=>W.heap[s]?=some (.cells sc3 79 (0,0))∧W.heap[wr.heap.size]?=some (.cells #[.int .i64 p.1,.int .i64 p.2] 98 (0,0))) (by kernel_rfl) ⟨us,ux⟩ (fun _=>?_)
      replace us:wX.drew.heap[s]?=_:=us
      replace ux:wX.drew.heap[wr.heap.size]?=_:=ux
      refine tg (i:=0) (.pointer (some ⟨s,0,none⟩)) rfl (⟨us,ux⟩) ?_
      refine tk (i:=4) (v:=.agg #[.int .i64 p.1,.int .i64 p.2]) rfl (yieldsIf_load_mid (by rfl) 98 (.tmp 10) rfl wr.heap.size 0 rfl [.int .i64 p.1,.int .i64 p.2] _ (fun W h=>zb4 h.2 0 _ rfl) Tryz.underlying98 rfl zsy) (⟨us,ux⟩) ?_
      refine tg (i:=5) (.int .i64 a.id) rfl (⟨us,ux⟩) ?_
      refine tg (i:=1) (.pointer (some ⟨s,0,none⟩)) rfl (⟨us,ux⟩) ?_
      refine tg (i:=2) (.pointer (some ⟨s,5,none⟩)) rfl (⟨us,ux⟩) ?_
      refine tk (i:=3) (v:=.map (some lb)) rfl (Or.inl ⟨by rfl,fun W h=>by have c0:=zac h.1 5 q4;go_simp⟩) (⟨us,ux⟩) ?_
      refine tr 6 rfl (fun K hK=>?_)
      rw [if_pos (by rfl)]
      go_simp
      have us5:((wX.alloc (.cells #[.int .i64 a.id] 2)).drew).heap[s]?=some (.cells sc3 79 (0,0)):=zar _ us
      have ux5:((wX.alloc (.cells #[.int .i64 a.id] 2)).drew).heap[wr.heap.size]?=some (.cells #[.int .i64 p.1,.int .i64 p.2] 98 (0,0)):=zar _ ux
      have b5:Below wr.heap.size wr (wX.alloc (.cells #[.int .i64 a.id] 2)).drew:=(bX.alloc bX.size _).drew
      obtain ⟨w5,hw5⟩:∃ w5,w5=(wX.alloc (.cells #[.int .i64 a.id] 2)).drew:=⟨_,rfl⟩
      have n5:∀ j u,[Value.int .i64 a.id][j]?=some u→w5.cell? ((⟨wX.heap.size,0,none⟩:Addr).add j)=some u:=by rw [hw5];exact cell_one_new wX _ _
      rw [← hw5] at us5 ux5 b5 ⊢
      clear hw5
      refine hK.out _ _ (⟨us5,ux5⟩) (fun _=>?_)
      clear hK K
      try simp only [putS]
      refine tr 7 rfl (fun K hK=>?_)
      rw [if_pos (by rfl)]
      obtain ⟨stm,wE,es1,cl1,hrun,hEb,hgE,hES⟩:=(hm2.keep (b5.block lb hm2.lt)).entry zwe Tryz.underlying76 (z:=.slice none 0 0) (fun u=>by kernel_rfl) (by have:=HE.out.1;have:=HE.out.2;unfold maxLen;omega) hkey trivial
      rw [← HV0.out] at hrun
      go_simp
      clear hrun
      have us6:=(hgE.block s (zaa us5) (fun q=>hls (Option.some.inj q).symm)).trans us5
      have ux6:=(hgE.block wr.heap.size (zaa ux5) (fun q=>hnl (Option.some.inj q).symm)).trans ux5
      have b6:∀ i,i < wr.heap.size→i≠lb→wE.heap[i]?=wr.heap[i]?:=fun i hi hne=>(hgE.block i (Nat.lt_of_lt_of_le hi b5.size) (fun q=>hne (Option.some.inj q))).trans (b5.block i hi)
      have s6:wr.heap.size≤wE.heap.size:=Nat.le_trans b5.size hgE.size
      have n6:∀ j u,[Value.int .i64 a.id][j]?=some u→wE.cell? ((⟨wX.heap.size,0,none⟩:Addr).add j)=some u:=fun j u hj=>zsz (n5 j u hj) hgE (fun q=>by have e2:lb=wX.heap.size:=Option.some.inj (q.trans (congrArg some (zs0 _ _)));have:=hm2.lt;omega)
      refine hK.out _ _ (⟨us6,ux6⟩) (fun _=>?_)
      clear hK K
      try simp only [putS]
      refine tg (i:=8) v0 rfl (⟨us6,ux6⟩) ?_
      refine tg (i:=10) (goInt stm) rfl (⟨us6,ux6⟩) ?_
      refine tr 9 rfl (fun K hK=>?_)
      rw [if_pos (by rfl)]
      refine zbf (P:=Tryz.prog) (w:=wE) (.tmp 62) (.tmp 64) 42 rfl w3.heap.size 2 i0 (.int .i64 0) 1 8 Tryz.underlying42 hi hz0 hz1 hz2 rfl (by decide) v0 (grp E wy).length ((grp E wy).map (Value.int .i64)) rfl (zaw HROW.out fun g q=>b6 g (HROW.out.lt g q).2 (fun r=>hlrow (by rw [q,r]))) ⟨wX.heap.size,0,none⟩ 1 1 [.int .i64 a.id] rfl rfl n6 (by simp [Value.oneCell']) (by have:=HE.out.2;unfold maxLen;omega) (by have:=HE.out.2;omega) (by have:=HA2.out.kept.size;omega) ?_
      intro v' w6 ho6 hg6 _ hloc6
      have us7:=(hg6.block s (zaa us6) (fun q=>hsrow q.symm)).trans us6
      have ux7:=(hg6.block wr.heap.size (zaa ux6) (fun q=>hnrow q.symm)).trans ux6
      have hb7:=(hg6.block lb (zaa hEb) (fun q=>hlrow q.symm)).trans hEb
      refine hK.out _ _ (⟨us7,ux7⟩) (fun _=>?_)
      clear hK K
      try simp only [putS]
      refine tr 11 rfl (fun K hK=>?_)
      rw [if_pos (by rfl)]
      obtain ⟨w7,hrun,hm7,hg7⟩:=hES w6 v' hb7
      refine zin (.tmp 60) (.tmp 67) (.tmp 66) 76 rfl rfl rfl rfl hrun ?_
      clear hrun
      have us8:=(hg7.block s (zaa us7) (fun q=>hls (Option.some.inj q).symm)).trans us7
      have ux8:=(hg7.block wr.heap.size (zaa ux7) (fun q=>hnl (Option.some.inj q).symm)).trans ux7
      refine hK.out _ _ (⟨us8,ux8⟩) (fun _=>?_)
      clear hK K
      try simp only [putS]
      refine wpAnyH_done (by kernel_rfl) ?_ _
      have gN:=zd1.add (w5:=wE) KW_inj (show lb < w3.heap.size by omega) HE.out.1 H32.out.1 H32.out.2.1 H32.out.2.2 s6 b6 ho6 (by rw [← HV0.out];exact hg6) (by rw [← HV0.out];exact hloc6) (fun q=>by have q':wE.heap.size=gw:=q;have:=HA2.out.lt;omega) hm7 hg7
      have k7:Kept (fun i=>i=lb) w3 w7:=(((HA2.out.kept.below b5).grown hgE (fun i q _=>(Option.some.inj q).symm)).grown hg6 hrk).grown hg7 (fun i q _=>(Option.some.inj q).symm)
      have r7:w7.ownsRow w3.heap.size 98 2 (.slice (some ⟨gw,0,none⟩) ways.length cw) ways.length (ze0 ways):=zcq (zcq (zaw HA2.out.row fun g q=>b6 g (HA2.out.row.lt g q).2 (by have:=(HA2.out.row.lt g q).1;omega)) hg6 (fun g q=>by have e:gw=g:=Option.some.inj q;rw [← e];exact hwrow)) hg7 (fun g q e=>by have e2:=Option.some.inj e;have:=(HA2.out.row.lt g q).1;omega)
      have acc:T3 gw (.slice (some ⟨gw,0,none⟩) ways.length cw) ways lb w3 (E++[(wy,a.id)]) w7:=⟨gN,k7,r7,by have:=HA2.out.lt;have:=hg6.size;have:=hg7.size;omega⟩
      rw [← HEE.out] at acc
      have ACC:=Lib.hid acc
      clear acc gN k7 r7 hm7 hg7 ho6 hg6 hloc6 b5 b6 us5 us6 us7 us8 ux5 ux6 ux7 ux8 n5 n6 hES hEb hgE hb7
      go_wp2_with fail
      go_roundg (gk - 1)
      case measure=>omega
      case rel=>exact ⟨i+1,by omega,by go_num,ACC⟩
     ·have e:ways.take i=ways:=by rw [List.take_of_length_le];have:=HLV.out.1;omega
      have hA2:=HA2.out
      rw [e,← HLV.out.2.1] at hA2
      have HX:=Lib.hid (T2.mk hA2.grp.is hA2.kept)
      clear hA2 HA2 e
      go_wp2_with fail
      go_roundg (K - j - 1)
      case measure=>omega
      case rel=>exact ⟨j+1,by omega,by go_num,HX⟩
   ·have e:nums.take j=nums:=by rw [List.take_of_length_le];have:=HKL.out;omega
    have hA:=HA.out
    rw [e] at hA
    have kr:=hA.kept
    have zlt:=zaa us3
    have fin:EPost w s mb lb sc l (.returned (.tuple #[])) wr:=by
     refine ⟨rfl,.slice pV K cV,wc.heap.size,w3.heap.size,(kr.block s zlt (fun q=>hls q.symm)).trans (by have h:=HSC.out;rw [← HKL.out] at h;rw [← h];exact us3),?_,zco.stays (P:=New w wc) ⟨nn,ff,HNN.out,HM3.out,H33.out,H4C.out⟩ (fun g hg=>⟨⟨hg.1,hg.2⟩,kr.block g (by have:=hg.2;omega) (fun (q:g=lb)=>by have:=hg.1;omega)⟩) (kr.block mb HM3.out.lt (fun q=>hlm q.symm)),?_,hkc,by omega,kr.size,fun g e=>(HV.out.lt g e).2,?_⟩
     ·rw [← HN.out]
      have:=HKL.out
      rw [← this]
      exact zaw HV.out fun g e=>kr.block g (HV.out.lt g e).2 (fun (q:g=lb)=>by have:=(HV.out.lt g e).1;omega)
     ·rw [← HN.out]
      exact hA.grp
     ·exact (HK3.out.more (fun i h=>by rcases h with h | h;exact .inr (.inl h);exact .inl h)).trans (kr.more (fun i h=>.inr (.inr h)) |>.weak HK3.out.size)
    have HF:=Lib.hid fin
    clear fin hA HA kr e
    go_wp2_with fail
    refine bodyPost_ret (results_none rfl _ _ _) rfl ?_
    exact HF.out
end Go.Proofs.YtcfmenkigolnoaaGreatDoor

/- GLD -/
namespace Go.Proofs.YtcfmenkigolnoaaGreatDoor
open Go.RowKit
theorem zcb.low {κ:Type} [DecidableEq κ] {kt:TypeId} {K:κ→Lit} {w:World} {base base' b:Nat} {E:List (κ × Int)} (h:zcb kt K w base b E) (k:base'≤base):zcb kt K w base' b E:=by
 obtain ⟨n,f,h1,h2,h3,h4⟩:=h
 refine ⟨n,f,h1,h2,fun x=>?_,h4⟩
 rcases h3 x with h | ⟨v,e,ho⟩
 ·exact .inl h
 ·exact .inr ⟨v,e,zcd ho k⟩
theorem zco.below {α:Type} {E:Elem α} {id:α→Int} {Pl:α→α→Prop} {w w':World} {b:Nat} {l:List α} (h:zco E id Pl w (Old w) b l) (k:Below w.heap.size w w'):zco E id Pl w' (Old w') b l:=by
 refine zco.stays h (zad k) ?_
 obtain ⟨n,f,_,hm,_⟩:=h
 exact k.block b hm.lt
structure zdh (w:World) (s:Nat) (g:zau):Prop where
 is:∃ m0 m1 m4 m5 V2 V3,w.heap[s]?=some (.cells #[.map (some m0),.map (some m1),V2,V3,.map (some m4),.map (some m5)] 79 (0,0))∧
  zco za4 zap.id ze5 w (Old w) m0 g.nodes∧zco zaz zat.id zek w (Old w) m1 g.edges∧
  w.ownsRow 0 2 1 V2 ((g.nodes.map zap.id).mergeSort leI).length (((g.nodes.map zap.id).mergeSort leI).map (Value.int .i64))∧
  w.ownsRow 0 2 1 V3 ((g.edges.map zat.id).mergeSort leI).length (((g.edges.map zat.id).mergeSort leI).map (Value.int .i64))∧
  zcb 9 Lit.string w 0 m4 (((g.nodes.map zap.id).mergeSort leI).flatMap (evN g.nodes))∧zcb 98 KW w 0 m5 (((g.edges.map zat.id).mergeSort leI).flatMap (evE g.edges))
theorem zdh.below {w w':World} {s:Nat} {g:zau} (h:zdh w s g) (b:Below w.heap.size w w'):zdh w' s g:=by
 obtain ⟨m0,m1,m4,m5,V2,V3,q0,q1,q2,q3,q4,q5,q6⟩:=h.is
 exact ⟨m0,m1,m4,m5,V2,V3,(b.block s (zaa q0)).trans q0,q1.below b,q2.below b,zaw q3 fun i e=>b.block i (q3.lt i e).2,zaw q4 fun i e=>b.block i (q4.lt i e).2,q5.keep fun i _ hi=>b.block i hi,q6.keep fun i _ hi=>b.block i hi⟩
structure zgo (base:Nat) (w:World) (s:Nat) (g:zau):Prop where
 is:∃ m0 m1 m4 m5 V2 V3,(base≤s∧base≤m0∧base≤m1∧base≤m4∧base≤m5)∧w.heap[s]?=some (.cells #[.map (some m0),.map (some m1),V2,V3,.map (some m4),.map (some m5)] 79 (0,0))∧
  zco za4 zap.id ze5 w (fun i=>base≤i∧i < w.heap.size) m0 g.nodes∧zco zaz zat.id zek w (fun i=>base≤i∧i < w.heap.size) m1 g.edges∧
  w.ownsRow base 2 1 V2 ((g.nodes.map zap.id).mergeSort leI).length (((g.nodes.map zap.id).mergeSort leI).map (Value.int .i64))∧
  w.ownsRow base 2 1 V3 ((g.edges.map zat.id).mergeSort leI).length (((g.edges.map zat.id).mergeSort leI).map (Value.int .i64))∧
  zcb 9 Lit.string w base m4 (((g.nodes.map zap.id).mergeSort leI).flatMap (evN g.nodes))∧zcb 98 KW w base m5 (((g.edges.map zat.id).mergeSort leI).flatMap (evE g.edges))
theorem zgo.store {base:Nat} {w:World} {s:Nat} {g:zau} (h:zgo base w s g):zdh w s g:=by
 obtain ⟨m0,m1,m4,m5,V2,V3,_,q0,q1,q2,q3,q4,q5,q6⟩:=h.is
 exact ⟨m0,m1,m4,m5,V2,V3,q0,zco.stays q1 (fun i hi=>⟨hi.2,rfl⟩) rfl,zco.stays q2 (fun i hi=>⟨hi.2,rfl⟩) rfl,zcd q3 (Nat.zero_le _),zcd q4 (Nat.zero_le _),q5.low (Nat.zero_le _),q6.low (Nat.zero_le _)⟩
theorem zco.lt {α:Type} {E:Elem α} {id:α→Int} {Pl:α→α→Prop} {w:World} {P:Nat→Prop} {b:Nat} {l:List α} (h:zco E id Pl w P b l):b < w.heap.size:=by
 obtain ⟨n,f,_,hm,_⟩:=h
 exact hm.lt
theorem zgo.keep {base:Nat} {w w':World} {s:Nat} {g:zau} (h:zgo base w s g) (hs:∀ i,base≤i→i < w.heap.size→w'.heap[i]?=w.heap[i]?) (hz:w.heap.size≤w'.heap.size):zgo base w' s g:=by
 obtain ⟨m0,m1,m4,m5,V2,V3,qb,q0,q1,q2,q3,q4,q5,q6⟩:=h.is
 have st:zc9 (fun i=>base≤i∧i < w.heap.size) (fun i=>base≤i∧i < w'.heap.size) w w':=fun i hi=>⟨⟨hi.1,Nat.lt_of_lt_of_le hi.2 hz⟩,hs i hi.1 hi.2⟩
 exact ⟨m0,m1,m4,m5,V2,V3,qb,(hs s qb.1 (zaa q0)).trans q0,zco.stays q1 st (hs m0 qb.2.1 q1.lt),zco.stays q2 st (hs m1 qb.2.2.1 q2.lt),zaw q3 fun i e=>hs i (q3.lt i e).1 (q3.lt i e).2,zaw q4 fun i e=>hs i (q4.lt i e).1 (q4.lt i e).2,
  q5.keep fun i hi hl=>hs i (by have:=qb.2.2.2.1;omega) hl,q6.keep fun i hi hl=>hs i (by have:=qb.2.2.2.2;omega) hl⟩
theorem zbg:(Tryz.prog.info? 25).map (·.size)=some 2:=by kernel_rfl
def LPostB (W:World) (g:zau) (e:Ending) (w':World):Prop:=
 Below W.heap.size W w'∧(if zdt g=true then ∃ s,e=.returned (.tuple #[.pointer (some ⟨s,0,none⟩),.int .i64 0])∧zgo W.heap.size w' s g else e=.returned (.tuple #[.pointer none,.int .i64 21]))
def LPost (W:World) (g:zau) (e:Ending) (w':World):Prop:=
 Below W.heap.size W w'∧(if zdt g=true then ∃ s,e=.returned (.tuple #[.pointer (some ⟨s,0,none⟩),.int .i64 0])∧zdh w' s g else e=.returned (.tuple #[.pointer none,.int .i64 21]))
set_option maxHeartbeats 6400000 in
set_option maxRecDepth 20000 in
theorem loadB (g:zau) (vn ve:Value) (W:World) (hG:Gd W) (hn:zak za4 W (Old W) vn g.nodes) (he:zak zaz W (Old W) ve g.edges) (hn1:g.nodes.length≤2097152) (hn2:g.edges.length≤2097152):
 Calls Tryz.prog 11 #[.agg #[vn,ve]] W (LPostB W g):=by
 have hn0:=hn
 have he0:=he
 obtain ⟨p1,cap1,rfl⟩:=hn0.slice
 obtain ⟨p2,cap2,rfl⟩:=he0.slice
 obtain ⟨n1,hl1⟩:∃ n,n=g.nodes.length:=⟨_,rfl⟩
 obtain ⟨n2,hl2⟩:∃ n,n=g.edges.length:=⟨_,rfl⟩
 rw [← hl1] at hn
 rw [← hl2] at he
 rw [← hl1,← hl2]
 have u1:(W.alloc (.cells #[.slice p1 n1 cap1,.slice p2 n2 cap2] 25)).heap[W.heap.size]?=some (.cells #[.slice p1 n1 cap1,.slice p2 n2 cap2] 25 (0,0)):=zae _ _ rfl
 have b0:=zas W (.cells #[.slice p1 n1 cap1,.slice p2 n2 cap2] 25)
 obtain ⟨W0,hW0⟩:∃ W0,W0=W.alloc (.cells #[.slice p1 n1 cap1,.slice p2 n2 cap2] 25):=⟨_,rfl⟩
 rw [← hW0] at u1 b0
 have H0:=Lib.hid hW0
 obtain ⟨r,hr⟩:∃ r,r=zdt g:=⟨_,rfl⟩
 have HM:Hid (Calls Tryz.prog 36 #[.agg #[.slice p1 n1 cap1,.slice p2 n2 cap2]] W0 fun e w'=>e=.returned (.bool r)∧Below W0.heap.size W0 w'):=Lib.hid (by rw [hr];exact zp2 g _ _ W0 (hG.below b0) (hn.stays (zad b0)) (he.stays (zad b0)) hn1 hn2)
 have HN:=Lib.hid hn
 have HE:=Lib.hid he
 have HR:=Lib.hid hr
 have HL:=Lib.hid (And.intro hl1 hl2)
 clear hn he hr hG hW0 hl1 hl2 hn1 hn2 hn0 he0
 cases r with
 | false=>
   go_enter Tryz.func11,Tryz.ntmps11
   go_upto_region 1 with fail
   rw [← H0.out]
   go_wp2_with (first
    |((with_reducible refine zaf (.tmp 1) W.heap.size 25 25 [.slice p1 n1 cap1,.slice p2 n2 cap2] 2 _ u1 rfl Tryz.underlying25 rfl zbg ?_ ?_ ?_ ?_);rfl;rfl;rfl)
    |(go_at_call 36;(with_reducible refine HM.out.mono ?_);rintro e w1 ⟨rfl,hb1⟩;have b1:=zab b0 hb1 b0.size))
   refine bodyPost_ret (results_tmp2 rfl _ _ _) rfl ?_
   refine ⟨b1,?_⟩
   rw [← HR.out,if_neg (by simp)]
   try rfl
 | true=>
   have hmm:=@run_makeMap Tryz.prog
   go_enter Tryz.func11,Tryz.ntmps11
   go_upto_region 1 with fail
   rw [← H0.out]
   go_upto_region 4 with (first
    |((with_reducible refine zaf (.tmp 1) W.heap.size 25 25 [.slice p1 n1 cap1,.slice p2 n2 cap2] 2 _ u1 rfl Tryz.underlying25 rfl zbg ?_ ?_ ?_ ?_);rfl;rfl;rfl)
    |(go_at_call 36;(with_reducible refine HM.out.mono ?_);rintro e w1 ⟨rfl,hb1⟩;have b1:=zab b0 hb1 b0.size;replace u1:=(hb1.block _ (zaa u1)).trans u1))
   have HW1:=Lib.hid (zaa u1)
   have hgp:=HR.out.symm
   unfold zdt at hgp
   simp only [Bool.and_eq_true,decide_eq_true_eq] at hgp
   obtain ⟨⟨⟨⟨⟨hl1,hl2⟩,hd1⟩,hd2⟩,_⟩,_⟩:=hgp
   obtain ⟨m,hm⟩:∃ m,m=w1.heap.size:=⟨_,rfl⟩
   have u2:(((((w1.alloc (.map #[] 0)).alloc (.map #[] 0)).alloc (.map #[] 0)).alloc (.map #[] 0)).alloc (.cells #[.map (some w1.heap.size),.map (some (w1.heap.size+1)),.slice none 0 0,.slice none 0 0,.map (some (w1.heap.size+1+1)),.map (some (w1.heap.size+1+1+1))] 79)).heap[w1.heap.size+1+1+1+1]?=some (.cells #[.map (some w1.heap.size),.map (some (w1.heap.size+1)),.slice none 0 0,.slice none 0 0,.map (some (w1.heap.size+1+1)),.map (some (w1.heap.size+1+1+1))] 79 (0,0)):=zae _ _ (by simp)
   have z2:(((((w1.alloc (.map #[] 0)).alloc (.map #[] 0)).alloc (.map #[] 0)).alloc (.map #[] 0)).alloc (.cells #[.map (some w1.heap.size),.map (some (w1.heap.size+1)),.slice none 0 0,.slice none 0 0,.map (some (w1.heap.size+1+1)),.map (some (w1.heap.size+1+1+1))] 79)).heap.size=w1.heap.size+1+1+1+1+1:=by simp
   have g0:(((((w1.alloc (.map #[] 0)).alloc (.map #[] 0)).alloc (.map #[] 0)).alloc (.map #[] 0)).alloc (.cells #[.map (some w1.heap.size),.map (some (w1.heap.size+1)),.slice none 0 0,.slice none 0 0,.map (some (w1.heap.size+1+1)),.map (some (w1.heap.size+1+1+1))] 79)).heap[w1.heap.size]?=some (.map #[] 0):=zar _ (zar _ (zar _ (zar _ (zae _ _ rfl))))
   have g1:(((((w1.alloc (.map #[] 0)).alloc (.map #[] 0)).alloc (.map #[] 0)).alloc (.map #[] 0)).alloc (.cells #[.map (some w1.heap.size),.map (some (w1.heap.size+1)),.slice none 0 0,.slice none 0 0,.map (some (w1.heap.size+1+1)),.map (some (w1.heap.size+1+1+1))] 79)).heap[w1.heap.size+1]?=some (.map #[] 0):=zar _ (zar _ (zar _ (zae _ _ (by simp))))
   have g2:(((((w1.alloc (.map #[] 0)).alloc (.map #[] 0)).alloc (.map #[] 0)).alloc (.map #[] 0)).alloc (.cells #[.map (some w1.heap.size),.map (some (w1.heap.size+1)),.slice none 0 0,.slice none 0 0,.map (some (w1.heap.size+1+1)),.map (some (w1.heap.size+1+1+1))] 79)).heap[w1.heap.size+1+1]?=some (.map #[] 0):=zar _ (zar _ (zae _ _ (by simp)))
   have g3:(((((w1.alloc (.map #[] 0)).alloc (.map #[] 0)).alloc (.map #[] 0)).alloc (.map #[] 0)).alloc (.cells #[.map (some w1.heap.size),.map (some (w1.heap.size+1)),.slice none 0 0,.slice none 0 0,.map (some (w1.heap.size+1+1)),.map (some (w1.heap.size+1+1+1))] 79)).heap[w1.heap.size+1+1+1]?=some (.map #[] 0):=zar _ (zae _ _ (by simp))
   have k2:Below w1.heap.size w1 (((((w1.alloc (.map #[] 0)).alloc (.map #[] 0)).alloc (.map #[] 0)).alloc (.map #[] 0)).alloc (.cells #[.map (some w1.heap.size),.map (some (w1.heap.size+1)),.slice none 0 0,.slice none 0 0,.map (some (w1.heap.size+1+1)),.map (some (w1.heap.size+1+1+1))] 79)):=(((((Below.refl _ _).alloc (by simp) _).alloc (by simp) _).alloc (by simp;omega) _).alloc (by simp;omega) _).alloc (by simp;omega) _
   obtain ⟨w2,hw2⟩:∃ w2,w2=(((((w1.alloc (.map #[] 0)).alloc (.map #[] 0)).alloc (.map #[] 0)).alloc (.map #[] 0)).alloc (.cells #[.map (some w1.heap.size),.map (some (w1.heap.size+1)),.slice none 0 0,.slice none 0 0,.map (some (w1.heap.size+1+1)),.map (some (w1.heap.size+1+1+1))] 79)):=⟨_,rfl⟩
   rw [← hw2] at u2 z2 g0 g1 g2 g3 k2 ⊢
   clear hw2
   replace u1:=(k2.block _ (zaa u1)).trans u1
   have hWm:W.heap.size < m:=by rw [hm];exact HW1.out
   rw [← hm] at u2 z2 g0 g1 g2 g3 k2 ⊢
   have b2:Below W.heap.size W w2:=b1.trans (k2.mono (by rw [hm];exact b1.size))
   have HTN:=Lib.hid (znz W.heap.size (m+1+1+1+1) m (m+1+1) _ g.nodes (.slice p1 n1 cap1) w2 u2 rfl rfl rfl g0 g2 (by omega) (by omega) (HN.out.stays fun i hi=>⟨hi,b2.block i hi⟩) hd1 hl1)
   have HD2:=Lib.hid (And.intro hd2 hl2)
   have c0:=zac u1 0 rfl
   have hbW:=b2.size
   clear hd1 hl1 hd2 hl2 b1 hb1 k2 g0 b0 hm
   go_upto_region 5 with (first
    |(go_at_call 37;(with_reducible refine HTN.out.mono ?_);rintro e w3 ⟨rfl,V2,N1,N3,u3,hV2,hA,hG,hN1,hN13,hN3,hVN,k3⟩))
   replace u3:w3.heap[m+1+1+1+1]?=some (.cells #[.map (some m),.map (some (m+1)),V2,.slice none 0 0,.map (some (m+1+1)),.map (some (m+1+1+1))] 79 (0,0)):=u3
   replace u1:=(k3.block _ (zaa u1) (by omega)).trans u1
   replace g1:=(k3.block _ (zaa g1) (by omega)).trans g1
   replace g3:=(k3.block _ (zaa g3) (by omega)).trans g3
   have b3:Below W.heap.size W w3:=b2.trans (k3.low hbW (fun i hi=>by omega))
   have HTE:=Lib.hid (zn0 W.heap.size (m+1+1+1+1) (m+1) (m+1+1+1) _ g.edges (.slice p2 n2 cap2) w3 u3 rfl rfl rfl g1 g3 (by omega) (by omega) (HE.out.stays fun i hi=>⟨hi,b3.block i hi⟩) HD2.out.1 HD2.out.2)
   have c1:=zac u1 1 rfl
   have HX:=Lib.hid (And.intro hV2 (And.intro hA (And.intro hG hVN)))
   have hb3:=b3.size
   have hs3:=k3.size
   clear hV2 hA hG hVN g1 g2 g3 c0 u2 k3 b2
   go_wp2_with (first
    |(go_at_call 38;(with_reducible refine HTE.out.mono ?_);rintro e w4 ⟨rfl,V3,N5,N7,u4,hV3,hA3,hG3,hN5,hN57,hN7,hVN3,k4⟩))
   refine bodyPost_ret (results_tmp2 rfl _ _ _) rfl ?_
   obtain ⟨hV2,hA,hG,hVN⟩:=HX.out
   have hs4:=k4.size
   have l0:m < w3.heap.size:=by omega
   have low:∀ i,i < w3.heap.size→(i≤m∨i=m+1+1∨w2.heap.size≤i)→w4.heap[i]?=w3.heap[i]?:=fun i hi h=>k4.block i hi (by omega)
   refine ⟨b3.trans (k4.low hb3 (fun i hi=>by omega)),?_⟩
   rw [← HR.out,if_pos rfl]
   refine ⟨_,rfl,⟨m,m+1,m+1+1,m+1+1+1,V2,V3,⟨by omega,by omega,by omega,by omega,by omega⟩,u4,?_,?_,?_,?_,?_,?_⟩⟩
   ·exact zco.stays hA (fun i hi=>⟨⟨(by have:=hi.1;omega),(by have:=hi.2;omega)⟩,low i (by have:=hi.2;omega) (.inr (.inr hi.1))⟩) (low m l0 (.inl (Nat.le_refl _)))
   ·exact zco.stays hA3 (fun i hi=>⟨⟨(by have:=hi.1;omega),(by have:=hi.2;omega)⟩,rfl⟩) rfl
   ·exact zcd (zaw hV2 fun i e=>low i (hV2.lt i e).2 (.inr (.inr (by have:=(hV2.lt i e).1;omega)))) (by omega)
   ·exact zcd hV3 (by omega)
   ·exact (hG.keep fun i hi hl=>low i hl (by rcases hi with h | h;exact .inr (.inl h);exact .inr (.inr (by omega)))).low (by omega)
   ·exact hG3.low (by omega)
theorem loadAt (g:zau) (vn ve:Value) (W:World) (hG:Gd W) (hn:zak za4 W (Old W) vn g.nodes) (he:zak zaz W (Old W) ve g.edges) (hn1:g.nodes.length≤2097152) (hn2:g.edges.length≤2097152):
 Calls Tryz.prog 11 #[.agg #[vn,ve]] W (LPost W g):=by
 refine (loadB g vn ve W hG hn he hn1 hn2).mono ?_
 rintro e w' ⟨hb,h⟩
 refine ⟨hb,?_⟩
 by_cases hp:zdt g=true
 ·rw [if_pos hp] at h ⊢
  obtain ⟨s,e,hs⟩:=h
  exact ⟨s,e,hs.store⟩
 ·rw [if_neg hp] at h ⊢
  exact h
end Go.Proofs.YtcfmenkigolnoaaGreatDoor

/- GPR -/
namespace Go.Proofs.YtcfmenkigolnoaaGreatDoor
open Go.RowKit
def zn1 (g:zau) (k n:Int) (l:List zax):Prop:=
 if k=6 then (∃ a∈g.nodes,a.id=n∧zej a.props l)∨((∀ a∈g.nodes,a.id≠n)∧l=[])
 else if k=7 then (∃ a∈g.edges,a.id=n∧zej a.props l)∨((∀ a∈g.edges,a.id≠n)∧l=[])
 else l=[]
end Go.Proofs.YtcfmenkigolnoaaGreatDoor

/- GBS -/
namespace Go.Proofs.YtcfmenkigolnoaaGreatDoor
open Go.RowKit
theorem zfp {P:Program} {ops:Array Oper} {rest:List Oper} {o:Oper} {a:Act} {w:World} {Q:Exit→Act→World→Prop} (y:Operand) (g off:Nat) (ty:TypeId) (cs:List Value) (k:Nat) (d:TypeDesc) (hr:w.rangeAt g off cs) (hk:cs.length=k)
 (hu:P.underlying ty=some d) (hd:d.isRow=true) (hi:(P.info? ty).map (·.size)=some k) (hw:Region.wanted o (yielded ops a.tmps)=true) (ho:o.op=.load ty y) (hx:a.eval y=.pointer (some ⟨g,off,none⟩))
 (h:wpList P ops Q rest (a.put o.dst (.agg cs.toArray)) w):wpList P ops Q (o::rest) a w:=by
 unfold wpList
 rw [if_pos hw]
 exact .inl (wp_load_mid ty y ho g off hx cs d hr hu hd (by rw [hi,hk]) h)
end Go.Proofs.YtcfmenkigolnoaaGreatDoor

/- GPP -/
namespace Go.Proofs.YtcfmenkigolnoaaGreatDoor
open Go.RowKit
theorem zn1.sorted {g:zau} {k n:Int} {l:List zax} (h:zn1 g k n l):l.Pairwise (fun x y=>leT x.key y.key=true):=by
 unfold zn1 at h
 split at h
 ·rcases h with ⟨_,_,_,h⟩ | ⟨_,rfl⟩
  ·exact h.2
  ·exact List.Pairwise.nil
 ·split at h
  ·rcases h with ⟨_,_,_,h⟩ | ⟨_,rfl⟩
   ·exact h.2
   ·exact List.Pairwise.nil
  ·subst h
   exact List.Pairwise.nil
theorem zgc {w:World} {g o:Nat} {x:Value} {c:List Value} (h:w.rangeAt g o (x::c)):w.rangeAt g (o+1) c:=fun j u hj=>by
 have:=h (j+1) u (by simpa using hj)
 rwa [show o+1+j=o+(j+1) by omega]
end Go.Proofs.YtcfmenkigolnoaaGreatDoor

/- GLT -/
namespace Go.Proofs.YtcfmenkigolnoaaGreatDoor
open Go.RowKit
theorem zfq {x:Int} (h0:-9223372036854775808≤x) (h1:x < 9223372036854775808):IntKind.i64.wrap x=x:=by
 have e1:(2:Int) ^ IntKind.i64.bits=18446744073709551616:=by decide
 have e2:(2:Int) ^ (IntKind.i64.bits - 1)=9223372036854775808:=by decide
 have e3:IntKind.i64.signed=true:=rfl
 unfold IntKind.wrap
 simp only [e1,e2,e3,Bool.true_and,decide_eq_true_eq]
 split <;> omega
end Go.Proofs.YtcfmenkigolnoaaGreatDoor
