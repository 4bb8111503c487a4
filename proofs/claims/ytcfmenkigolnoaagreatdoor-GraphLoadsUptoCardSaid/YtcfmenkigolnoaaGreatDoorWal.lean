/- Texts of one kind, one behind the other: each says ahead of itself what it shows. -/
import Derived.Test.YtcfmenkigolnoaaGreatDoorWak
/- GN -/
namespace Go.Proofs.YtcfmenkigolnoaaGreatDoor
open Go.RowKit
def zdd (l:List zap) (i:Int):List ByteArray:=((l.find? fun a=>decide (a.id=i)).map fun a=>sortS a.labels).getD []
def evN (l:List zap) (i:Int):List (List UInt8 × Int):=(zdd l i).map fun t=>(bl t,i)
theorem zfa {l:List zap} (h:(l.map zap.id).Nodup) {a:zap} (ha:a∈l):zdd l a.id=sortS a.labels:=by
 have e:l.find? (fun b=>decide (b.id=a.id))=some a:=by
  induction l with
  | nil=>cases ha
  | cons b l ih=>
    rw [List.find?_cons]
    rw [List.map_cons,List.nodup_cons] at h
    by_cases q:b.id=a.id
    ·rcases List.mem_cons.1 ha with r | r
     ·subst r;simp
     ·exact absurd (List.mem_map_of_mem (f:=zap.id) r) (by rw [← q];exact h.1)
    ·rcases List.mem_cons.1 ha with r | r
     ·subst r;exact absurd rfl q
     ·simp only [q,decide_false]
      exact ih h.2 r
 unfold zdd
 rw [e]
 rfl
theorem Kept.more {F G:Nat→Prop} {a b:World} (h:Kept F a b) (k:∀ i,F i→G i):Kept G a b:=⟨h.os,h.tape,h.output,h.size,fun i hi hg=>h.block i hi fun q=>hg (k i q)⟩
theorem field38 (x z:Value) (p:Option Addr) (n c:Nat) (w:World):(Instr.field 38 (.agg #[x,.slice p n c,z]) 1).run Tryz.prog w=.ok (.slice p n c) w:=by kernel_rfl
theorem Kept.weak {F:Nat→Prop} {a b c:World} (h:Kept F b c) (_:a.heap.size≤b.heap.size):Kept F b c:=h
theorem zgb {α β:Type} (f:α→List β) (M:Nat):(L:List α)→(∀ x∈L,(f x).length≤M)→(L.flatMap f).length≤L.length*M
 | [],_=>by simp
 | x::L,h=>by
   rw [List.flatMap_cons,List.length_append,List.length_cons,Nat.add_mul]
   have h1:=h x (by simp)
   have h2:=zgb f M L fun y hy=>h y (by simp [hy])
   omega
theorem zbf {P:Program} {o:Oper} {a:Act} {w:World} {K:Act→World→Prop} {Q:Exit→Act→World→Prop} (s x:Operand) (t:TypeId) (ho:o.op=.call { callee:=.builtin .append,args:=#[s,x],argTypes:=#[t,t] })
 (base:Nat) (e:TypeId) (i:TypeInfo) (z:Value) (size bytes:Nat) (ht:P.underlying t=some (.slice e)) (hi:P.info? e=some i) (hz:i.zero=some z) (hsize:i.size=size) (hby:i.bytes=bytes) (hzs:z.cells.size=size) (hsz:0 < size)
 (v:Value) (n:Nat) (xs:List Value) (hs:a.eval s=v) (hown:w.ownsRow base e size v n xs) (ad:Addr) (m c:Nat) (news:List Value) (hx:a.eval x=.slice (some ad) m c) (hl:news.length=m*size) (hnews:∀ j u,news[j]?=some u→w.cell? (ad.add j)=some u) (h1:∀ u∈news,u.oneCell'=true)
 (h63:n+m≤maxLen) (hbytes:(n+m)*bytes≤140737488355328) (hbase:base≤w.heap.size)
 (h:∀ v' w',w'.ownsRow base e size v' (n+m) (xs++news)→w.grownBy w' v.ownBlock→(v'=.slice none 0 0↔v=.slice none 0 0∧m=0)→(v'.ownBlock=v.ownBlock∨v'.ownBlock=some w.heap.size)→K (a.put o.dst v') w'):o.wp P a w K Q:=by
 obtain ⟨v',w',hr,h2,h3,h4,h5⟩:=run_append_own_at (P:=P) w base t o.type e i z size bytes ht hi hz hsize hby hzs hsz v n xs hown ad m c news hl hnews h1 h63 hbytes hbase
 unfold Oper.wp execOp
 simp only [ho,resolve,invoke,builtin,Sem.run_bind,Sem.run_pure,Result.andThen_ok,List.map_toArray,List.map_cons,List.map_nil,hs,hx,hr]
 exact h v' w' h2 h3 h4 h5
theorem zi5:∀ x y,Lit.string x=Lit.string y→x=y:=fun x y e=>by injection e
def NPost (w:World) (s mb lb:Nat) (sc:Array Value) (l:List zap) (e:Ending) (w':World):Prop:=
 e=.returned (.tuple #[])∧∃ V N1 N3,w'.heap[s]?=some (.cells (sc.setIfInBounds 2 V) 79 (0,0))∧w'.ownsRow (N1+1) 2 1 V ((l.map zap.id).mergeSort leI).length (((l.map zap.id).mergeSort leI).map (Value.int .i64))∧
  zco za4 zap.id ze5 w' (fun g=>w.heap.size≤g∧g < N1) mb l∧zcb 9 Lit.string w' N3 lb (((l.map zap.id).mergeSort leI).flatMap (evN l))∧w.heap.size≤N1∧N1≤N3∧N3≤w'.heap.size∧(∀ g,V.ownBlock=some g→g < N3)∧Kept (fun i=>i=s∨i=mb∨i=lb) w w'
structure T2 {κ:Type} [DecidableEq κ] (kt:TypeId) (K:κ→Lit) (b:Nat) (w:World) (E:List (κ × Int)) (wr:World):Prop where
 grp:zcb kt K wr w.heap.size b E
 kept:Kept (fun i=>i=b) w wr
set_option maxHeartbeats 6400000 in
set_option maxRecDepth 20000 in
theorem znz (B s mb lb:Nat) (sc:Array Value) (l:List zap) (v:Value) (w:World) (hs:w.heap[s]?=some (.cells sc 79 (0,0))) (h0:sc[0]?=some (.map (some mb))) (h2:sc[2]?=some (.slice none 0 0)) (h4:sc[4]?=some (.map (some lb))) (hm:w.heap[mb]?=some (.map #[] 0)) (hlb:w.heap[lb]?=some (.map #[] 0)) (hlm:lb≠mb) (hB:B≤mb) (hl:zak za4 w (fun g=>g < B) v l) (hnd:(l.map zap.id).Nodup) (hn:l.length≤131072):
 Calls Tryz.prog 37 #[.pointer (some ⟨s,0,none⟩),v] w (NPost w s mb lb sc l):=by
 obtain ⟨n,hln⟩:∃ n,n=l.length:=⟨_,rfl⟩
 obtain ⟨p,cap,rfl⟩:=hl.slice
 rw [← hln] at hn
 have hsb:s≠mb:=fun e=>by subst e;rw [hs] at hm;cases hm
 have HL:=Lib.hid hln
 have HH:=Lib.hid hl
 have HD:=Lib.hid hnd
 have hls:lb≠s:=fun e=>by subst e;rw [hs] at hlb;cases hlb
 have hlbl:=zaa hlb
 have HLB:=Lib.hid hlb
 clear hlb
 have HM:=Lib.hid hm
 have hmb:=zaa hm
 have hsl:=zaa hs
 have HB:Hid (B≤mb∧B≤w.heap.size):=Lib.hid ⟨hB,by omega⟩
 rw [← hln]
 clear hln hl hnd hm hB
 go_enter Tryz.func37,Tryz.ntmps37
 go_upto_block 0 with fail
 go_cut [12] (fun s12 wx=>Hid (T1 za4 zap.id ze5 mb w l wx))
 case first=>
  go_wp2_with fail
  go_loopg [12] n (fun gg s12 wr=>∃ j:Nat,j+gg=n∧s12=.int .i64 j∧Hid (T1 za4 zap.id ze5 mb w (l.take j) wr))
  case atStart=>exact ⟨0,by omega,rfl,Lib.hid ⟨zco.start HM.out,Kept.refl _ _⟩⟩
  case round=>
   obtain ⟨j,hjg,rfl,HA⟩:=hrel
   by_cases hlt:(j:Int) < n
   ·have hj1:j < l.length:=by have:=HL.out;omega
    have hbel:=HA.out.kept
    have st:zc9 (fun g=>g < B) (fun g=>g < B) w wr:=fun g hg=>⟨hg,hbel.block g (by have:=HB.out.2;omega) (fun (e:g=mb)=>by have:=HB.out.1;omega)⟩
    obtain ⟨g,off,cap',c,e0,hg,hrl,hra⟩:=(HH.out.stays st).at_ j hj1
    injection e0 with e1 e2 e3
    subst e1
    replace hra:wr.rangeAt g (off+j*3) c:=hra
    have hlen:c.length=3:=za4.len hrl
    have hone:=za4.one hrl
    have etk:l.take (j+1)=l.take j++[l[j]]:=List.take_succ_eq_append_getElem hj1
    have hnew:∀ x∈l.take j,zap.id x≠zap.id l[j]:=zgn HD.out hj1
    have HR:=Lib.hid (And.intro hrl hra)
    clear e2 e3
    go_upto_region 3 with (first
     |((with_reducible refine zav (.tmp 14) g (off+j*3) 38 c 3 _ HR.out.2 hlen Tryz.underlying38 rfl zal ?_ ?_ ?_ ?_);rfl;rfl;rfl)
     |((with_reducible refine zah (.tmp 5) (.tmp 15) wr.heap.size 38 38 _ c 3 (zae _ _ rfl) hlen ?_ ?_ ?_ ?_ zal rfl hone ?_);rfl;rfl;rfl;rfl;intro wX oX u5))
    have bX:Below wr.heap.size wr wX:=zag (zas wr _) oX (Nat.le_refl _) (by simp)
    have bX2:=bX.drew
    have us:wX.heap[s]?=some (.cells sc 79 (0,0)):=(bX.block s (Nat.lt_of_lt_of_le hsl hbel.size)).trans ((hbel.block s hsl hsb).trans hs)
    have HC:Hid (∀ W,Below wr.heap.size wr W→Calls Tryz.prog 78 #[.agg c.toArray] W fun e w'=>∃ a',ze5 l[j] a'∧∃ c',e=.returned (.agg c'.toArray)∧za4.rel w' (New W w') c' a'∧Below W.heap.size W w'):=
     Lib.hid fun W hb=>znx l[j] W c (za4.stays (fun i hi=>⟨Nat.lt_of_lt_of_le (by have:=HB.out.2;have:=hbel.size;omega) hb.size,hb.block i (by have:=HB.out.2;have:=hbel.size;omega)⟩) hrl)
    obtain ⟨nn,ff,hnn,hmap,h3,h4⟩:=HA.out.all
    have hnl:nn≤j:=by
     have:=List.length_take_le j l
     omega
    have hnb:wr.heap.size≠mb:=fun e=>by have:=hmap.lt;omega
    have HK:=Lib.hid (And.intro hbel (And.intro hnn (And.intro h3 (And.intro h4 hnew))))
    obtain ⟨lv,pv,rfl,hwf,_,_,_,_⟩:=hrl
    have HID:=Lib.hid hwf
    clear hnn h3 h4 hnew HR oX bX hra HA hone
    refine wp_region_held_drew (S:=fun W=>W.heap[s]?=some (.cells sc 79 (0,0))∧W.heap[wr.heap.size]?=some (.cells #[.int .i64 l[j].id,lv,pv] 38 (0,0))) (by kernel_rfl) ⟨us,u5⟩ (fun _=>?_)
    replace us:wX.drew.heap[s]?=_:=us
    replace u5:wX.drew.heap[wr.heap.size]?=_:=u5
    refine tg (i:=0) (.pointer (some ⟨s,0,none⟩)) rfl (⟨us,u5⟩) ?_
    refine tg (i:=4) (.pointer (some ⟨wr.heap.size,0,none⟩)) rfl (⟨us,u5⟩) ?_
    refine tk (i:=6) (v:=.agg #[.int .i64 l[j].id,lv,pv]) rfl (yieldsIf_load_mid (by rfl) 38 (.tmp 5) rfl wr.heap.size 0 rfl [.int .i64 l[j].id,lv,pv] _ (fun W h=>zb4 h.2 0 _ rfl) Tryz.underlying38 rfl zal) (⟨us,u5⟩) ?_
    refine tg (i:=1) (.pointer (some ⟨s,0,none⟩)) rfl (⟨us,u5⟩) ?_
    refine tk (i:=5) (v:=.int .i64 l[j].id) rfl (Or.inl ⟨by rfl,fun W h=>by have c0:=zac h.2 0 rfl;go_simp⟩) (⟨us,u5⟩) ?_
    refine tg (i:=2) (.pointer (some ⟨s,0,none⟩)) rfl (⟨us,u5⟩) ?_
    refine tk (i:=3) (v:=.map (some mb)) rfl (Or.inl ⟨by rfl,fun W h=>by have c0:=zac h.1 0 h0;go_simp⟩) (⟨us,u5⟩) ?_
    refine tr 7 rfl (fun K hK=>?_)
    rw [if_pos (by rfl)]
    go_simp
    refine (HC.out _ bX2).mono ?_
    rintro e0 w3 ⟨a',hpl,c',rfl,hc',hb3⟩
    replace us:=(hb3.block _ (zaa us)).trans us
    replace u5:=(hb3.block _ (zaa u5)).trans u5
    refine hK.out _ _ (⟨us,u5⟩) (fun _=>?_)
    clear hK K
    try simp only [putS]
    refine tr 8 rfl (fun K hK=>?_)
    rw [if_pos (by rfl)]
    refine zdc (.tmp 19) (.tmp 21) (.tmp 23) 73 rfl 2 38 law2 Tryz.underlying73 mb nn rfl (hmap.keep ?_) ?_ (.int .i64 l[j].id) _ (.int .i64 l[j].id) rfl rfl (Go.Maps.keyOf_int_mk Tryz.underlying2 hwf) trivial ?_
    ·exact (hb3.block _ (Nat.lt_of_lt_of_le hmap.lt bX2.size)).trans (bX2.block _ hmap.lt)
    ·have:=HL.out;unfold maxLen;omega
    intro w4 hm4 hg4
    replace us:=(hg4.block s (zaa us) (fun e=>hsb (Option.some.inj e))).trans us
    replace u5:=(hg4.block wr.heap.size (zaa u5) (fun e=>hnb (Option.some.inj e))).trans u5
    refine hK.out _ _ (⟨us,u5⟩) (fun _=>?_)
    clear hK K
    try simp only [putS]
    refine wpAnyH_done (by kernel_rfl) ?_ _
    have acc:=T1.next HK.out.1 hmb HK.out.2.1 HK.out.2.2.1 HK.out.2.2.2.1 HK.out.2.2.2.2 hpl bX2 hb3 hc' hm4 hg4
    rw [← etk] at acc
    have ACC:=Lib.hid acc
    clear acc hm4 hg4 hpl hc' hb3 us u5 bX2 HK
    go_wp2_with fail
    go_roundg (gk - 1)
    case measure=>omega
    case rel=>exact ⟨j+1,by omega,by go_num,ACC⟩
   ·have e:l.take j=l:=by rw [List.take_of_length_le];have:=HL.out;omega
    have hA:=HA.out
    rw [e] at hA
    have HX:=Lib.hid hA
    clear hA HA
    go_wp2_with fail
    go_meet
    case rel=>exact HX
 case rest=>
  obtain ⟨nn,ff,hnn,hmap,h3,h4⟩:=hcut.out.all
  have us:wc.heap[s]?=some (.cells sc 79 (0,0)):=(hcut.out.kept.block s hsl hsb).trans hs
  have inj:∀ x y:Int,(Lit.int .i64 x)=.int .i64 y→x=y:=fun x y e=>by injection e
  have hmm:∀ x,x∈l.map zap.id↔(ff (.int .i64 x)).isSome=true:=fun x=>by
   constructor
   ·intro hx
    obtain ⟨a,ha,rfl⟩:=List.mem_map.1 hx
    obtain ⟨a',c,_,e,_⟩:=h3 a ha
    rw [e];rfl
   ·intro hx
    by_cases q:x∈l.map zap.id
    ·exact q
    ·have:=h4 (.int .i64 x) fun a ha e=>q (by rw [inj _ _ e];exact List.mem_map_of_mem ha)
     rw [this] at hx
     cases hx
  have HS:=Lib.hid (zsg mb nn ff (l.map zap.id) wc hmap HD.out hmm (by have:=HL.out;omega))
  have c0:=zac us 0 h0
  have H3:=Lib.hid (And.intro hmap (And.intro h3 h4))
  have HT:=Lib.hid hcut.out
  obtain ⟨nums,hnums⟩:∃ nums,nums=(l.map zap.id).mergeSort leI:=⟨_,rfl⟩
  rw [← hnums] at HS
  have HN:=Lib.hid hnums
  have HNN:=Lib.hid hnn
  clear hmm hnn h3 h4 hmap hcut hnums
  go_upto_region 6 with (first
   |(go_at_call 80;(with_reducible refine (keysNAt mb _).mono ?_);rintro e w1 ⟨rfl,rfl⟩)
   |(go_at_call 79;(with_reducible refine HS.out.mono ?_);rintro e w2 ⟨V,rfl,hV,hb2⟩
     have bk:Below wc.heap.size wc w2:=(zas wc (.cells #[.map (some mb)] 73)).trans (hb2.mono (by omega))
     replace us:=(bk.block s (zaa us)).trans us
     have c2:=zac us 2 h2
     have f2:=zbj us 2
     obtain ⟨pV,cV,rfl⟩:=zbc hV))
  have hVt:=hb2.size
  have zV:wc.heap.size < w2.heap.size:=by have:=hb2.size;simp at this;omega
  have us3:=za6 us 2 (.slice pV nums.length cV)
  have kt:=HT.out.kept
  have sl1:=zaa us
  have hV3:(w2.setCell ⟨s,2,none⟩ (.slice pV nums.length cV)).ownsRow (wc.heap.size+1) 2 1 (.slice pV nums.length cV) nums.length (nums.map (Value.int .i64)):=
   zaw hV fun g e=>Below.heap_setCell _ _ _ _ (by show g≠s;have:=(hV.lt g e).1;have:=kt.size;omega)
  have k3:Kept (fun i=>i=mb∨i=s) w (w2.setCell ⟨s,2,none⟩ (.slice pV nums.length cV)):=((kt.more (fun i e=>.inl e)).below bk).set (.inr rfl) _
  have st3:zc9 (New w wc) (New w wc) wc (w2.setCell ⟨s,2,none⟩ (.slice pV nums.length cV)):=fun g hg=>⟨hg,(Below.heap_setCell _ _ _ _ (by show g≠s;have:=hg.1;omega)).trans (bk.block g hg.2)⟩
  have mb3:(w2.setCell ⟨s,2,none⟩ (.slice pV nums.length cV)).heap[mb]?=wc.heap[mb]?:=(Below.heap_setCell _ _ _ _ (by show mb≠s;exact fun e=>hsb e.symm)).trans (bk.block mb (Nat.lt_of_lt_of_le hmb kt.size))
  have lb3:(w2.setCell ⟨s,2,none⟩ (.slice pV nums.length cV)).heap[lb]?=some (.map #[] 0):=(k3.block lb hlbl (fun e=>by rcases e with e | e;exact hlm e;exact hls e)).trans HLB.out
  have z3:wc.heap.size < (w2.setCell ⟨s,2,none⟩ (.slice pV nums.length cV)).heap.size:=by simpa using zV
  obtain ⟨hmapc,h3c,h4c⟩:=H3.out
  have hmap3:=hmapc.keep mb3
  have h33:∀ a∈l,∃ a' c,ze5 a a'∧ff (.int .i64 a.id)=some (.agg c.toArray)∧za4.rel (w2.setCell ⟨s,2,none⟩ (.slice pV nums.length cV)) (New w wc) c a':=fun a ha=>by
   obtain ⟨a',c,q1,q2,q3⟩:=h3c a ha
   exact ⟨a',c,q1,q2,za4.stays st3 q3⟩
  obtain ⟨sc3,hsc3⟩:∃ sc3,sc3=sc.setIfInBounds 2 (.slice pV nums.length cV):=⟨_,rfl⟩
  rw [← hsc3] at us3
  have q0:sc3[0]?=some (.map (some mb)):=by rw [hsc3,Array.getElem?_setIfInBounds_ne (by omega)];exact h0
  have q4:sc3[4]?=some (.map (some lb)):=by rw [hsc3,Array.getElem?_setIfInBounds_ne (by omega)];exact h4
  have q2:sc3[2]?=some (.slice pV nums.length cV):=by
   rw [hsc3,Array.getElem?_setIfInBounds_self_of_lt]
   exact (Array.getElem?_eq_some_iff.1 h2).1
  have HV:=Lib.hid hV3
  have HK3:=Lib.hid k3
  have HM3:=Lib.hid hmap3
  have H33:=Lib.hid h33
  have c23:=zac us3 2 q2
  have hkc:=kt.size
  have HG0:Hid (zcb 9 Lit.string (w2.setCell ⟨s,2,none⟩ (.slice pV nums.length cV)) (w2.setCell ⟨s,2,none⟩ (.slice pV nums.length cV)).heap.size lb []):=Lib.hid (zcb.start lb3)
  have HSC:=Lib.hid hsc3
  have H4C:=Lib.hid h4c
  clear hV hV3 k3 st3 mb3 lb3 hmapc h3c h4c hmap3 h33 H3 HS c0 c2 f2 us bk hb2 sl1 hVt zV hsc3 kt
  generalize w2.setCell ⟨s,2,none⟩ (.slice pV nums.length cV)=w3 at*
  have HEV:Hid (∀ i,nums[i]?≠none→∃ a∈l,a.id=nums[i]! ):=Lib.hid fun i hi=>by
   have hi':i < nums.length:=by
    by_cases q:i < nums.length
    ·exact q
    ·exact absurd (List.getElem?_eq_none (by omega)) hi
   have hmm:∀ x,x∈nums→x∈l.map zap.id:=fun x hx=>by
    rw [HN.out] at hx
    exact List.mem_mergeSort.1 hx
   have:=hmm _ (List.getElem_mem hi')
   obtain ⟨a,ha,e⟩:=List.mem_map.1 this
   exact ⟨a,ha,by rw [e,getElem!_pos nums i hi']⟩
  have HEL:Hid (∀ j,((nums.take j).flatMap (evN l)).length≤j*2097152):=Lib.hid fun j=>by
   refine Nat.le_trans (zgb (evN l) 2097152 (nums.take j) fun x hx=>?_) (Nat.mul_le_mul_right _ (List.length_take_le j nums))
   have hx2:x∈l.map zap.id:=by
    have:=List.mem_of_mem_take hx
    rw [HN.out] at this
    exact List.mem_mergeSort.1 this
   obtain ⟨a,ha,rfl⟩:=List.mem_map.1 hx2
   obtain ⟨a',c,hpl,_,lv,pv,_,_,q1,_⟩:=H33.out a ha
   unfold evN
   rw [List.length_map,zfa HD.out ha,← hpl.2.1]
   exact q1
  obtain ⟨K,hK⟩:∃ K,K=nums.length:=⟨_,rfl⟩
  have hKn:=Lib.hid (show K=n by rw [hK,HN.out,List.length_mergeSort,List.length_map,HL.out])
  have hK9:K≤131072:=by have:=hKn.out;omega
  rw [← hK] at c23 q2 HV ⊢
  have HKL:=Lib.hid hK
  clear hK
  go_wp2_with fail
  go_loopg [39] K (fun gg s39 wr=>∃ j:Nat,j+gg=K∧s39=.int .i64 j∧Hid (T2 9 Lit.string lb w3 ((nums.take j).flatMap (evN l)) wr))
  case atStart=>exact ⟨0,by omega,rfl,Lib.hid ⟨HG0.out,Kept.refl _ _⟩⟩
  case round=>
   obtain ⟨j,hjg,rfl,HA⟩:=hrel
   by_cases hlt:(j:Int) < K
   ·have hj1:j < nums.length:=by have:=HKL.out;omega
    obtain ⟨a,ha,hid⟩:=HEV.out j (by rw [List.getElem?_eq_getElem hj1];simp)
    rw [getElem!_pos nums j hj1] at hid
    obtain ⟨a',c,hpl,hff,lv,pv,rfl,hwf,hl1,hl2,hlv,hpv⟩:=H33.out a ha
    rw [hpl.1] at hwf hff
    have kr:=HA.out.kept
    have hv:=HV.out
    rw [HKL.out] at hv
    have iv:=zbe (zaw hv fun g e=>kr.block g (hv.lt g e).2 (fun (q:g=lb)=>by have:=(hv.lt g e).1;omega))
    obtain ⟨pp,cc,e0,hcv⟩:=iv
    injection e0 with e1 e2 e3
    subst e1
    obtain ⟨g,off,rfl,hcj⟩:=hcv (by intro q;rw [q] at hj1;simp at hj1)
    have cj:wr.cell? ⟨g,off+j,none⟩=some (.int .i64 a.id):=by
     rw [hcj j hj1,hid]
     simp [hj1]
    have usr:wr.heap[s]?=some (.cells sc3 79 (0,0)):=(kr.block s (zaa us3) (fun q=>hls q.symm)).trans us3
    have hmr:=HM3.out.keep (kr.block mb HM3.out.lt (fun q=>hlm q.symm))
    have c0:=zac usr 0 q0
    have hki:keyOf Tryz.prog 2 (.int .i64 a.id)=some (.int .i64 a.id):=Go.Maps.keyOf_int_mk Tryz.underlying2 hwf
    obtain ⟨m,hm⟩:∃ m,m=a'.labels.length:=⟨_,rfl⟩
    obtain ⟨plv,clv,rfl⟩:=hlv.slice
    have hlab:zdd l nums[j]=a'.labels:=by rw [← hid,zfa HD.out ha,hpl.2.1]
    have etj:(nums.take (j+1)).flatMap (evN l)=(nums.take j).flatMap (evN l)++a'.labels.map (fun t=>(bl t,a.id)):=by
     rw [List.take_succ_eq_append_getElem hj1,List.flatMap_append]
     simp [evN,hlab,hid]
    rw [← hm] at hl1 hff
    have HLV:=Lib.hid (And.intro hlv (And.intro hm (And.intro etj hl1)))
    clear hcv hcj hpl hpv hl2 hlab etj hlv hv e2 e3 hm ha hid
    go_wp2_with (first
     |(at_lookup;refine zbs rfl _ _ 73 rfl 2 38 law2 Tryz.underlying73 (zsv _) mb nn rfl hmr _ (.int .i64 a.id) rfl hki trivial ?_;rw [hff];simp only [Option.getD_some];have hfd:=field38 (.int .i64 a.id) pv plv m clv wr))
    have hHA0:Hid (T2 9 Lit.string lb w3 ((nums.take j).flatMap (evN l)++(a'.labels.take 0).map (fun t=>(bl t,a.id))) wr):=Lib.hid (by simpa using HA.out)
    have HJ:=Lib.hid hj1
    clear HA hmr usr c0 hff cj hki kr hj1
    go_loopg [51] m (fun gg s51 wq=>∃ i:Nat,i+gg=m∧s51=.int .i64 i∧Hid (T2 9 Lit.string lb w3 ((nums.take j).flatMap (evN l)++(a'.labels.take i).map (fun t=>(bl t,a.id))) wq))
    case atStart=>exact ⟨0,by omega,rfl,hHA0⟩
    case round=>
     obtain ⟨i,hig,rfl,HA2⟩:=hrel
     by_cases hlt2:(i:Int) < m
     ·have hi1:i < a'.labels.length:=by have:=HLV.out.2.1;omega
      have kq:=HA2.out.kept
      have stq:zc9 (New w wc) (New w wc) w3 wr:=fun g hg=>⟨hg,kq.block g (by have:=hg.2;omega) (fun (e:g=lb)=>by have:=hg.1;omega)⟩
      obtain ⟨g2,off2,cap2,c2,e0,hg2,⟨rfl,hts⟩,hra⟩:=(HLV.out.1.stays stq).at_ i hi1
      injection e0 with e1 e2 e3
      subst e1
      obtain ⟨t,ht⟩:∃ t,t=a'.labels[i]:=⟨_,rfl⟩
      have ct:wr.cell? ⟨g2,off2+i,none⟩=some (.string t):=by
       rw [ht]
       simpa [zbq] using hra 0 _ rfl
      rw [← ht] at hts
      have us:wr.heap[s]?=some (.cells sc3 79 (0,0)):=(kq.block s (zaa us3) (fun q=>hls q.symm)).trans us3
      obtain ⟨n2,f2,hn2,hm2,h32,h42⟩:=HA2.out.grp
      obtain ⟨E,hE⟩:∃ E,E=(nums.take j).flatMap (evN l)++(a'.labels.take i).map (fun t=>(bl t,a.id)):=⟨_,rfl⟩
      have hEE:(nums.take j).flatMap (evN l)++(a'.labels.take (i+1)).map (fun t=>(bl t,a.id))=E++[(bl t,a.id)]:=by
       rw [hE,List.take_succ_eq_append_getElem hi1,List.map_append,List.append_assoc,ht]
       rfl
      have hEl:E.length≤549755813888:=by
       have h1:=HEL.out j
       have h2:E.length≤((nums.take j).flatMap (evN l)).length+i:=by
        rw [hE,List.length_append,List.length_map]
        have:=List.length_take_le i a'.labels
        omega
       have h3:=HLV.out.2.2.2
       have h4:=hKn.out
       have h5:j*2097152≤131072*2097152:=Nat.mul_le_mul_right _ (by omega)
       omega
      rw [← hE] at hn2 h32 HA2
      have hkey:keyOf Tryz.prog 9 (.string t)=some (.string (bl t)):=Go.WideMaps.keyOf_string_mk Tryz.underlying9 (by unfold maxLen;omega)
      obtain ⟨v0,hv0⟩:∃ v0,v0=(f2 (.string (bl t))).getD (.slice none 0 0):=⟨_,rfl⟩
      have hrow:=zez h32 (bl t)
      rw [← hv0] at hrow
      have hs3:=zaa us3
      have hsrow:v0.ownBlock≠some s:=fun q=>by
       have:=(hrow.lt s q).1
       omega
      have hlrow:v0.ownBlock≠some lb:=fun q=>by
       have:=(hrow.lt lb q).1
       omega
      have hrk:∀ i,v0.ownBlock=some i→i < w3.heap.size→i=lb:=fun i q hi=>by
       have:=(hrow.lt i q).1
       omega
      have HE:=Lib.hid (And.intro hn2 hEl)
      have HEE:=Lib.hid hEE
      have hgl:=zsw E (bl t)
      have H32:=Lib.hid h32
      have H42:=Lib.hid h42
      have HV0:=Lib.hid hv0
      have HROW:=Lib.hid hrow
      clear hn2 hEl hEE h32 h42 hts hra hE ht stq kq e2 e3 hrow hg2 hv0
      obtain ⟨i0,hi,hz0,hz1,hz2⟩:=info_parts zd6
      go_upto_region 12 with fail
      refine wp_region_held_drew (S:=fun W=>W.heap[s]?=some (.cells sc3 79 (0,0))) (by kernel_rfl) us (fun _=>?_)
      replace us:wr.drew.heap[s]?=_:=us
      refine tg (i:=0) (.pointer (some ⟨s,0,none⟩)) rfl (us) ?_
      refine tg (i:=4) (.string t) rfl (us) ?_
      refine tg (i:=5) (.pointer (some ⟨s,0,none⟩)) rfl (us) ?_
      refine tg (i:=9) (.string t) rfl (us) ?_
      refine tg (i:=11) (.int .i64 a.id) rfl (us) ?_
      refine tg (i:=1) (.pointer (some ⟨s,0,none⟩)) rfl (us) ?_
      refine tg (i:=6) (.pointer (some ⟨s,0,none⟩)) rfl (us) ?_
      refine tg (i:=2) (.pointer (some ⟨s,4,none⟩)) rfl (us) ?_
      refine tg (i:=7) (.pointer (some ⟨s,4,none⟩)) rfl (us) ?_
      refine tk (i:=3) (v:=.map (some lb)) rfl (Or.inl ⟨by rfl,fun W h=>by have c0:=zac h 4 q4;go_simp⟩) (us) ?_
      refine tk (i:=8) (v:=.map (some lb)) rfl (Or.inl ⟨by rfl,fun W h=>by have c0:=zac h 4 q4;go_simp⟩) (us) ?_
      refine wpAnyH_ready (rs:=[10,12]) (by kernel_rfl) (by simp) ?_
      refine AllReadyH.cons rfl (fun K hK=>?_) (AllReadyH.cons rfl (fun K hK=>?_) AllReadyH.nil)
      ·rw [if_pos (by rfl)]
       have hrun:=(hm2.keep (w':=wr.drew) rfl).look law9 Tryz.underlying75 (z:=.slice none 0 0) (by kernel_rfl) hkey trivial
       rw [← HV0.out] at hrun
       go_simp
       clear hrun
       refine hK.out _ _ (us) (fun _=>?_)
       clear hK K
       try simp only [putS]
       refine tr 12 rfl (fun K hK=>?_)
       rw [if_pos (by rfl)]
       go_simp
       have us5:(wr.alloc (.cells #[.int .i64 a.id] 2)).drew.heap[s]?=some (.cells sc3 79 (0,0)):=zar _ us
       have b5:Below wr.heap.size wr (wr.alloc (.cells #[.int .i64 a.id] 2)).drew:=((Below.refl _ _).alloc (Nat.le_refl _) _).drew
       obtain ⟨w5,hw5⟩:∃ w5,w5=(wr.alloc (.cells #[.int .i64 a.id] 2)).drew:=⟨_,rfl⟩
       have n5:∀ j u,[Value.int .i64 a.id][j]?=some u→w5.cell? ((⟨wr.heap.size,0,none⟩:Addr).add j)=some u:=by rw [hw5];exact cell_one_new wr _ _
       rw [← hw5] at us5 b5 ⊢
       clear hw5
       refine hK.out _ _ (us5) (fun _=>?_)
       clear hK K
       try simp only [putS]
       refine tr 13 rfl (fun K hK=>?_)
       rw [if_pos (by rfl)]
       refine zbf (P:=Tryz.prog) (w:=w5) (.tmp 65) (.tmp 67) 77 rfl w3.heap.size 2 i0 (.int .i64 0) 1 8 Tryz.underlying77 hi hz0 hz1 hz2 rfl (by decide) v0 (grp E (bl t)).length ((grp E (bl t)).map (Value.int .i64)) rfl (zaw HROW.out fun g q=>b5.block g (HROW.out.lt g q).2) ⟨wr.heap.size,0,none⟩ 1 1 [.int .i64 a.id] rfl rfl n5 (by simp [Value.oneCell']) (by have:=HE.out.2;unfold maxLen;omega) (by have:=HE.out.2;omega) (by have:=HA2.out.kept.size;have:=b5.size;omega) ?_
       intro v' w6 ho6 hg6 _ hloc6
       have us6:=(hg6.block s (zaa us5) (fun q=>hsrow q.symm)).trans us5
       refine hK.out _ _ (us6) (fun _=>?_)
       clear hK K
       try simp only [putS]
       refine tr 14 rfl (fun K hK=>?_)
       rw [if_pos (by rfl)]
       refine zdc (.tmp 58) (.tmp 59) (.tmp 68) 75 rfl 9 77 law9 Tryz.underlying75 lb n2 rfl (hm2.keep ?_) ?_ (.string t) v' (.string (bl t)) rfl rfl hkey trivial ?_
       ·exact (hg6.block lb (Nat.lt_of_lt_of_le hm2.lt b5.size) (fun q=>hlrow q.symm)).trans (b5.block lb hm2.lt)
       ·have:=HE.out.1;have:=HE.out.2;unfold maxLen;omega
       intro w7 hm7 hg7
       have us7:=(hg7.block s (zaa us6) (fun q=>hls (Option.some.inj q).symm)).trans us6
       refine hK.out _ _ (us7) (fun _=>?_)
       clear hK K
       try simp only [putS]
       refine wpAnyH_done (by kernel_rfl) ?_ _
       have acc:T2 9 Lit.string lb w3 (E++[(bl t,a.id)]) w7:=⟨zcb.add (w:=wr) zi5 (show lb < w3.heap.size by omega) HE.out.1 H32.out H42.out b5 ho6 (by rw [← HV0.out];exact hg6) (by rw [← HV0.out];exact hloc6) hm7 hg7,((HA2.out.kept.below b5).grown hg6 hrk).grown hg7 (fun i q _=>(Option.some.inj q).symm)⟩
       rw [← HEE.out] at acc
       have ACC:=Lib.hid acc
       clear acc hm7 hg7 ho6 hg6 hloc6 b5 us5 us6 us7 n5
       go_wp2_with fail
       go_roundg (gk - 1)
       case measure=>omega
       case rel=>exact ⟨i+1,by omega,by go_num,ACC⟩
      ·rw [if_pos (by rfl)]
       go_simp
       have us5:(wr.alloc (.cells #[.int .i64 a.id] 2)).drew.heap[s]?=some (.cells sc3 79 (0,0)):=zar _ us
       have b5:Below wr.heap.size wr (wr.alloc (.cells #[.int .i64 a.id] 2)).drew:=((Below.refl _ _).alloc (Nat.le_refl _) _).drew
       obtain ⟨w5,hw5⟩:∃ w5,w5=(wr.alloc (.cells #[.int .i64 a.id] 2)).drew:=⟨_,rfl⟩
       have n5:∀ j u,[Value.int .i64 a.id][j]?=some u→w5.cell? ((⟨wr.heap.size,0,none⟩:Addr).add j)=some u:=by rw [hw5];exact cell_one_new wr _ _
       rw [← hw5] at us5 b5 ⊢
       clear hw5
       refine hK.out _ _ (us5) (fun _=>?_)
       clear hK K
       try simp only [putS]
       refine tr 10 rfl (fun K hK=>?_)
       rw [if_pos (by rfl)]
       have hm5:HMap w5 Tryz.prog 9 lb n2 f2:=hm2.keep (b5.block lb hm2.lt)
       have hrun:=hm5.look law9 Tryz.underlying75 (z:=.slice none 0 0) (by kernel_rfl) hkey trivial
       rw [← HV0.out] at hrun
       go_simp
       clear hrun
       refine hK.out _ _ (us5) (fun _=>?_)
       clear hK K
       try simp only [putS]
       refine tr 13 rfl (fun K hK=>?_)
       rw [if_pos (by rfl)]
       refine zbf (P:=Tryz.prog) (w:=w5) (.tmp 65) (.tmp 67) 77 rfl w3.heap.size 2 i0 (.int .i64 0) 1 8 Tryz.underlying77 hi hz0 hz1 hz2 rfl (by decide) v0 (grp E (bl t)).length ((grp E (bl t)).map (Value.int .i64)) rfl (zaw HROW.out fun g q=>b5.block g (HROW.out.lt g q).2) ⟨wr.heap.size,0,none⟩ 1 1 [.int .i64 a.id] rfl rfl n5 (by simp [Value.oneCell']) (by have:=HE.out.2;unfold maxLen;omega) (by have:=HE.out.2;omega) (by have:=HA2.out.kept.size;have:=b5.size;omega) ?_
       intro v' w6 ho6 hg6 _ hloc6
       have us6:=(hg6.block s (zaa us5) (fun q=>hsrow q.symm)).trans us5
       refine hK.out _ _ (us6) (fun _=>?_)
       clear hK K
       try simp only [putS]
       refine tr 14 rfl (fun K hK=>?_)
       rw [if_pos (by rfl)]
       refine zdc (.tmp 58) (.tmp 59) (.tmp 68) 75 rfl 9 77 law9 Tryz.underlying75 lb n2 rfl (hm2.keep ?_) ?_ (.string t) v' (.string (bl t)) rfl rfl hkey trivial ?_
       ·exact (hg6.block lb (Nat.lt_of_lt_of_le hm2.lt b5.size) (fun q=>hlrow q.symm)).trans (b5.block lb hm2.lt)
       ·have:=HE.out.1;have:=HE.out.2;unfold maxLen;omega
       intro w7 hm7 hg7
       have us7:=(hg7.block s (zaa us6) (fun q=>hls (Option.some.inj q).symm)).trans us6
       refine hK.out _ _ (us7) (fun _=>?_)
       clear hK K
       try simp only [putS]
       refine wpAnyH_done (by kernel_rfl) ?_ _
       have acc:T2 9 Lit.string lb w3 (E++[(bl t,a.id)]) w7:=⟨zcb.add (w:=wr) zi5 (show lb < w3.heap.size by omega) HE.out.1 H32.out H42.out b5 ho6 (by rw [← HV0.out];exact hg6) (by rw [← HV0.out];exact hloc6) hm7 hg7,((HA2.out.kept.below b5).grown hg6 hrk).grown hg7 (fun i q _=>(Option.some.inj q).symm)⟩
       rw [← HEE.out] at acc
       have ACC:=Lib.hid acc
       clear acc hm7 hg7 ho6 hg6 hloc6 b5 us5 us6 us7 n5
       go_wp2_with fail
       go_roundg (gk - 1)
       case measure=>omega
       case rel=>exact ⟨i+1,by omega,by go_num,ACC⟩
     ·have e:a'.labels.take i=a'.labels:=by rw [List.take_of_length_le];have:=HLV.out.2.1;omega
      have hA2:=HA2.out
      rw [e,← HLV.out.2.2.1] at hA2
      have HX:=Lib.hid hA2
      clear hA2 HA2 e
      go_wp2_with fail
      go_roundg (K - j - 1)
      case measure=>omega
      case rel=>exact ⟨j+1,by omega,by go_num,HX⟩
   ·have e:nums.take j=nums:=by rw [List.take_of_length_le];have:=HKL.out;omega
    have hA:=HA.out
    rw [e] at hA
    have kr:=hA.kept
    have zlt:=zaa us3
    have fin:NPost w s mb lb sc l (.returned (.tuple #[])) wr:=by
     refine ⟨rfl,.slice pV K cV,wc.heap.size,w3.heap.size,(kr.block s zlt (fun q=>hls q.symm)).trans (by have h:=HSC.out;rw [← HKL.out] at h;rw [← h];exact us3),?_,zco.stays (P:=New w wc) ⟨nn,ff,HNN.out,HM3.out,H33.out,H4C.out⟩ (fun g hg=>⟨⟨hg.1,hg.2⟩,kr.block g (by have:=hg.2;omega) (fun (q:g=lb)=>by have:=hg.1;omega)⟩) (kr.block mb HM3.out.lt (fun q=>hlm q.symm)),?_,hkc,by omega,kr.size,fun g e=>(HV.out.lt g e).2,?_⟩
     ·rw [← HN.out]
      have:=HKL.out
      rw [← this]
      exact zaw HV.out fun g e=>kr.block g (HV.out.lt g e).2 (fun (q:g=lb)=>by have:=(HV.out.lt g e).1;omega)
     ·rw [← HN.out]
      exact hA.grp
     ·exact (HK3.out.more (fun i h=>by rcases h with h | h;exact .inr (.inl h);exact .inl h)).trans (kr.more (fun i h=>.inr (.inr h)) |>.weak HK3.out.size)
    have HF:=Lib.hid fin
    clear fin hA HA kr e
    go_wp2_with fail
    refine bodyPost_ret (results_none rfl _ _ _) rfl ?_
    exact HF.out
end Go.Proofs.YtcfmenkigolnoaaGreatDoor

/- GH -/
namespace Go.Proofs.YtcfmenkigolnoaaGreatDoor
open Go.RowKit
abbrev Way:={ p:Int × Int // (Lit.int .i64 p.1).wf=true∧(Lit.int .i64 p.2).wf=true }
def KW (p:Way):Lit:=.string (keyBytes [.int .i64 p.1.1,.int .i64 p.1.2])
theorem zo4 (p:Way):keyOf Tryz.prog 98 (.agg #[.int .i64 p.1.1,.int .i64 p.1.2])=some (KW p):=keyW p.2.1 p.2.2
theorem KW_inj (x y:Way) (h:KW x=KW y):x=y:=by
 have h1:=zo4 x
 rw [h] at h1
 have:=law98.inj h1 (zo4 y)
 simp only [Value.agg.injEq,Array.mk.injEq,List.cons.injEq,Value.int.injEq,true_and,and_true] at this
 exact Subtype.ext (Prod.ext this.1 this.2)
def mkW (p:Int × Int):Way:=if h:(Lit.int .i64 p.1).wf=true∧(Lit.int .i64 p.2).wf=true then ⟨p,h⟩ else ⟨(0,0),by decide⟩
theorem zwf {p:Int × Int} (h:(Lit.int .i64 p.1).wf=true∧(Lit.int .i64 p.2).wf=true):(mkW p).1=p:=by unfold mkW;rw [dif_pos h]
def zdl (l:List zat) (i:Int):List (Int × Int):=((l.find? fun a=>decide (a.id=i)).map fun a=>zee a.src a.dst).getD []
def evE (l:List zat) (i:Int):List (Way × Int):=(zdl l i).map fun p=>(mkW p,i)
theorem zjo {α:Type} {id:α→Int} {l:List α} (h:(l.map id).Nodup) {a:α} (ha:a∈l):l.find? (fun b=>decide (id b=id a))=some a:=by
 induction l with
 | nil=>cases ha
 | cons b l ih=>
   rw [List.find?_cons]
   rw [List.map_cons,List.nodup_cons] at h
   by_cases q:id b=id a
   ·rcases List.mem_cons.1 ha with r | r
    ·subst r;simp
    ·exact absurd (List.mem_map_of_mem (f:=id) r) (by rw [← q];exact h.1)
   ·rcases List.mem_cons.1 ha with r | r
    ·subst r;exact absurd rfl q
    ·simp only [q,decide_false]
     exact ih h.2 r
theorem zfb {l:List zat} (h:(l.map zat.id).Nodup) {a:zat} (ha:a∈l):zdl l a.id=zee a.src a.dst:=by
 unfold zdl
 rw [zjo h ha]
 rfl
theorem zhy (s d:Int):(zee s d).length≤4∧0 < (zee s d).length:=by
 unfold zee
 by_cases h:d=s <;> simp [h]
theorem zo5 {s d:Int} (h1:(Lit.int .i64 s).wf=true) (h2:(Lit.int .i64 d).wf=true):∀ p∈zee s d,(Lit.int .i64 p.1).wf=true∧(Lit.int .i64 p.2).wf=true:=by
 intro p hp
 unfold zee at hp
 rcases List.mem_append.1 hp with hp | hp
 ·simp only [List.mem_cons,List.mem_nil_iff,or_false] at hp
  rcases hp with rfl | rfl | rfl
  ·exact ⟨h1,(show (Lit.int .i64 (1)).wf=true by decide)⟩
  ·exact ⟨h2,(show (Lit.int .i64 (-1)).wf=true by decide)⟩
  ·exact ⟨h1,(show (Lit.int .i64 (0)).wf=true by decide)⟩
 ·by_cases h:d=s
  ·simp [h] at hp
  ·simp only [h,if_false,List.mem_cons,List.mem_nil_iff,or_false] at hp
   subst hp
   exact ⟨h2,(show (Lit.int .i64 (0)).wf=true by decide)⟩
def zd1 {κ:Type} [DecidableEq κ] (No:Nat→Prop) (kt:TypeId) (K:κ→Lit) (w:World) (base b:Nat) (E:List (κ × Int)):Prop:=
 ∃ n f,n≤E.length∧HMap w Tryz.prog kt b n f∧(∀ x,(f (K x)=none∧grp E x=[])∨∃ v,f (K x)=some v∧w.ownsRow base 2 1 v (grp E x).length ((grp E x).map (Value.int .i64)))∧
  (∀ x y v u g,x≠y→f (K x)=some v→f (K y)=some u→v.ownBlock=some g→u.ownBlock≠some g)∧∀ x v g,f (K x)=some v→v.ownBlock=some g→¬ No g
section
variable {κ:Type} [DecidableEq κ] {No:Nat→Prop} {kt:TypeId} {K:κ→Lit} {w w':World} {base b:Nat} {E:List (κ × Int)}
theorem zd1.is (h:zd1 No kt K w base b E):zcb kt K w base b E:=by
 obtain ⟨n,f,h1,h2,h3,h4,_⟩:=h
 exact ⟨n,f,h1,h2,h3,h4⟩
theorem zcb.shuns (h:zcb kt K w base b E) (hN:∀ g,No g→w.heap.size≤g):zd1 No kt K w base b E:=by
 obtain ⟨n,f,h1,h2,h3,h4⟩:=h
 refine ⟨n,f,h1,h2,h3,h4,fun x v g hf hg hn=>?_⟩
 rcases h3 x with ⟨e,_⟩ | ⟨u,e,ho⟩
 ·rw [e] at hf;cases hf
 ·rw [e] at hf
  cases hf
  have:=(ho.lt g hg).2
  have:=hN g hn
  omega
theorem zd1.keep (h:zd1 No kt K w base b E) (hk:∀ i,(i=b∨base≤i)→i < w.heap.size→w'.heap[i]?=w.heap[i]?):zd1 No kt K w' base b E:=by
 obtain ⟨n,f,h1,h2,h3,h4,h5⟩:=h
 refine ⟨n,f,h1,h2.keep (hk b (.inl rfl) h2.lt),fun x=>?_,h4,h5⟩
 rcases h3 x with h | ⟨v,e,ho⟩
 ·exact .inl h
 ·exact .inr ⟨v,e,zaw ho fun g q=>hk g (.inr (ho.lt g q).1) (ho.lt g q).2⟩
theorem zd1.add {w5 w6 w7:World} {n:Nat} {f:Lit→Option Value} {x:κ} {i:Int} {v':Value} (inj:∀ x y,K x=K y→x=y) (hb:b < base) (h1:n≤E.length)
 (h3:∀ x,(f (K x)=none∧grp E x=[])∨∃ v,f (K x)=some v∧w.ownsRow base 2 1 v (grp E x).length ((grp E x).map (Value.int .i64)))
 (h4:∀ x y v u g,x≠y→f (K x)=some v→f (K y)=some u→v.ownBlock=some g→u.ownBlock≠some g) (h5:∀ x v g,f (K x)=some v→v.ownBlock=some g→¬ No g) (s5:w.heap.size≤w5.heap.size) (b5:∀ i,i < w.heap.size→i≠b→w5.heap[i]?=w.heap[i]?)
 (ho:w6.ownsRow base 2 1 v' ((grp E x).length+1) ((grp E x).map (Value.int .i64)++[.int .i64 i])) (hg6:w5.grownBy w6 ((f (K x)).getD (.slice none 0 0)).ownBlock)
 (hloc:v'.ownBlock=((f (K x)).getD (.slice none 0 0)).ownBlock∨v'.ownBlock=some w5.heap.size) (hN5:¬ No w5.heap.size) (hm:HMap w7 Tryz.prog kt b (n+1) (updH f (K x) v')) (hg7:w6.grownBy w7 (some b)):zd1 No kt K w7 base b (E++[(x,i)]):=by
 have low:∀ {u:Value} {m:Nat} {xs:List Value} {W:World},W.ownsRow base 2 1 u m xs→∀ g,u.ownBlock=some g→some b≠some g:=fun h g e q=>by
  have:=(h.lt g e).1
  cases q
  omega
 have apart:∀ y u,y≠x→f (K y)=some u→w.ownsRow base 2 1 u (grp E y).length ((grp E y).map (Value.int .i64))→∀ g,u.ownBlock=some g→((f (K x)).getD (.slice none 0 0)).ownBlock≠some g∧v'.ownBlock≠some g:=fun y u hne e hu g hgu=>by
  have a1:((f (K x)).getD (.slice none 0 0)).ownBlock≠some g:=by
   cases q:f (K x) with
   | none=>intro r;cases r
   | some v=>exact h4 y x u v g hne e q hgu
  refine ⟨a1,?_⟩
  rcases hloc with r | r
  ·rw [r];exact a1
  ·rw [r]
   intro q
   have:=(hu.lt g hgu).2
   cases q
   omega
 refine ⟨n+1,_,by simp;omega,hm,fun y=>?_,fun y z v u g hne ey ez hv=>?_,fun y v g ey hv=>?_⟩
 ·by_cases e:y=x
  ·subst e
   refine .inr ⟨v',zcw _ _ _,?_⟩
   rw [zg4,if_pos rfl,List.length_append,List.map_append]
   exact zcq ho hg7 (fun g q=>low ho g q)
  ·have ne:K y≠K x:=fun q=>e (inj _ _ q)
   rw [zb0 ne,zg4,if_neg (fun q=>e q.symm)]
   rcases h3 y with h | ⟨u,eu,hu⟩
   ·exact .inl h
   ·refine .inr ⟨u,eu,?_⟩
    have k5:w5.ownsRow base 2 1 u (grp E y).length ((grp E y).map (Value.int .i64)):=zaw hu fun g q=>b5 g (hu.lt g q).2 (fun (r:g=b)=>by have:=(hu.lt g q).1;omega)
    exact zcq (zcq k5 hg6 (fun g q=>(apart y u e eu hu g q).1)) hg7 (fun g q=>low hu g q)
 ·by_cases e1:y=x
  ·subst e1
   rw [zcw] at ey
   cases ey
   have ne:K z≠K y:=fun q=>hne (inj _ _ q).symm
   rw [zb0 ne] at ez
   rcases h3 z with ⟨q,_⟩ | ⟨u',eu,hu⟩
   ·rw [q] at ez;cases ez
   ·rw [ez] at eu
    cases eu
    intro q
    exact (apart z u (fun q=>hne q.symm) ez hu g q).2 hv
  ·have ne1:K y≠K x:=fun q=>e1 (inj _ _ q)
   rw [zb0 ne1] at ey
   by_cases e2:z=x
   ·subst e2
    rw [zcw] at ez
    cases ez
    rcases h3 y with ⟨q,_⟩ | ⟨u',eu,hu⟩
    ·rw [q] at ey;cases ey
    ·rw [ey] at eu
     cases eu
     exact (apart y v e1 ey hu g hv).2
   ·have ne2:K z≠K x:=fun q=>e2 (inj _ _ q)
    rw [zb0 ne2] at ez
    exact h4 y z v u g hne ey ez hv
 ·by_cases e1:y=x
  ·subst e1
   rw [zcw] at ey
   cases ey
   rcases hloc with r | r
   ·cases q:f (K y) with
    | none=>
      rw [r,q] at hv
      cases hv
    | some v=>
      rw [r,q] at hv
      exact h5 y v g q hv
   ·rw [r] at hv
    cases hv
    exact hN5
  ·have ne1:K y≠K x:=fun q=>e1 (inj _ _ q)
   rw [zb0 ne1] at ey
   exact h5 y v g ey hv
end
theorem zsx {w:World} {base g cap:Nat} {l:List (Int × Int)} (h:w.ownsRow base 98 2 (.slice (some ⟨g,0,none⟩) l.length cap) l.length (ze0 l)) (i:Nat) (hi:i < l.length):w.rangeAt g (i*2) [.int .i64 l[i].1,.int .i64 l[i].2]:=by
 have hc:∀ (l:List (Int × Int)) (i:Nat) (hi:i < l.length),(ze0 l)[i*2]?=some (.int .i64 l[i].1)∧(ze0 l)[i*2+1]?=some (.int .i64 l[i].2):=by
  intro l
  induction l with
  | nil=>intro i hi;simp at hi
  | cons p l ih=>
    intro i hi
    cases i with
    | zero=>exact ⟨rfl,rfl⟩
    | succ i=>
      have:=ih i (by simpa using hi)
      rw [show (i+1)*2=i*2+2 by omega]
      exact this
 obtain ⟨c1,c2⟩:=hc l i hi
 intro j u hu
 match j with
 | 0=>
   obtain rfl:Value.int .i64 l[i].1=u:=by simpa using hu
   exact (h.cellAt (i*2) (by omega)).trans c1
 | 1=>
   obtain rfl:Value.int .i64 l[i].2=u:=by simpa using hu
   exact (h.cellAt (i*2+1) (by omega)).trans c2
 | j+2=>simp at hu
theorem zo6 (w:World):(zeroValue 41).run Tryz.prog w=.ok (.agg #[.int .i64 0,.int .i64 0,.int .i64 0,.string ⟨#[]⟩,.slice none 0 0]) w:=by kernel_rfl
theorem zsy:(Tryz.prog.info? 98).map (·.size)=some 2:=by kernel_rfl
structure T3 (gw:Nat) (V:Value) (ways:List (Int × Int)) (b:Nat) (w:World) (E:List (Way × Int)) (wr:World):Prop where
 grp:zd1 (fun i=>i=gw) 98 KW wr w.heap.size b E
 kept:Kept (fun i=>i=b) w wr
 row:wr.ownsRow w.heap.size 98 2 V ways.length (ze0 ways)
 lt:gw < wr.heap.size
def EPost (w:World) (s mb lb:Nat) (sc:Array Value) (l:List zat) (e:Ending) (w':World):Prop:=
 e=.returned (.tuple #[])∧∃ V N1 N3,w'.heap[s]?=some (.cells (sc.setIfInBounds 3 V) 79 (0,0))∧w'.ownsRow (N1+1) 2 1 V ((l.map zat.id).mergeSort leI).length (((l.map zat.id).mergeSort leI).map (Value.int .i64))∧
  zco zaz zat.id zek w' (fun g=>w.heap.size≤g∧g < N1) mb l∧zcb 98 KW w' N3 lb (((l.map zat.id).mergeSort leI).flatMap (evE l))∧w.heap.size≤N1∧N1≤N3∧N3≤w'.heap.size∧(∀ g,V.ownBlock=some g→g < N3)∧Kept (fun i=>i=s∨i=mb∨i=lb) w w'
end Go.Proofs.YtcfmenkigolnoaaGreatDoor
