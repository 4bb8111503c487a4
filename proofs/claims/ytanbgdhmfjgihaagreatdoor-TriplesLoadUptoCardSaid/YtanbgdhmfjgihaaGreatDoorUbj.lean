/- Texts of one kind, one behind the other: each says ahead of itself what it shows. -/
import Derived.Test.YtanbgdhmfjgihaaGreatDoorUbi
import Derived.Test.YtanbgdhmfjgihaaGreatDoorUbg
import Derived.Test.YtanbgdhmfjgihaaGreatDoorUaz
namespace Go.Proofs.YtanbgdhmfjgihaaGreatDoor
open Go.RowKit
set_option maxHeartbeats 12800000
set_option maxRecDepth 20000
structure But (b:Nat) (w w':World):Prop where
 size:w.heap.size≤w'.heap.size
 block:∀ k,k < w.heap.size→k≠b→w'.heap[k]?=w.heap[k]?
section
variable {b:Nat} {x y z:World}
theorem But.refl (b:Nat) (w:World):But b w w:=⟨Nat.le_refl _,fun _ _ _=>rfl⟩
theorem But.trans (h:But b x y) (k:But b y z):But b x z:=⟨Nat.le_trans h.size k.size,fun i hi e=>(k.block i (Nat.lt_of_lt_of_le hi h.size) e).trans (h.block i hi e)⟩
theorem But.below (h:But b x y) (k:Below y.heap.size y z):But b x z:=h.trans ⟨k.size,fun i hi _=>k.block i hi⟩
theorem But.only (h:But b x y) (k:Only b y z):But b x z:=h.trans ⟨k.size,k.block⟩
theorem But.cell (h:But b x y) {g o:Nat} (hg:g≠b) {v:Value} (hv:x.cell? ⟨g,o,none⟩=some v):y.cell? ⟨g,o,none⟩=some v:=
 (World.cell?_of_block (w:=x) (a:=⟨g,o,none⟩) (h.block g (World.block_lt_of_cell? x _ hv) hg)).trans hv
end
theorem zlu {w w':World} {b g:Nat} (k:But b w w') (hg:g≠b):(l:List Val)→(off:Nat)→(∀ u∈l,zdn u)→zaq w g off l→zaq w' g off l
 | [],_,_,_=>by unfold zaq;trivial
 | u::r,off,hp,h=>by
   obtain ⟨kk,bb,n,t,x,rfl⟩:=hp u (List.mem_cons_self ..)
   unfold zaq at h ⊢
   refine ⟨?_,zlu k hg r (off+6) (fun u hu=>hp u (List.mem_cons_of_mem _ hu)) h.2⟩
   have h1:=h.1
   unfold zax at h1 ⊢
   obtain ⟨h0,h1,h2,h3,h4,hf,L,h5,hl⟩:=h1
   refine ⟨k.cell hg h0,k.cell hg h1,k.cell hg h2,k.cell hg h3,k.cell hg h4,hf,L,k.cell hg h5,?_⟩
   unfold Held at hl ⊢
   exact hl
theorem zut {l:List Tri3} (hp:∀ t∈l,zqc t):∀ u∈flat l,zdn u:=fun u hu=>by
 obtain ⟨t,ht,e⟩:=zds.1 hu
 rcases e with rfl | rfl | rfl
 ·exact (hp t ht).1
 ·exact (hp t ht).2.1
 ·exact (hp t ht).2.2
theorem zz1 {w w':World} {b:Nat} {V:Value} {l:List Tri3} (k:But b w w') (hp:∀ t∈l,zqc t) (hV:V.ownBlock≠some b) (h:Tris w V l):Tris w' V l:=by
 obtain ⟨p,cap,rfl,hh⟩:=h
 refine ⟨p,cap,rfl,fun hn=>?_⟩
 obtain ⟨g,off,rfl,h2⟩:=hh hn
 exact ⟨g,off,rfl,zlu k (fun e=>hV (by subst e;rfl)) _ _ (zut hp) h2⟩
theorem zf3.but {base b sp:Nat} {W W':World} {s:SM} (h:zf3 base W sp s) (k:But b W W') (hb:b < base) (hp:∀ u∈s.vs,zdn u):zf3 base W' sp s:=by
 obtain ⟨pv,pr,cv,cr,pp,cc,hs,h1,h2,h3,h4,h5⟩:=h
 refine ⟨pv,pr,cv,cr,pp,cc,⟨?_,?_,?_,?_⟩,h1,h2,h3,h4,h5⟩
 ·exact (k.block _ (zac hs.h) (by omega)).trans hs.h
 ·intro hn
  obtain ⟨g,o,e,q⟩:=hs.v hn
  exact ⟨g,o,e,zlu k (by have:=(h2 g o e).1;omega) _ _ hp q⟩
 ·intro hn
  obtain ⟨g,o,e,q⟩:=hs.r hn
  exact ⟨g,o,e,fun j hj i v hv=>k.cell (by have:=(h3 g o e).1;omega) (q j hj i v hv)⟩
 ·intro i hi hn
  obtain ⟨g,o,e,q⟩:=hs.l i hi hn
  exact ⟨g,o,e,fun j hj=>k.cell (by have:=(h4 i hi g o e).1;omega) (q j hj)⟩
theorem zqo {g:Nat} {t:TypeId}:(vs:List Value)→(off:Nat)→(w:World)→(cs:Array Value)→w.heap[g]?=some (.cells cs t)→
 ∃ cs',(w.setCells g off vs).heap[g]?=some (.cells cs' t)∧cs'.size=cs.size∧∀ k,(k < off∨off+vs.length≤k)→cs'[k]?=cs[k]?
 | [],_,_,cs,h=>⟨cs,h,rfl,fun _ _=>rfl⟩
 | v::r,off,w,cs,h=>by
   obtain ⟨c',h1,h2,h3⟩:=zqo r (off+1) (w.setCell ⟨g,off,none⟩ v) _ (zba h off v)
   refine ⟨c',h1,by rw [h2];simp,fun k hk=>?_⟩
   simp only [List.length_cons] at hk
   rw [h3 k (by omega),Array.getElem?_setIfInBounds_ne (by omega)]
theorem zxz {w:World} {g:Nat} {cs:Array Value} {t:TypeId} (h:w.heap[g]?=some (.cells cs t)) (off n:Nat) (ho:off+n≤cs.size):w.there g off n:=fun i hi=>by
 refine ⟨?_,zbs h _⟩
 rw [zab h (off+i) (v:=cs[off+i]'(by omega)) (Array.getElem?_eq_getElem (by omega))]
 rfl
theorem zc2 {ops:Array Oper} {rest:List Oper} {op:Oper} {a:Act} {w:World} {Q:Exit→Act→World→Prop} (x y:Operand) (g off:Nat) {cs:Array Value} {t:TypeId} (h:w.heap[g]?=some (.cells cs t)) (ho8:off+18≤cs.size)
 (hgd:op.guard=none) (ho:op.op=.store 41 x y) (hx:a.eval x=.pointer (some ⟨g,off,none⟩))
 (hy:a.eval y=.agg #[.int .i64 0,.bool false,.int .i64 0,.string ⟨#[]⟩,.string ⟨#[]⟩,.slice none 0 0,.int .i64 0,.bool false,.int .i64 0,.string ⟨#[]⟩,.string ⟨#[]⟩,.slice none 0 0,.int .i64 0,.bool false,.int .i64 0,.string ⟨#[]⟩,.string ⟨#[]⟩,.slice none 0 0])
 (hk:∀ w' cs',Only g w w'→w'.heap[g]?=some (.cells cs' t)→cs'.size=cs.size→(∀ k,off+18≤k→cs'[k]?=cs[k]?)→wpList Tryz.prog ops Q rest (a.put op.dst undef) w'):wpList Tryz.prog ops Q (op::rest) a w:=by
 obtain ⟨cs',h1,h2,h3⟩:=zqo [.int .i64 0,.bool false,.int .i64 0,.string ⟨#[]⟩,.string ⟨#[]⟩,.slice none 0 0,.int .i64 0,.bool false,.int .i64 0,.string ⟨#[]⟩,.string ⟨#[]⟩,.slice none 0 0,.int .i64 0,.bool false,.int .i64 0,.string ⟨#[]⟩,.string ⟨#[]⟩,.slice none 0 0] off w cs h
 exact wpList_store_mid hgd 41 x y ho g off #[.int .i64 0,.bool false,.int .i64 0,.string ⟨#[]⟩,.string ⟨#[]⟩,.slice none 0 0,.int .i64 0,.bool false,.int .i64 0,.string ⟨#[]⟩,.string ⟨#[]⟩,.slice none 0 0,.int .i64 0,.bool false,.int .i64 0,.string ⟨#[]⟩,.string ⟨#[]⟩,.slice none 0 0] hx hy (zxz h off 18 ho8) zb7 (by simp [Value.oneCell']) (hk _ cs' (zcc g _ off w) h1 h2 (fun k hk=>h3 k (.inr (by simpa using hk))))
theorem zfn {w:World} {P:Nat→Prop}:(l:List Tri3)→(xs:List Value)→za2 w P xs (flat l)→(j:Nat)→(hj:j < l.length)→
 ∃ s p o:V6,∃ ls lp lo,Is w s l[j].s ls∧Is w p l[j].p lp∧Is w o l[j].o lo∧∀ (k:Nat) (v:Value),[.int .i64 s.k,.bool s.b,.int .i64 s.n,.string s.t,.string s.x,.slice s.p s.len s.cap,.int .i64 p.k,.bool p.b,.int .i64 p.n,.string p.t,.string p.x,.slice p.p p.len p.cap,.int .i64 o.k,.bool o.b,.int .i64 o.n,.string o.t,.string o.x,.slice o.p o.len o.cap][k]?=some v→xs[j*18+k]?=some v
 | [],_,_,_,hj=>absurd hj (by simp)
 | t::l,xs,h,j,hj=>by
   rw [zbv] at h
   obtain ⟨⟨k0,b0,n0,t0,x0,q0⟩,⟨k1,b1,n1,t1,x1,q1⟩,⟨k2,b2,n2,t2,x2,q2⟩⟩:=t
   unfold za2 at h
   obtain ⟨L0,y0,rfl,f0,g0,h⟩:=h
   unfold za2 at h
   obtain ⟨L1,y1,rfl,f1,g1,h⟩:=h
   unfold za2 at h
   obtain ⟨L2,y2,rfl,f2,g2,h⟩:=h
   match j,hj with
   | 0,_=>
     have g0:=zde.held q0 g0
     have g1:=zde.held q1 g1
     have g2:=zde.held q2 g2
     obtain ⟨p0,c0,rfl⟩:=zcn g0
     obtain ⟨p1,c1,rfl⟩:=zcn g1
     obtain ⟨p2,c2,rfl⟩:=zcn g2
     refine ⟨⟨k0,b0,n0,t0,x0,p0,q0.length,c0⟩,⟨k1,b1,n1,t1,x1,p1,q1.length,c1⟩,⟨k2,b2,n2,t2,x2,p2,q2.length,c2⟩,q0,q1,q2,⟨rfl,rfl,f0,g0⟩,⟨rfl,rfl,f1,g1⟩,⟨rfl,rfl,f2,g2⟩,fun k v hv=>?_⟩
     rw [Nat.zero_mul,Nat.zero_add]
     have hk:k < 18:=(List.getElem?_eq_some_iff.1 hv).1
     match k,hk with
     | 0,_ | 1,_ | 2,_ | 3,_ | 4,_ | 5,_ | 6,_ | 7,_ | 8,_ | 9,_ | 10,_ | 11,_ | 12,_ | 13,_ | 14,_ | 15,_ | 16,_ | 17,_=>exact hv
   | j+1,hj=>
     obtain ⟨s,p,o,ls,lp,lo,a,b,c,d⟩:=zfn l y2 h j (by simpa using hj)
     refine ⟨s,p,o,ls,lp,lo,a,b,c,fun k v hv=>?_⟩
     have:=d k v hv
     rw [show (j+1)*18+k=j*18+k+1+1+1+1+1+1+1+1+1+1+1+1+1+1+1+1+1+1 by omega]
     simpa only [List.getElem?_cons_succ] using this
structure LRow (w4 wr:World) (g n i:Nat) (xs:List Value):Prop where
 but:But g w4 wr
 cur:∃ cur,wr.heap[g]?=some (.cells cur 41)∧n*18≤cur.size∧∀ (k:Nat) (v:Value),i*18≤k→xs[k]?=some v→cur[k]?=some v
theorem LRow.start {w:World} {base n g cap:Nat} {xs:List Value} (h:w.ownsRow base 41 18 (.slice (some ⟨g,0,none⟩) n cap) n xs):LRow w w g n 0 xs:=by
 refine ⟨But.refl _ _,?_⟩
 rcases h.2 with ⟨e,_⟩ | ⟨g',cap',cur,e,hb,hg,hc,_,hsz,htk⟩
 ·cases e
 ·cases e
  refine ⟨cur,hg,by rw [hsz];exact Nat.mul_le_mul_right _ hc,fun k v _ hv=>?_⟩
  rw [← htk,List.getElem?_take] at hv
  split at hv
  ·rw [← Array.getElem?_toList];exact hv
  ·cases hv
theorem LRow.below {w4 wr w':World} {g n i:Nat} {xs:List Value} (h:LRow w4 wr g n i xs) (b:Below wr.heap.size wr w'):LRow w4 w' g n i xs:=by
 obtain ⟨cur,h1,h2⟩:=h.cur
 exact ⟨h.but.below b,cur,(b.block g (zac h1)).trans h1,h2⟩
theorem LRow.next {w4 wr w':World} {g n i:Nat} {xs:List Value} {cur cs':Array Value} (h:LRow w4 wr g n i xs) (h2:∀ (k:Nat) (v:Value),i*18≤k→xs[k]?=some v→cur[k]?=some v) (hn:n*18≤cur.size) (o:Only g wr w') (hg:w'.heap[g]?=some (.cells cs' 41)) (hs:cs'.size=cur.size) (hc:∀ k,i*18+18≤k→cs'[k]?=cur[k]?):LRow w4 w' g n (i+1) xs:=
 ⟨h.but.only o,cs',hg,by omega,fun k v hk hv=>by rw [hc k (by omega)];exact h2 k v (by omega) hv⟩
theorem zuu (p:Option Addr) (n cap:Nat) (w:World) (hn:65536 < n):Calls Tryz.prog 11 #[.slice p n cap] w (z01 w):=by
 have hni:(65536:Int) < n:=by omega
 go_enter Tryz.func11,Tryz.ntmps11
 go_wp2_with fail
 go_ret2
 exact ⟨rfl,Below.refl _ _⟩
theorem loadFew (l:List Tri3) (L P0 O0 D0:Value) (w:World) (hG:Gd w) (hT:Tab w) (hl:Tris w L l) (hn:l.length≤2097152) (hn60:l.length≤60) (hbad:¬ ∀ t∈l,zci t=true):
 Calls Tryz.prog 3 #[.agg #[L,P0,O0,D0]] w fun e w'=>e=.returned (.bool true)∧Below w.heap.size w w':=by
 obtain ⟨q0,cap,rfl⟩:=zc9 hl
 obtain ⟨n,hln⟩:∃ n,n=l.length:=⟨_,rfl⟩
 rw [← hln] at hn hn60 ⊢
 obtain ⟨W1,hW1⟩:∃ W1,W1=w.alloc (.cells #[.slice q0 n cap,P0,O0,D0] 26):=⟨_,rfl⟩
 have b1:Below w.heap.size w W1:=by rw [hW1];exact zap _ _
 have s1:W1.heap.size=w.heap.size+1:=by rw [hW1];simp
 have c0:W1.cell? ⟨w.heap.size,0,none⟩=some (.slice q0 n cap):=by rw [hW1];exact zab (zag _ _ rfl) 0 rfl
 have c1:W1.cell? ⟨w.heap.size,1,none⟩=some P0:=by rw [hW1];exact zab (zag _ _ rfl) 1 rfl
 have hni:¬ (60:Int) < n:=by omega
 have HBAD:=Lib.hid hbad
 clear hbad
 have HC0:Hid (∀ W,Below W1.heap.size W1 W→W.cell? ⟨w.heap.size,0,none⟩=some (.slice q0 n cap)):=Lib.hid fun W hb=>(hb.cell (p:=⟨w.heap.size,0,none⟩) (by simp only;omega)).trans c0
 have HP0:Hid (∀ W,Below W1.heap.size W1 W→W.cell? ⟨w.heap.size,1,none⟩=some P0):=Lib.hid fun W hb=>(hb.cell (p:=⟨w.heap.size,1,none⟩) (by simp only;omega)).trans c1
 have HCP:=Lib.hid (zfm l (.slice q0 n cap) W1 (by rw [hln];exact hl.below b1) (by omega))
 have HG:=Lib.hid (hG.below b1)
 have HT:=Lib.hid (hT.below b1)
 have HB1:=Lib.hid b1
 have HS1:=Lib.hid s1
 have HL:=Lib.hid hln
 have HH:Hid (Tris w (.slice q0 n cap) l):=Lib.hid (by rw [hln];exact hl)
 have HW:=Lib.hid hW1
 clear hW1 hG hT hl b1 s1 c1 hln
 go_enter Tryz.func3,Tryz.ntmps3
 go_upto_region 1 with fail
 rw [← HW.out]
 go_upto_region 4 with (go_at_call 9;(with_reducible refine HCP.out.mono ?_);rintro e w2 ⟨A,rfl,hacc⟩)
 have HT2:=Lib.hid hacc.tris
 obtain ⟨⟨xs,hown,hcf⟩,hb2⟩:=hacc
 rw [← HL.out] at hown
 obtain ⟨pa,ca,rfl,hca,hpn,hpc⟩:=zd9 hown
 obtain ⟨gL,hgL⟩:∃ gL,gL < w2.heap.size∧(0 < n→W1.heap.size≤gL∧pa=some ⟨gL,0,none⟩):=by
  cases pa with
  | none=>exact ⟨w.heap.size,by have:=hb2.size;have:=HS1.out;omega,fun h=>absurd (hpn rfl).1 (by omega)⟩
  | some ad=>
    obtain ⟨g,o,sp⟩:=ad
    obtain ⟨rfl,rfl,_⟩:=hpc g o sp rfl
    have:=hown.lt g rfl
    exact ⟨g,this.2,fun _=>⟨this.1,rfl⟩⟩
 have HGL:=Lib.hid hgL
 have HOWN:=Lib.hid hown
 have HCF:=Lib.hid hcf
 have HB2:=Lib.hid hb2
 clear hown hcf hpn hpc hgL hb2 c0
 have HLD:=Lib.hid ((zw8 _ l w2 (HG.out.below HB2.out) (HT.out.below HB2.out) HT2.out (by have:=HL.out;omega)).mono fun e w' h=>h.2 HBAD.out)
 go_upto_region 5 with (go_at_call 10;(with_reducible refine HLD.out.mono ?_);rintro e w3 ⟨rfl,hb3⟩)
 clear HLD
 have HB3:=Lib.hid (HB2.out.trans (hb3.mono HB2.out.size))
 have HB23:=Lib.hid hb3
 have c0:=HC0.out _ HB3.out
 clear hb3
 have HRF:=Lib.hid ((zqn l (.slice q0 n cap) w3 (HH.out.below (HB1.out.trans (HB3.out.mono HB1.out.size))) (by have:=HL.out;omega)).mono fun e w' h=>h.2 HBAD.out)
 go_upto_region 6 with (go_at_call 11;(with_reducible refine HRF.out.mono ?_);rintro e w4 ⟨rfl,hb4⟩)
 clear HRF
 have HB4:=Lib.hid (HB3.out.trans (hb4.mono HB3.out.size))
 have HB24:=Lib.hid (HB23.out.trans (hb4.mono HB23.out.size))
 have HB34:=Lib.hid hb4
 clear hb4 c0
 have c0:=HC0.out _ HB4.out
 have HEQ:Hid (Calls Tryz.prog 12 #[.slice pa n ca,.slice q0 n cap] w4 fun e w'=>e=.returned (.bool true)∧Below w4.heap.size w4 w'):=Lib.hid (by
  have:=zeg l l (.slice pa n ca) (.slice q0 n cap) w4 (HT2.out.below HB24.out) (HH.out.below (HB1.out.trans (HB4.out.mono HB1.out.size))) (by have:=HL.out;omega)
  rwa [beq_self_eq_true,Bool.true_and,zca] at this)
 go_upto_region 8 with (go_at_call 12;(with_reducible refine HEQ.out.mono ?_);rintro e w5 ⟨rfl,hb5⟩)
 have HB5:=Lib.hid (HB4.out.trans (hb5.mono HB4.out.size))
 have HB25:=Lib.hid (HB24.out.trans (hb5.mono HB24.out.size))
 have HB45:=Lib.hid hb5
 clear hb5 c0 HEQ
 go_wp2_with fail
 go_loopg [8] n (fun gg s8 wr=>∃ i:Nat,i+gg=n∧s8=.int .i64 i∧Hid (Below W1.heap.size W1 wr)∧Hid (But gL w5 wr)∧Hid (0 < n→LRow w5 wr gL n i xs))
 case atStart=>
  refine ⟨0,by omega,rfl,HB5,Lib.hid (But.refl _ _),Lib.hid fun h0=>?_⟩
  obtain ⟨hg1,e⟩:=HGL.out.2 h0
  have h1:=HOWN.out
  rw [e] at h1
  exact LRow.start (za9 h1 HB25.out)
 case round=>
  obtain ⟨i,hig,rfl,HB,HBT,HLR⟩:=hrel
  by_cases hlt:(i:Int) < n
  ·have hi1:i < l.length:=by have:=HL.out;omega
   obtain ⟨hg1,rfl⟩:=HGL.out.2 (by omega)
   have HLRi:=Lib.hid (HLR.out (by omega))
   obtain ⟨cur,hcur,hsz,hxs⟩:=HLRi.out.cur
   obtain ⟨g,off,rfl,hh⟩:∃ g off,q0=some ⟨g,off,none⟩∧zaq w g off (flat l):=by
    obtain ⟨p1,cap1,e,h1⟩:=HH.out
    obtain ⟨g,off,e2,h2⟩:=h1 (by intro e;rw [e] at hi1;exact absurd hi1 (by simp))
    injection e with e3 _ _
    exact ⟨g,off,by rw [e3];exact e2,h2⟩
   have hcf:za2 wr (fun _=>True) xs (flat l):=(HCF.out.stays (fun g' hg'=>⟨trivial,by
    have hne:g'≠gL:=fun e=>hg'.2.2 (by subst e;rfl)
    have hs:=HB25.out.size
    exact (HBT.out.block g' (by have:=hg'.2.1;omega) hne).trans (HB25.out.block g' hg'.2.1)⟩) _)
   obtain ⟨s,p,o,ls,lp,lo,is,ip,io,hx⟩:=zfn l xs hcf i hi1
   have ra:wr.rangeAt gL (i*18) [.int .i64 s.k,.bool s.b,.int .i64 s.n,.string s.t,.string s.x,.slice s.p s.len s.cap,.int .i64 p.k,.bool p.b,.int .i64 p.n,.string p.t,.string p.x,.slice p.p p.len p.cap,.int .i64 o.k,.bool o.b,.int .i64 o.n,.string o.t,.string o.x,.slice o.p o.len o.cap]:=fun k v hv=>zab hcur _ (hxs _ v (by omega) (hx k v hv))
   have hbw:Below w.heap.size w wr:=HB1.out.trans (HB.out.mono HB1.out.size)
   obtain ⟨s2,p2,o2,ls2,lp2,lo2,is2,ip2,io2,rb⟩:=zdk (zaq.below _ hh hbw) i hi1
   have cr:wr.cell? ⟨w.heap.size,0,none⟩=some (.slice (some ⟨g,off,none⟩) n cap):=HC0.out _ HB.out
   obtain ⟨r,hr⟩:∃ r,r=zci l[i]:=⟨_,rfl⟩
   have HC1:Hid (∀ W,Below wr.heap.size wr W→Calls Tryz.prog 13 #[.agg #[.int .i64 s.k,.bool s.b,.int .i64 s.n,.string s.t,.string s.x,.slice s.p s.len s.cap,.int .i64 p.k,.bool p.b,.int .i64 p.n,.string p.t,.string p.x,.slice p.p p.len p.cap,.int .i64 o.k,.bool o.b,.int .i64 o.n,.string o.t,.string o.x,.slice o.p o.len o.cap]] W fun e w'=>e=.returned (.bool r)∧Below W.heap.size W w'):=Lib.hid fun W hb=>by
    have:=ziw s p o _ _ _ ls lp lo W (HG.out.below (HB.out.trans (hb.mono HB.out.size))) (is.below hb) (ip.below hb) (io.below hb)
    rw [zip is ip io] at this
    rw [hr]
    exact this.mono fun e w' h=>⟨h.1,h.2.is⟩
   have HC2:Hid (∀ W,Below wr.heap.size wr W→Calls Tryz.prog 14 #[.agg #[.int .i64 s2.k,.bool s2.b,.int .i64 s2.n,.string s2.t,.string s2.x,.slice s2.p s2.len s2.cap,.int .i64 p2.k,.bool p2.b,.int .i64 p2.n,.string p2.t,.string p2.x,.slice p2.p p2.len p2.cap,.int .i64 o2.k,.bool o2.b,.int .i64 o2.n,.string o2.t,.string o2.x,.slice o2.p o2.len o2.cap]] W fun e w'=>e=.returned (.bool r)∧Below W.heap.size W w'):=Lib.hid fun W hb=>by
    have:=zhv s2 p2 o2 _ _ _ ls2 lp2 lo2 W (is2.below hb) (ip2.below hb) (io2.below hb)
    rw [zip is2 ip2 io2] at this
    rw [hr]
    exact this
   have HCUR:=Lib.hid (And.intro hcur (And.intro hsz hxs))
   clear hr is ip io is2 ip2 io2 hh hcf hx hcur hsz hxs hbw
   go_upto_region 11 with fail
   have L0:Below wr.heap.size wr wr.drew:=(Below.refl _ _).drew
   refine wp_region_held_drew (S:=fun W=>W.rangeAt gL (i*18) [.int .i64 s.k,.bool s.b,.int .i64 s.n,.string s.t,.string s.x,.slice s.p s.len s.cap,.int .i64 p.k,.bool p.b,.int .i64 p.n,.string p.t,.string p.x,.slice p.p p.len p.cap,.int .i64 o.k,.bool o.b,.int .i64 o.n,.string o.t,.string o.x,.slice o.p o.len o.cap]∧W.rangeAt g (off+i*18) [.int .i64 s2.k,.bool s2.b,.int .i64 s2.n,.string s2.t,.string s2.x,.slice s2.p s2.len s2.cap,.int .i64 p2.k,.bool p2.b,.int .i64 p2.n,.string p2.t,.string p2.x,.slice p2.p p2.len p2.cap,.int .i64 o2.k,.bool o2.b,.int .i64 o2.n,.string o2.t,.string o2.x,.slice o2.p o2.len o2.cap]∧W.cell? ⟨w.heap.size,0,none⟩=some (.slice (some ⟨g,off,none⟩) n cap)) (by kernel_rfl) ⟨ra,rb,cr⟩ (fun hHeld=>?_)
   refine tg (i:=0) (.slice (some ⟨gL,0,none⟩) n ca) rfl hHeld ?_
   refine tg (i:=1) (.int .i64 (i:Int)) rfl hHeld ?_
   refine tg (i:=2) (.pointer (some ⟨gL,i*18,none⟩)) rfl hHeld ?_
   refine tk (i:=3) rfl (yieldsIf_load_mid (by rfl) 41 (.tmp 64) rfl (gL) (i*18) rfl [.int .i64 s.k,.bool s.b,.int .i64 s.n,.string s.t,.string s.x,.slice s.p s.len s.cap,.int .i64 p.k,.bool p.b,.int .i64 p.n,.string p.t,.string p.x,.slice p.p p.len p.cap,.int .i64 o.k,.bool o.b,.int .i64 o.n,.string o.t,.string o.x,.slice o.p o.len o.cap] _ (fun W h=>h.1) Tryz.underlying41 rfl zb7) hHeld ?_
   refine tg (i:=5) (.pointer (some ⟨w.heap.size,0,none⟩)) rfl hHeld ?_
   refine tk (i:=6) (v:=.slice (some ⟨g,off,none⟩) n cap) rfl (Or.inl ⟨by rfl,fun W h=>by have c0:=h.2.2;go_simp⟩) hHeld ?_
   refine tg (i:=7) (.int .i64 (i:Int)) rfl hHeld ?_
   refine tg (i:=8) (.pointer (some ⟨g,off+i*18,none⟩)) rfl hHeld ?_
   refine tk (i:=9) rfl (yieldsIf_load_mid (by rfl) 41 (.tmp 70) rfl (g) (off+i*18) rfl [.int .i64 s2.k,.bool s2.b,.int .i64 s2.n,.string s2.t,.string s2.x,.slice s2.p s2.len s2.cap,.int .i64 p2.k,.bool p2.b,.int .i64 p2.n,.string p2.t,.string p2.x,.slice p2.p p2.len p2.cap,.int .i64 o2.k,.bool o2.b,.int .i64 o2.n,.string o2.t,.string o2.x,.slice o2.p o2.len o2.cap] _ (fun W h=>h.2.1) Tryz.underlying41 rfl zb7) hHeld ?_
   refine tr 4 rfl (fun K hK=>?_)
   rw [if_pos (by rfl)]
   go_simp
   refine (HC1.out _ L0).mono ?_
   rintro e8 w8 ⟨rfl,hb8⟩
   have hHeld8:_∧_∧_:=⟨zaf hHeld.1 hb8,zaf hHeld.2.1 hb8,(hb8.cell (p:=⟨w.heap.size,0,none⟩) (World.block_lt_of_cell? _ _ hHeld.2.2)).trans hHeld.2.2⟩
   have L8:=L0.trans (hb8.mono L0.size)
   clear hb8
   refine hK.out _ _ hHeld8 (fun _=>?_)
   clear hK K
   try simp only [putS]
   refine tr 10 rfl (fun K hK=>?_)
   rw [if_pos (by rfl)]
   go_simp
   refine (HC2.out _ L8).mono ?_
   rintro e9 w9 ⟨rfl,hb9⟩
   have hHeld9:_∧_∧_:=⟨zaf hHeld8.1 hb9,zaf hHeld8.2.1 hb9,(hb9.cell (p:=⟨w.heap.size,0,none⟩) (World.block_lt_of_cell? _ _ hHeld8.2.2)).trans hHeld8.2.2⟩
   have L9:=L8.trans (hb9.mono L8.size)
   clear hb9
   refine hK.out _ _ hHeld9 (fun _=>?_)
   clear hK K
   try simp only [putS]
   refine tg (i:=11) (.bool false) rfl hHeld9 ?_
   refine wpAnyH_done (by kernel_rfl) ?_ _
   have HL9:=Lib.hid L9
   have hcur9:=(L9.block gL (zac HCUR.out.1)).trans HCUR.out.1
   have ho9:i*18+18≤cur.size:=by have:=HCUR.out.2.1;omega
   clear hHeld hHeld8 hHeld9 L8 L9 L0 ra rb cr HC1 HC2
   go_wp2_with (first
    |((with_reducible refine zc2 (.tmp 77) (.tmp 76) gL (i*18) hcur9 ho9 ?_ ?_ ?_ ?_ ?_);rfl;rfl;rfl;rfl;intro w10 cs10 o10 h10 z10 k10))
   have hlr:LRow w5 w10 gL n (i+1) xs:=(HLRi.out.below HL9.out).next (cur:=cur) HCUR.out.2.2 HCUR.out.2.1 o10 h10 z10 k10
   have HLR2:Hid (0 < n→LRow w5 w10 gL n (i+1) xs):=Lib.hid fun _=>hlr
   have HBT2:=Lib.hid hlr.but
   have HB2:Hid (Below W1.heap.size W1 w10):=Lib.hid (zai (HB.out.trans (HL9.out.mono HB.out.size)) o10 hg1 (Nat.le_trans HB.out.size HL9.out.size))
   clear hlr o10 h10 z10 k10 hcur9
   go_wp2_with fail
   go_roundg (n - (i+1))
   case measure=>omega
   case rel=>exact ⟨i+1,by omega,by go_num,HB2,HBT2,HLR2⟩
  ·have HWK:=Lib.hid (zp6 wr (HG.out.below HB.out) (HT.out.below HB.out))
   go_wp2_with (go_at_call 8;(with_reducible refine HWK.out.mono ?_);rintro e w9 ⟨rfl,hb9⟩)
   go_ret
   exact ⟨rfl,HB1.out.trans ((HB.out.trans (hb9.mono HB.out.size)).mono HB1.out.size)⟩
theorem zz2 (l:List Tri3) (L P0 O0 D0:Value) (w:World) (hG:Gd w) (hT:Tab w) (hl:Tris w L l) (hn:l.length≤2097152) (hbig:65536 < l.length):
 Calls Tryz.prog 3 #[.agg #[L,P0,O0,D0]] w fun e w'=>e=.returned (.bool true)∧Below w.heap.size w w':=by
 obtain ⟨q0,cap,rfl⟩:=zc9 hl
 obtain ⟨n,hln⟩:∃ n,n=l.length:=⟨_,rfl⟩
 rw [← hln] at hn hbig ⊢
 obtain ⟨W1,hW1⟩:∃ W1,W1=w.alloc (.cells #[.slice q0 n cap,P0,O0,D0] 26):=⟨_,rfl⟩
 have b1:Below w.heap.size w W1:=by rw [hW1];exact zap _ _
 have s1:W1.heap.size=w.heap.size+1:=by rw [hW1];simp
 have c0:W1.cell? ⟨w.heap.size,0,none⟩=some (.slice q0 n cap):=by rw [hW1];exact zab (zag _ _ rfl) 0 rfl
 have c1:W1.cell? ⟨w.heap.size,1,none⟩=some P0:=by rw [hW1];exact zab (zag _ _ rfl) 1 rfl
 have hni:(60:Int) < n:=by omega
 have hni2:¬ (n:Int)≤65536:=by omega
 have HC0:Hid (∀ W,Below W1.heap.size W1 W→W.cell? ⟨w.heap.size,0,none⟩=some (.slice q0 n cap)):=Lib.hid fun W hb=>(hb.cell (p:=⟨w.heap.size,0,none⟩) (by simp only;omega)).trans c0
 have HP0:Hid (∀ W,Below W1.heap.size W1 W→W.cell? ⟨w.heap.size,1,none⟩=some P0):=Lib.hid fun W hb=>(hb.cell (p:=⟨w.heap.size,1,none⟩) (by simp only;omega)).trans c1
 have HCP:=Lib.hid (zfm l (.slice q0 n cap) W1 (by rw [hln];exact hl.below b1) (by omega))
 have HG:=Lib.hid (hG.below b1)
 have HT:=Lib.hid (hT.below b1)
 have HB1:=Lib.hid b1
 have HS1:=Lib.hid s1
 have HL:=Lib.hid hln
 have HH:Hid (Tris w (.slice q0 n cap) l):=Lib.hid (by rw [hln];exact hl)
 have HW:=Lib.hid hW1
 clear hW1 hG hT hl b1 s1 c1 hln
 go_enter Tryz.func3,Tryz.ntmps3
 go_upto_region 1 with fail
 rw [← HW.out]
 go_upto_region 4 with (go_at_call 9;(with_reducible refine HCP.out.mono ?_);rintro e w2 ⟨A,rfl,hacc⟩)
 have HT2:=Lib.hid hacc.tris
 obtain ⟨⟨xs,hown,hcf⟩,hb2⟩:=hacc
 rw [← HL.out] at hown
 obtain ⟨pa,ca,rfl,hca,hpn,hpc⟩:=zd9 hown
 obtain ⟨gL,hgL⟩:∃ gL,gL < w2.heap.size∧(0 < n→W1.heap.size≤gL∧pa=some ⟨gL,0,none⟩):=by
  cases pa with
  | none=>exact ⟨w.heap.size,by have:=hb2.size;have:=HS1.out;omega,fun h=>absurd (hpn rfl).1 (by omega)⟩
  | some ad=>
    obtain ⟨g,o,sp⟩:=ad
    obtain ⟨rfl,rfl,_⟩:=hpc g o sp rfl
    have:=hown.lt g rfl
    exact ⟨g,this.2,fun _=>⟨this.1,rfl⟩⟩
 have HGL:=Lib.hid hgL
 have HOWN:=Lib.hid hown
 have HCF:=Lib.hid hcf
 have HB2:=Lib.hid hb2
 clear hown hcf hpn hpc hgL hb2 c0
 have HLD:=Lib.hid (loadBig pa n ca w2 (by omega))
 go_upto_region 5 with (go_at_call 10;(with_reducible refine HLD.out.mono ?_);rintro e w3 ⟨rfl,hb3⟩)
 clear HLD
 have HB3:=Lib.hid (HB2.out.trans (hb3.mono HB2.out.size))
 have HB23:=Lib.hid hb3
 have c0:=HC0.out _ HB3.out
 clear hb3
 have HRF:=Lib.hid (zuu q0 n cap w3 (by omega))
 go_upto_region 6 with (go_at_call 11;(with_reducible refine HRF.out.mono ?_);rintro e w4 ⟨rfl,hb4⟩)
 clear HRF
 have HB4:=Lib.hid (HB3.out.trans (hb4.mono HB3.out.size))
 have HB24:=Lib.hid (HB23.out.trans (hb4.mono HB23.out.size))
 have HB34:=Lib.hid hb4
 clear hb4 c0
 have c0:=HC0.out _ HB4.out
 have HEQ:Hid (Calls Tryz.prog 12 #[.slice pa n ca,.slice q0 n cap] w4 fun e w'=>e=.returned (.bool true)∧Below w4.heap.size w4 w'):=Lib.hid (by
  have:=zeg l l (.slice pa n ca) (.slice q0 n cap) w4 (HT2.out.below HB24.out) (HH.out.below (HB1.out.trans (HB4.out.mono HB1.out.size))) (by have:=HL.out;omega)
  rwa [beq_self_eq_true,Bool.true_and,zca] at this)
 go_upto_region 8 with (go_at_call 12;(with_reducible refine HEQ.out.mono ?_);rintro e w5 ⟨rfl,hb5⟩)
 have HB5:=Lib.hid (HB4.out.trans (hb5.mono HB4.out.size))
 have HB25:=Lib.hid (HB24.out.trans (hb5.mono HB24.out.size))
 have HB45:=Lib.hid hb5
 clear hb5 c0 HEQ
 go_wp2_with fail
 go_loopg [8] n (fun gg s8 wr=>∃ i:Nat,i+gg=n∧s8=.int .i64 i∧Hid (Below W1.heap.size W1 wr)∧Hid (But gL w5 wr)∧Hid (0 < n→LRow w5 wr gL n i xs))
 case atStart=>
  refine ⟨0,by omega,rfl,HB5,Lib.hid (But.refl _ _),Lib.hid fun h0=>?_⟩
  obtain ⟨hg1,e⟩:=HGL.out.2 h0
  have h1:=HOWN.out
  rw [e] at h1
  exact LRow.start (za9 h1 HB25.out)
 case round=>
  obtain ⟨i,hig,rfl,HB,HBT,HLR⟩:=hrel
  by_cases hlt:(i:Int) < n
  ·have hi1:i < l.length:=by have:=HL.out;omega
   obtain ⟨hg1,rfl⟩:=HGL.out.2 (by omega)
   have HLRi:=Lib.hid (HLR.out (by omega))
   obtain ⟨cur,hcur,hsz,hxs⟩:=HLRi.out.cur
   obtain ⟨g,off,rfl,hh⟩:∃ g off,q0=some ⟨g,off,none⟩∧zaq w g off (flat l):=by
    obtain ⟨p1,cap1,e,h1⟩:=HH.out
    obtain ⟨g,off,e2,h2⟩:=h1 (by intro e;rw [e] at hi1;exact absurd hi1 (by simp))
    injection e with e3 _ _
    exact ⟨g,off,by rw [e3];exact e2,h2⟩
   have hcf:za2 wr (fun _=>True) xs (flat l):=(HCF.out.stays (fun g' hg'=>⟨trivial,by
    have hne:g'≠gL:=fun e=>hg'.2.2 (by subst e;rfl)
    have hs:=HB25.out.size
    exact (HBT.out.block g' (by have:=hg'.2.1;omega) hne).trans (HB25.out.block g' hg'.2.1)⟩) _)
   obtain ⟨s,p,o,ls,lp,lo,is,ip,io,hx⟩:=zfn l xs hcf i hi1
   have ra:wr.rangeAt gL (i*18) [.int .i64 s.k,.bool s.b,.int .i64 s.n,.string s.t,.string s.x,.slice s.p s.len s.cap,.int .i64 p.k,.bool p.b,.int .i64 p.n,.string p.t,.string p.x,.slice p.p p.len p.cap,.int .i64 o.k,.bool o.b,.int .i64 o.n,.string o.t,.string o.x,.slice o.p o.len o.cap]:=fun k v hv=>zab hcur _ (hxs _ v (by omega) (hx k v hv))
   have hbw:Below w.heap.size w wr:=HB1.out.trans (HB.out.mono HB1.out.size)
   obtain ⟨s2,p2,o2,ls2,lp2,lo2,is2,ip2,io2,rb⟩:=zdk (zaq.below _ hh hbw) i hi1
   have cr:wr.cell? ⟨w.heap.size,0,none⟩=some (.slice (some ⟨g,off,none⟩) n cap):=HC0.out _ HB.out
   obtain ⟨r,hr⟩:∃ r,r=zci l[i]:=⟨_,rfl⟩
   have HC1:Hid (∀ W,Below wr.heap.size wr W→Calls Tryz.prog 13 #[.agg #[.int .i64 s.k,.bool s.b,.int .i64 s.n,.string s.t,.string s.x,.slice s.p s.len s.cap,.int .i64 p.k,.bool p.b,.int .i64 p.n,.string p.t,.string p.x,.slice p.p p.len p.cap,.int .i64 o.k,.bool o.b,.int .i64 o.n,.string o.t,.string o.x,.slice o.p o.len o.cap]] W fun e w'=>e=.returned (.bool r)∧Below W.heap.size W w'):=Lib.hid fun W hb=>by
    have:=ziw s p o _ _ _ ls lp lo W (HG.out.below (HB.out.trans (hb.mono HB.out.size))) (is.below hb) (ip.below hb) (io.below hb)
    rw [zip is ip io] at this
    rw [hr]
    exact this.mono fun e w' h=>⟨h.1,h.2.is⟩
   have HC2:Hid (∀ W,Below wr.heap.size wr W→Calls Tryz.prog 14 #[.agg #[.int .i64 s2.k,.bool s2.b,.int .i64 s2.n,.string s2.t,.string s2.x,.slice s2.p s2.len s2.cap,.int .i64 p2.k,.bool p2.b,.int .i64 p2.n,.string p2.t,.string p2.x,.slice p2.p p2.len p2.cap,.int .i64 o2.k,.bool o2.b,.int .i64 o2.n,.string o2.t,.string o2.x,.slice o2.p o2.len o2.cap]] W fun e w'=>e=.returned (.bool r)∧Below W.heap.size W w'):=Lib.hid fun W hb=>by
    have:=zhv s2 p2 o2 _ _ _ ls2 lp2 lo2 W (is2.below hb) (ip2.below hb) (io2.below hb)
    rw [zip is2 ip2 io2] at this
    rw [hr]
    exact this
   have HCUR:=Lib.hid (And.intro hcur (And.intro hsz hxs))
   clear hr is ip io is2 ip2 io2 hh hcf hx hcur hsz hxs hbw
   go_upto_region 11 with fail
   have L0:Below wr.heap.size wr wr.drew:=(Below.refl _ _).drew
   refine wp_region_held_drew (S:=fun W=>W.rangeAt gL (i*18) [.int .i64 s.k,.bool s.b,.int .i64 s.n,.string s.t,.string s.x,.slice s.p s.len s.cap,.int .i64 p.k,.bool p.b,.int .i64 p.n,.string p.t,.string p.x,.slice p.p p.len p.cap,.int .i64 o.k,.bool o.b,.int .i64 o.n,.string o.t,.string o.x,.slice o.p o.len o.cap]∧W.rangeAt g (off+i*18) [.int .i64 s2.k,.bool s2.b,.int .i64 s2.n,.string s2.t,.string s2.x,.slice s2.p s2.len s2.cap,.int .i64 p2.k,.bool p2.b,.int .i64 p2.n,.string p2.t,.string p2.x,.slice p2.p p2.len p2.cap,.int .i64 o2.k,.bool o2.b,.int .i64 o2.n,.string o2.t,.string o2.x,.slice o2.p o2.len o2.cap]∧W.cell? ⟨w.heap.size,0,none⟩=some (.slice (some ⟨g,off,none⟩) n cap)) (by kernel_rfl) ⟨ra,rb,cr⟩ (fun hHeld=>?_)
   refine tg (i:=0) (.slice (some ⟨gL,0,none⟩) n ca) rfl hHeld ?_
   refine tg (i:=1) (.int .i64 (i:Int)) rfl hHeld ?_
   refine tg (i:=2) (.pointer (some ⟨gL,i*18,none⟩)) rfl hHeld ?_
   refine tk (i:=3) rfl (yieldsIf_load_mid (by rfl) 41 (.tmp 64) rfl (gL) (i*18) rfl [.int .i64 s.k,.bool s.b,.int .i64 s.n,.string s.t,.string s.x,.slice s.p s.len s.cap,.int .i64 p.k,.bool p.b,.int .i64 p.n,.string p.t,.string p.x,.slice p.p p.len p.cap,.int .i64 o.k,.bool o.b,.int .i64 o.n,.string o.t,.string o.x,.slice o.p o.len o.cap] _ (fun W h=>h.1) Tryz.underlying41 rfl zb7) hHeld ?_
   refine tg (i:=5) (.pointer (some ⟨w.heap.size,0,none⟩)) rfl hHeld ?_
   refine tk (i:=6) (v:=.slice (some ⟨g,off,none⟩) n cap) rfl (Or.inl ⟨by rfl,fun W h=>by have c0:=h.2.2;go_simp⟩) hHeld ?_
   refine tg (i:=7) (.int .i64 (i:Int)) rfl hHeld ?_
   refine tg (i:=8) (.pointer (some ⟨g,off+i*18,none⟩)) rfl hHeld ?_
   refine tk (i:=9) rfl (yieldsIf_load_mid (by rfl) 41 (.tmp 70) rfl (g) (off+i*18) rfl [.int .i64 s2.k,.bool s2.b,.int .i64 s2.n,.string s2.t,.string s2.x,.slice s2.p s2.len s2.cap,.int .i64 p2.k,.bool p2.b,.int .i64 p2.n,.string p2.t,.string p2.x,.slice p2.p p2.len p2.cap,.int .i64 o2.k,.bool o2.b,.int .i64 o2.n,.string o2.t,.string o2.x,.slice o2.p o2.len o2.cap] _ (fun W h=>h.2.1) Tryz.underlying41 rfl zb7) hHeld ?_
   refine tr 4 rfl (fun K hK=>?_)
   rw [if_pos (by rfl)]
   go_simp
   refine (HC1.out _ L0).mono ?_
   rintro e8 w8 ⟨rfl,hb8⟩
   have hHeld8:_∧_∧_:=⟨zaf hHeld.1 hb8,zaf hHeld.2.1 hb8,(hb8.cell (p:=⟨w.heap.size,0,none⟩) (World.block_lt_of_cell? _ _ hHeld.2.2)).trans hHeld.2.2⟩
   have L8:=L0.trans (hb8.mono L0.size)
   clear hb8
   refine hK.out _ _ hHeld8 (fun _=>?_)
   clear hK K
   try simp only [putS]
   refine tr 10 rfl (fun K hK=>?_)
   rw [if_pos (by rfl)]
   go_simp
   refine (HC2.out _ L8).mono ?_
   rintro e9 w9 ⟨rfl,hb9⟩
   have hHeld9:_∧_∧_:=⟨zaf hHeld8.1 hb9,zaf hHeld8.2.1 hb9,(hb9.cell (p:=⟨w.heap.size,0,none⟩) (World.block_lt_of_cell? _ _ hHeld8.2.2)).trans hHeld8.2.2⟩
   have L9:=L8.trans (hb9.mono L8.size)
   clear hb9
   refine hK.out _ _ hHeld9 (fun _=>?_)
   clear hK K
   try simp only [putS]
   refine tg (i:=11) (.bool false) rfl hHeld9 ?_
   refine wpAnyH_done (by kernel_rfl) ?_ _
   have HL9:=Lib.hid L9
   have hcur9:=(L9.block gL (zac HCUR.out.1)).trans HCUR.out.1
   have ho9:i*18+18≤cur.size:=by have:=HCUR.out.2.1;omega
   clear hHeld hHeld8 hHeld9 L8 L9 L0 ra rb cr HC1 HC2
   go_wp2_with (first
    |((with_reducible refine zc2 (.tmp 77) (.tmp 76) gL (i*18) hcur9 ho9 ?_ ?_ ?_ ?_ ?_);rfl;rfl;rfl;rfl;intro w10 cs10 o10 h10 z10 k10))
   have hlr:LRow w5 w10 gL n (i+1) xs:=(HLRi.out.below HL9.out).next (cur:=cur) HCUR.out.2.2 HCUR.out.2.1 o10 h10 z10 k10
   have HLR2:Hid (0 < n→LRow w5 w10 gL n (i+1) xs):=Lib.hid fun _=>hlr
   have HBT2:=Lib.hid hlr.but
   have HB2:Hid (Below W1.heap.size W1 w10):=Lib.hid (zai (HB.out.trans (HL9.out.mono HB.out.size)) o10 hg1 (Nat.le_trans HB.out.size HL9.out.size))
   clear hlr o10 h10 z10 k10 hcur9
   go_wp2_with fail
   go_roundg (n - (i+1))
   case measure=>omega
   case rel=>exact ⟨i+1,by omega,by go_num,HB2,HBT2,HLR2⟩
  ·have HWK:=Lib.hid (zp6 wr (HG.out.below HB.out) (HT.out.below HB.out))
   go_wp2_with (go_at_call 8;(with_reducible refine HWK.out.mono ?_);rintro e w9 ⟨rfl,hb9⟩)
   go_ret
   exact ⟨rfl,HB1.out.trans ((HB.out.trans (hb9.mono HB.out.size)).mono HB1.out.size)⟩
def twD (vk vi:V6) (bk bi:Val):Bool:=zd8 vi vk && !za7 bk bi
def zf4 (v0 v1 v2:V6) (u0 u1 u2:Val) (t:Tri3):Bool:=
 (decide (v0.k=0) || za7 u0 t.s) && ((decide (v1.k=0) || za7 u1 t.p) && ((decide (v2.k=0) || za7 u2 t.o) &&
   (!twD v0 v1 t.s t.p && (!twD v0 v2 t.s t.o && !twD v1 v2 t.p t.o))))
section
variable {l:List Tri3} {s:SM}
theorem zz3 (hl:zbf l s) (hok:∀ t∈l,zci t=true) (i j:Nat) (hi:i < s.vs.length) (hj:j < s.vs.length):za7 ((s.vs[i]?).getD nulV) ((s.vs[j]?).getD nulV)=decide (i=j):=by
 rw [List.getElem?_eq_getElem hi,List.getElem?_eq_getElem hj,Option.getD_some,Option.getD_some,Bool.eq_iff_iff,decide_eq_true_iff,zd7 (hl.plain hok _ (List.getElem_mem hi)).1 (hl.plain hok _ (List.getElem_mem hj)).1]
 constructor
 ·exact hl.rise.inj i j hi hj
 ·intro e
  subst e
  rfl
theorem zoh (hl:zbf l s) (hok:∀ t∈l,zci t=true) (vi vk:V6) (i k:Nat) (hi:i < s.vs.length) (hk:k < s.vs.length):zbg vi vk (i:Int) (k:Int)=!twD vk vi ((s.vs[k]?).getD nulV) ((s.vs[i]?).getD nulV):=by
 unfold zbg twD
 rw [zz3 hl hok k i hk hi,zzx]
 by_cases e:i=k
 ·subst e
  rfl
 ·rw [decide_eq_false e,decide_eq_false (fun e2=>e e2.symm)]
theorem fit_doc (hl:zbf l s) (hok:∀ t∈l,zci t=true) (hn:l.length≤65536) (v0 v1 v2:V6) (u0 u1 u2:Val):s.fit v0 v1 v2 u0 u1 u2=s.all.filter (zf4 v0 v1 v2 u0 u1 u2):=by
 unfold SM.fit SM.all
 rw [zzw,List.filter_map]
 congr 1
 refine List.filter_congr fun r hr=>?_
 obtain ⟨h0,h1,h2⟩:=(hl.ok hn).r r hr
 show (jnB v0 v1 v2 r && s.hasB (b3 v0 v1 v2) (u3 u0 u1 u2) r)=zf4 v0 v1 v2 u0 u1 u2 (s.tri r)
 unfold jnB zlm SM.hasB zf4 b3 u3
 rw [zoh hl hok v1 v0 r.b r.a h1 h0,zoh hl hok v2 v0 r.c r.a h2 h0,zoh hl hok v2 v1 r.c r.b h2 h1]
 have e0:za7 (s.val 0 r) u0=za7 u0 (s.tri r).s:=zfe _ _
 have e1:za7 (s.val 1 r) u1=za7 u1 (s.tri r).p:=zfe _ _
 have e2:za7 (s.val 2 r) u2=za7 u2 (s.tri r).o:=zfe _ _
 simp only [e0,e1,e2]
 unfold SM.tri
 simp only
 generalize twD v0 v1 _ _=x1
 generalize twD v0 v2 _ _=x2
 generalize twD v1 v2 _ _=x3
 generalize (decide (v0.k=0) || _)=y0
 generalize (decide (v1.k=0) || _)=y1
 generalize (decide (v2.k=0) || _)=y2
 revert x1 x2 x3 y0 y1 y2
 decide
end
end Go.Proofs.YtanbgdhmfjgihaaGreatDoor
