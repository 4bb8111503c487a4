/- Texts of one kind, one behind the other: each says ahead of itself what it shows. -/
import Derived.Test.YtcfmenkigolnoaaGreatDoorVbd
import Derived.Test.YtcfmenkigolnoaaGreatDoorVaq
import Derived.Test.YtcfmenkigolnoaaGreatDoorVbe
import Derived.Test.YtcfmenkigolnoaaGreatDoorVav
/- GAS -/
namespace Go.Proofs.YtcfmenkigolnoaaGreatDoor
open Go.RowKit
structure AskI (g:zaw) (W:World) (s xb:Nat) (bx:Array Value) (A B:Value) (w:World):Prop where
 bel:Below W.heap.size W w
 ub:w.heap[W.heap.size]?=some (.cells bx 46 (0,0))
 ug:w.heap[xb]?=some (.cells #[A,B] 25 (0,0))
 st:zcz w s g
 hA:zaj zay w (Old w) A (za3 g).nodes
 hB:zaj za0 w (Old w) B (za3 g).edges
theorem AskI.below {g:zaw} {W:World} {s xb:Nat} {bx:Array Value} {A B:Value} {w w':World} (h:AskI g W s xb bx A B w) (b:Below w.heap.size w w'):AskI g W s xb bx A B w':=
 ⟨zab h.bel b h.bel.size,(b.block _ (zaa h.ub)).trans h.ub,(b.block _ (zaa h.ug)).trans h.ug,h.st.below b,h.hA.stays (zad b),h.hB.stays (zad b)⟩
theorem zza {W w:World} {p:Option Addr} {n c:Nat} {zs:List Int} (h:zaj intE W (Old W) (.slice p n c) zs) (b:Below W.heap.size W w) (i:Nat) (hi:i < zs.length):
 ∃ g o,p=some ⟨g,o,none⟩∧w.cell? ⟨g,o+i,none⟩=some (.int .i64 zs[i])∧(Lit.int .i64 zs[i]).wf=true:=by
 obtain ⟨g,o,cap,x,e,hg,hr,hra⟩:=h.at_ i hi
 injection e with e1
 have h0:=zaz hra b 0 (.int .i64 zs[i]) (by rw [hr.1];rfl)
 refine ⟨g,o,e1,?_,hr.2⟩
 have e:o+i*intE.k+0=o+i:=by show o+i*1+0=o+i;omega
 rw [e] at h0
 exact h0
theorem text_at {W w:World} {p:Option Addr} {n c:Nat} {ts:List ByteArray} (h:zaj zbk W (Old W) (.slice p n c) ts) (b:Below W.heap.size W w) (i:Nat) (hi:i < ts.length):
 ∃ g o,p=some ⟨g,o,none⟩∧w.cell? ⟨g,o+i,none⟩=some (.string ts[i]):=by
 obtain ⟨g,o,cap,x,e,hg,hr,hra⟩:=h.at_ i hi
 injection e with e1
 have h0:=zaz hra b 0 (.string ts[i]) (by rw [hr.1];rfl)
 refine ⟨g,o,e1,?_⟩
 have e:o+i*zbk.k+0=o+i:=by show o+i*1+0=o+i;omega
 rw [e] at h0
 exact h0
theorem val_at {W w:World} {p:Option Addr} {n c:Nat} {vs:List Val} (h:zaj valE W (Old W) (.slice p n c) vs) (b:Below W.heap.size W w) (i:Nat) (hi:i < vs.length):
 ∃ g o x,p=some ⟨g,o,none⟩∧w.rangeAt g (o+i*6) x∧valE.rel w (Old w) x vs[i]:=by
 obtain ⟨g,o,cap,x,e,hg,hr,hra⟩:=h.at_ i hi
 injection e with e1
 exact ⟨g,o,x,e1,zaz hra b,valE.stays (zad b) hr⟩
theorem int_wf {n:Int} (h1:-9223372036854775808≤n) (h2:n≤9223372036854775807):(Lit.int .i64 n).wf=true:=by
 unfold Lit.wf
 simp only [Bool.and_eq_true,decide_eq_true_eq]
 have e1:IntKind.i64.min=-9223372036854775808:=by decide
 have e2:IntKind.i64.max=9223372036854775807:=by decide
 rw [e1,e2]
 exact ⟨h1,h2⟩
theorem OwnL.stay {w w':World} {N:Nat} {V:Value} {q:List Val} (h:OwnL w N V q) (hs:∀ g,N+1 < g→g < w.heap.size→w'.heap[g]?=w.heap[g]?) (hz:w.heap.size≤w'.heap.size):OwnL w' N V q:=by
 obtain ⟨xs,h1,h2⟩:=h
 exact ⟨xs,za5 h1 fun g e=>hs g (by have:=(h1.lt g e).1;omega) (h1.lt g e).2,h2.stays fun g hg=>⟨⟨hg.1,Nat.lt_of_lt_of_le hg.2 hz⟩,hs g hg.1 hg.2⟩⟩
theorem OwnL.below {w w':World} {N:Nat} {V:Value} {q:List Val} (h:OwnL w N V q) (b:Below w.heap.size w w'):OwnL w' N V q:=h.stay (fun g _ hg=>b.block g hg) b.size
theorem zyr (k:Int) (b:Bool) (n:Int) (t x:ByteArray) (q:List Val) (V:Value) (N B:Nat) (w:World) (hn:q.length≤2097152) (h:OwnL w N V q) (hf:zwx q) (hB:B≤N+2) (hw:B≤w.heap.size):
 Calls Tryz.prog 30 #[.agg #[.int .i64 k,.bool b,.int .i64 n,.string t,.string x,V]] w (OverB B w):=by
 obtain ⟨p,cap,rfl⟩:=zg0 h
 refine (zwn k b n t x q p cap (N+2) w.heap.size w hn (zwz h hf) (Nat.le_refl _)).mono ?_
 rintro e w' ⟨rfl,hw'⟩
 exact ⟨rfl,hw'.os,hw'.tape,hw'.output,hw'.size,fun i hi=>hw'.block i (by omega) (by omega)⟩
theorem zw0 {W:World} {p:Option Addr} {n c:Nat} {ts:List ByteArray} (h:zcd W (.slice p n c) ts) (k:Nat) (hk:k≤ts.length):zcd W (.slice p k c) (ts.take k):=by
 obtain ⟨p',c',e,hc⟩:=h
 injection e with e1 e2 e3
 subst e1 e3
 refine ⟨p,c,by rw [List.length_take,Nat.min_eq_left hk],fun hne=>?_⟩
 obtain ⟨g,off,rfl,hj⟩:=hc (fun q=>hne (by rw [q];simp))
 refine ⟨g,off,rfl,fun j hj2=>?_⟩
 rw [List.length_take] at hj2
 rw [hj j (by omega)]
 simp only [List.getD_eq_getElem?_getD,List.getElem?_take]
 rw [if_pos (by omega)]
def PropBox (g:zaw) (k n:Int) (ky:ByteArray) (B yy:Nat) (w:World):Prop:=
 ∃ k' b' n' t' x' q p c N,w.heap[yy]?=some (.cells #[.int .i64 k',.bool b',.int .i64 n',.string t',.string x',.slice p q.length c] 60 (0,0))∧OwnL w N (.slice p q.length c) q∧Fine n' t' x' q.length∧zqn g k n ky (.mk k' b' n' t' x' q)∧B≤N+2
theorem zhs {w:World} {P:Nat→Prop}:{xs:List Value}→(q:List Val)→RowE valE w P xs q→zbp w P xs q
 | xs,[],h=>by
   unfold RowE at h
   unfold zbp
   exact h
 | xs,.mk k b n t x q::r,h=>by
   obtain ⟨c,ys,rfl,⟨L,rfl,hf,hq⟩,hr⟩:=h
   unfold zbp
   exact ⟨L,ys,rfl,hf,hq,zhs r hr⟩
theorem OwnL.rel {w:World} {N:Nat} {k:Int} {b:Bool} {n:Int} {t x:ByteArray} {V:Value} {q:List Val} (h:OwnL w N V q) (hf:Fine n t x q.length):valE.rel w (Old w) [.int .i64 k,.bool b,.int .i64 n,.string t,.string x,V] (.mk k b n t x q):=by
 obtain ⟨xs,h1,h2⟩:=h
 refine ⟨V,rfl,hf,?_⟩
 exact zhg h1 (zhs q h2) (fun g hg=>hg.2) (fun g e=>(h1.lt g e).2)
set_option maxHeartbeats 25600000 in
set_option maxRecDepth 100000 in
theorem asksLaw (g:zaw) (zs:List Int) (vs:List Val) (ks ls:List ByteArray) (ds:List Int) (vn ve NV VV KV LV DV:Value) (W:World) (hG:Gd W) (hn:zaj zhc W (Old W) vn g.nodes) (he:zaj za0 W (Old W) ve g.edges) (hz:zaj intE W (Old W) NV zs) (hv:zaj valE W (Old W) VV vs) (hk:zaj zbk W (Old W) KV ks) (hl:zaj zbk W (Old W) LV ls) (hd:zaj intE W (Old W) DV ds) (hc:capK LV)
 (hn1:g.nodes.length≤2097152) (hn2:g.edges.length≤2097152) (hn3:zs.length≤2097152) (hn4:vs.length≤2097152) (hn5:ks.length≤2097152) (hn6:ls.length≤2097152) (hn7:ds.length≤2097152):
 Calls Tryz.prog 4 #[.agg #[vn,ve,NV,VV,KV,LV,DV]] W fun e w'=>e=.returned (.bool true)∧Below W.heap.size W w':=by
 obtain ⟨p1,cap1,rfl⟩:=hn.slice
 obtain ⟨p2,cap2,rfl⟩:=he.slice
 obtain ⟨pz,cz,rfl⟩:=hz.slice
 obtain ⟨pv,cv,rfl⟩:=hv.slice
 obtain ⟨pk,ck,rfl⟩:=hk.slice
 obtain ⟨pl,cl,rfl⟩:=hl.slice
 obtain ⟨pd,cd,rfl⟩:=hd.slice
 have HLX:=Lib.hid (fun W' (b:Below W.heap.size W W')=>lightX g _ _ W' ((zes hn).stays (zad b)) (he.stays (zad b)) hn1 hn2)
 have HMY:=Lib.hid (fun W' (b:Below W.heap.size W W')=>zsc g _ _ W' (hn.stays (zad b)) (he.stays (zad b)) hn1 hn2)
 have HLD:=Lib.hid (fun W' (b:Below W.heap.size W W')=>zyy g _ _ W' (hG.below b) ((zes hn).stays (zad b)) (he.stays (zad b)) hn1 hn2)
 have HWK:=Lib.hid (fun W' (b:Below W.heap.size W W')=>wakesAt W' (hG.below b))
 have HPL:=Lib.hid (fun W' (b:Below W.heap.size W W') (hg:zep g)=>zwu g _ _ W' hg (hn.stays (zad b)) (he.stays (zad b)))
 have HZS:=Lib.hid hz
 have HVS:=Lib.hid hv
 have HKS:=Lib.hid hk
 have HLS:=Lib.hid hl
 have HDS:=Lib.hid hd
 have HLK:=Lib.hid (show ∀ t∈ls,t.size≤2097152 from zjn hl)
 have hcl:ls.length≤cl:=hc _ _ _ rfl
 have HW:=Lib.hid (show ∀ a∈g.edges,(Lit.int .i64 a.src).wf=true∧(Lit.int .i64 a.dst).wf=true from fun a ha=>by
  obtain ⟨i,hi,rfl⟩:=List.getElem_of_mem ha
  obtain ⟨_,_,_,c,_,_,hr,_⟩:=he.at_ i hi
  obtain ⟨_,_,q,_⟩:=hr
  exact ⟨q.2.1,q.2.2⟩)
 obtain ⟨n1,hl1⟩:∃ n,n=g.nodes.length:=⟨_,rfl⟩
 obtain ⟨n2,hl2⟩:∃ n,n=g.edges.length:=⟨_,rfl⟩
 obtain ⟨nz,hlz⟩:∃ n,n=zs.length:=⟨_,rfl⟩
 obtain ⟨nv,hlv⟩:∃ n,n=vs.length:=⟨_,rfl⟩
 obtain ⟨nk,hlk⟩:∃ n,n=ks.length:=⟨_,rfl⟩
 obtain ⟨nl,hll⟩:∃ n,n=ls.length:=⟨_,rfl⟩
 obtain ⟨nd,hld⟩:∃ n,n=ds.length:=⟨_,rfl⟩
 rw [← hl1,← hl2] at HLX HMY HLD HPL
 rw [← hlz] at HZS hn3
 rw [← hlv] at HVS hn4
 rw [← hlk] at HKS hn5
 rw [← hll] at HLS hn6 hcl
 rw [← hld] at HDS hn7
 rw [← hl1,← hl2,← hlz,← hlv,← hlk,← hll,← hld]
 obtain ⟨W0,hW0⟩:∃ W0,W0=W.alloc (.cells #[.slice p1 n1 cap1,.slice p2 n2 cap2,.slice pz nz cz,.slice pv nv cv,.slice pk nk ck,.slice pl nl cl,.slice pd nd cd] 46):=⟨_,rfl⟩
 have hub:W0.heap[W.heap.size]?=some (.cells #[.slice p1 n1 cap1,.slice p2 n2 cap2,.slice pz nz cz,.slice pv nv cv,.slice pk nk ck,.slice pl nl cl,.slice pd nd cd] 46 (0,0)):=by rw [hW0];exact zae _ _ rfl
 have b0:Below W.heap.size W W0:=by rw [hW0];exact zar _ _
 have H0:=Lib.hid hW0
 have HL:=Lib.hid (And.intro hl1 (And.intro hl2 (And.intro hlz (And.intro hlv (And.intro hlk (And.intro hll hld))))))
 have HCL:=Lib.hid hcl
 clear hcl hn he hz hv hk hl hd hc hW0 hl1 hl2 hlz hlv hlk hll hld hG hn1 hn2
 go_enter Tryz.func4,Tryz.ntmps4
 go_upto_region 1 with fail
 rw [← H0.out]
 obtain ⟨lb,hlb⟩:∃ b,b=zwv g:=⟨_,rfl⟩
 have HLX0:Hid (Calls Tryz.prog 8 #[.agg #[.slice p1 n1 cap1,.slice p2 n2 cap2]] W0 (zy9 W0 lb)):=Lib.hid (by rw [hlb];exact HLX.out W0 b0)
 clear hlb HLX
 cases lb with
 | false=>
   go_wp2_with (first
    |((with_reducible refine zap (.tmp 23) W.heap.size 0 25 [.slice p1 n1 cap1,.slice p2 n2 cap2] 2 _ (zax hub 0 _ rfl) rfl Tryz.underlying25 rfl zbh ?_ ?_ ?_ ?_);rfl;rfl;rfl)
    |(go_at_call 8;(with_reducible refine HLX0.out.mono ?_);rintro e w1 ⟨rfl,hb1⟩;have b1:=zab b0 hb1 b0.size)
    |(go_at_call 9;(with_reducible refine (HWK.out _ b1).mono ?_);rintro e w2 ⟨rfl,hb2⟩))
   go_ret
   exact ⟨rfl,zab b1 hb2 b1.size⟩
 | true=>
   obtain ⟨gb,hgb⟩:∃ b,b=zd5 g:=⟨_,rfl⟩
   have HMY0:Hid (∀ W',Below W.heap.size W W'→Calls Tryz.prog 14 #[.agg #[.slice p1 n1 cap1,.slice p2 n2 cap2]] W' fun e w'=>e=.returned (.bool gb)∧Below W'.heap.size W' w'):=Lib.hid (by rw [hgb];exact HMY.out)
   have HGB:=Lib.hid hgb
   clear hgb HMY
   cases gb with
   | false=>
     go_wp2_with (first
      |((with_reducible refine zap (.tmp 23) W.heap.size 0 25 [.slice p1 n1 cap1,.slice p2 n2 cap2] 2 _ (zax hub 0 _ rfl) rfl Tryz.underlying25 rfl zbh ?_ ?_ ?_ ?_);rfl;rfl;rfl)
      |(go_at_call 8;(with_reducible refine HLX0.out.mono ?_);rintro e w1 ⟨rfl,hb1⟩;have b1:=zab b0 hb1 b0.size;replace hub:=(hb1.block _ (zaa hub)).trans hub)
      |((with_reducible refine zcv (.tmp 28) W.heap.size 0 25 [.slice p1 n1 cap1,.slice p2 n2 cap2] 2 _ (zax hub 0 _ rfl) rfl Tryz.underlying25 rfl zbh ?_ ?_ ?_ ?_);rfl;rfl;rfl)
      |(go_at_call 14;(with_reducible refine (HMY0.out _ b1).mono ?_);rintro e w3 ⟨rfl,hb3⟩;have b3:=zab b1 hb3 b1.size)
      |(go_at_call 9;(with_reducible refine (HWK.out _ b3).mono ?_);rintro e w2 ⟨rfl,hb2⟩))
     go_ret
     exact ⟨rfl,zab b3 hb2 b3.size⟩
   | true=>
     have hgg:=goodG HGB.out.symm
     have HGG:=Lib.hid hgg
     have HLD2:Hid (∀ W',Below W.heap.size W W'→Calls Tryz.prog 11 #[.agg #[.slice p1 n1 cap1,.slice p2 n2 cap2]] W' fun e w'=>∃ s,e=.returned (.tuple #[.pointer (some ⟨s,0,none⟩),.int .i64 0])∧zcz w' s g∧Below W'.heap.size W' w'):=Lib.hid fun W' b=>by
      refine (HLD.out W' b).mono ?_
      rintro e w' ⟨hb,h⟩
      rw [if_pos HGB.out.symm] at h
      obtain ⟨s,rfl,hs⟩:=h
      exact ⟨s,rfl,hs,hb⟩
     have HPL2:Hid (∀ W',Below W.heap.size W W'→Calls Tryz.prog 15 #[.agg #[.slice p1 n1 cap1,.slice p2 n2 cap2]] W' (zhr W' g)):=Lib.hid fun W' b=>HPL.out W' b HGG.out
     clear HLD HPL hgg
     go_upto_region 7 with (first
      |((with_reducible refine zap (.tmp 23) W.heap.size 0 25 [.slice p1 n1 cap1,.slice p2 n2 cap2] 2 _ (zax hub 0 _ rfl) rfl Tryz.underlying25 rfl zbh ?_ ?_ ?_ ?_);rfl;rfl;rfl)
      |(go_at_call 8;(with_reducible refine HLX0.out.mono ?_);rintro e w1 ⟨rfl,hb1⟩;have b1:=zab b0 hb1 b0.size;replace hub:=(hb1.block _ (zaa hub)).trans hub)
      |((with_reducible refine zcv (.tmp 28) W.heap.size 0 25 [.slice p1 n1 cap1,.slice p2 n2 cap2] 2 _ (zax hub 0 _ rfl) rfl Tryz.underlying25 rfl zbh ?_ ?_ ?_ ?_);rfl;rfl;rfl)
      |(go_at_call 14;(with_reducible refine (HMY0.out _ b1).mono ?_);rintro e w3 ⟨rfl,hb3⟩;have b3:=zab b1 hb3 b1.size;replace hub:=(hb3.block _ (zaa hub)).trans hub)
      |((with_reducible refine zap (.tmp 35) W.heap.size 0 25 [.slice p1 n1 cap1,.slice p2 n2 cap2] 2 _ (zax hub 0 _ rfl) rfl Tryz.underlying25 rfl zbh ?_ ?_ ?_ ?_);rfl;rfl;rfl)
      |(go_at_call 11;(with_reducible refine (HLD2.out _ b3).mono ?_);rintro e w4 ⟨s,rfl,hst,hb4⟩;have b4:=zab b3 hb4 b3.size;replace hub:=(hb4.block _ (zaa hub)).trans hub;have HST:=Lib.hid hst;clear hst)
      |((with_reducible refine zap (.tmp 46) W.heap.size 0 25 [.slice p1 n1 cap1,.slice p2 n2 cap2] 2 _ (zax hub 0 _ rfl) rfl Tryz.underlying25 rfl zbh ?_ ?_ ?_ ?_);rfl;rfl;rfl)
      |(go_at_call 15;(with_reducible refine (HPL2.out _ b4).mono ?_);rintro e w5 ⟨A,B,rfl,hA,hB,hb5⟩
        have b5:=zab b4 hb5 b4.size
        replace hub:=(hb5.block _ (zaa hub)).trans hub
        have HST5:=Lib.hid (HST.out.below hb5)
        have HAB:=Lib.hid (And.intro (zes hA) hB)
        have hone:∀ u∈[A,B],u.oneCell'=true:=by
         intro u hu
         obtain ⟨pa,ka,ea⟩:=hA.slice
         obtain ⟨pb,kb,eb⟩:=hB.slice
         rw [ea,eb] at hu
         simp only [List.mem_cons,List.mem_nil_iff,or_false] at hu
         rcases hu with rfl | rfl <;> rfl
        clear hA hB)
      |((with_reducible refine zag (.tmp 5) (.tmp 48) w5.heap.size 25 25 _ [A,B] 2 (zae _ _ rfl) rfl ?_ ?_ ?_ ?_ zbh rfl hone ?_);rfl;rfl;rfl;rfl;intro wX oX uX))
     have bX:Below w5.heap.size w5 wX:=zaf (zar w5 _) oX (Nat.le_refl _) (by simp)
     obtain ⟨xb,hxb⟩:∃ xb,xb=w5.heap.size:=⟨_,rfl⟩
     rw [← hxb] at uX ⊢
     have HI:Hid (AskI g W s xb #[.slice p1 n1 cap1,.slice p2 n2 cap2,.slice pz nz cz,.slice pv nv cv,.slice pk nk ck,.slice pl nl cl,.slice pd nd cd] A B wX):=Lib.hid ⟨zab b5 bX b5.size,(bX.block _ (zaa hub)).trans hub,uX,HST5.out.below bX,(HAB.out.1.stays fun i hi=>⟨hi.2,rfl⟩).stays (zad bX),(HAB.out.2.stays fun i hi=>⟨hi.2,rfl⟩).stays (zad bX)⟩
     have HAS:Hid ((∃ p n c,A=.slice p n c)∧∃ p n c,B=.slice p n c):=Lib.hid ⟨(let ⟨p,c,e⟩:=HAB.out.1.slice;⟨p,_,c,e⟩),(let ⟨p,c,e⟩:=HAB.out.2.slice;⟨p,_,c,e⟩)⟩
     clear uX oX bX hxb hb1 b1 hb3 b3 hb4 b4 hb5 b5 hub b0 HST HST5 HAB hone HLD2 HPL2 HMY0 HLX0 H0 HGB
     go_upto_block 0 with fail
     go_cut [6] (fun _ wx=>Hid (AskI g W s xb #[.slice p1 n1 cap1,.slice p2 n2 cap2,.slice pz nz cz,.slice pv nv cv,.slice pk nk ck,.slice pl nl cl,.slice pd nd cd] A B wx))
     case first=>
      go_wp2_with fail
      go_loopg [6] nz (fun gg s6 wr=>∃ i:Nat,i+gg=nz∧s6=.int .i64 i∧Hid (AskI g W s xb #[.slice p1 n1 cap1,.slice p2 n2 cap2,.slice pz nz cz,.slice pv nv cv,.slice pk nk ck,.slice pl nl cl,.slice pd nd cd] A B wr))
      case atStart=>exact ⟨0,by omega,rfl,HI⟩
      case round=>
       clear HI
       obtain ⟨i,hig,rfl,HI⟩:=hrel
       have c2:=zac HI.out.ub 2 rfl
       by_cases hi:(i:Int) < nz
       ·by_cases hi12:(i:Int) < 12
        ·have hi1:i < zs.length:=by have:=HL.out.2.2.1;omega
         obtain ⟨gz,oz,rfl,cz0,hwf⟩:=zza HZS.out (Below.refl _ _) i hi1
         obtain ⟨z,hz⟩:∃ z,z=zs[i]:=⟨_,rfl⟩
         rw [← hz] at cz0 hwf
         have CZ:=Lib.hid cz0
         have HWF:=Lib.hid hwf
         obtain ⟨bn,hbn⟩:∃ b,b=decide (z∈g.nodes.map zaq.id):=⟨_,rfl⟩
         obtain ⟨be,hbe⟩:∃ b,b=decide (z∈g.edges.map zas.id):=⟨_,rfl⟩
         obtain ⟨an,han⟩:∃ b,b=zf0 g z:=⟨_,rfl⟩
         obtain ⟨ae,hae⟩:∃ b,b=zf1 g z:=⟨_,rfl⟩
         have HNB:Hid (∀ W',zcz W' s g→Calls Tryz.prog 17 #[.pointer (some ⟨s,0,none⟩),.int .i64 z] W' fun e w'=>∃ c,e=.returned (.tuple #[.agg c.toArray,.bool bn])∧zay.rel w' (New W' w') c an∧Below W'.heap.size W' w'):=Lib.hid fun W' h=>by
          rw [hbn,han]
          exact zya W' s g h HGG.out z HWF.out
         have HEB:Hid (∀ W',zcz W' s g→Calls Tryz.prog 19 #[.pointer (some ⟨s,0,none⟩),.int .i64 z] W' fun e w'=>∃ c,e=.returned (.tuple #[.agg c.toArray,.bool be])∧za0.rel w' (New W' w') c ae∧Below W'.heap.size W' w'):=Lib.hid fun W' h=>by
          rw [hbe,hae]
          exact zyb W' s g h HGG.out z HWF.out
         have HBN:Hid (bn=decide (z∈(za3 g).nodes.map zaq.id)∧an=zdn (za3 g).nodes z):=Lib.hid ⟨by rw [hbn,zyi HGG.out],by rw [han,zq4 HGG.out]⟩
         have HBE:Hid (be=decide (z∈(za3 g).edges.map zas.id)∧ae=zdo (za3 g).edges z):=Lib.hid ⟨by rw [hbe,zyj HGG.out],by rw [hae,zq5 HGG.out]⟩
         have BQ:=Lib.hid (Below.refl wr.heap.size wr)
         clear hz cz0 hwf hbn hbe han hae c2
         have c2:=zac HI.out.ub 2 rfl
         have cz0:=zah CZ.out HI.out.bel
         go_upto_region 11 with (first
          |(go_at_call 17;(with_reducible refine (HNB.out _ HI.out.st).mono ?_);rintro e w1 ⟨cn,rfl,hr,hb1⟩;have hlen:cn.length=3:=zay.len hr;have hone:=zay.one hr;have HR:=Lib.hid hr;clear hr)
          |((with_reducible refine zag (.tmp 7) (.tmp 68) w1.heap.size 38 38 _ cn 3 (zae _ _ rfl) hlen ?_ ?_ ?_ ?_ zam rfl hone ?_);rfl;rfl;rfl;rfl;intro wX oX hX))
         have bX:Below w1.heap.size w1 wX:=zaf (zar w1 _) oX (Nat.le_refl _) (by simp)
         obtain ⟨nb,hnb⟩:∃ x,x=w1.heap.size:=⟨_,rfl⟩
         rw [← hnb] at hX ⊢
         have HXnb:Hid (wX.heap[nb]?=some (.cells cn.toArray 38 (0,0))∧zay.rel wX (Old wX) cn an):=Lib.hid ⟨hX,zay.stays (zad bX) (zay.stays (fun i hi=>⟨hi.2,rfl⟩) HR.out)⟩
         have bq:=zab hb1 bX hb1.size
         replace HI:=Lib.hid (HI.out.below bq)
         replace BQ:=Lib.hid (zab BQ.out bq BQ.out.size)
         clear hX oX bX hnb hb1 hlen hone HR c2 cz0 bq
         go_cut [9,10] (fun sy sbb wx=>∃ yy dd,sy=.pointer (some ⟨yy,0,none⟩)∧sbb=.bool bn∧Hid (wx.heap[yy]?=some (.cells dd.toArray 38 (0,0))∧zay.rel wx (Old wx) dd an∧Below wX.heap.size wX wx))
         case first=>
          as_aux_lemma=>
           have hu:=HI.out.ub
           have hv:=HI.out.ug
           have hzc:=zah CZ.out HI.out.bel
           have hgz:gz < wX.heap.size:=World.block_lt_of_cell? wX _ hzc
           have hux:=zaa hu
           have hvx:=zaa hv
           have HRF:Hid (∀ W',Below wX.heap.size wX W'→Calls Tryz.prog 18 #[.agg #[A,B],.int .i64 z] W' fun e w'=>∃ c,e=.returned (.tuple #[.agg c.toArray,.bool bn])∧zay.rel w' (Old wX) c an∧Below W'.heap.size W' w'):=Lib.hid fun W' b=>by
            refine (zoo (za3 g).nodes A B z W' (Old wX) (fun i hi=>Nat.lt_of_lt_of_le hi b.size) (HI.out.hA.stays fun i hi=>⟨hi,b.block i hi⟩) HAS.out.2 (by rw [zed];exact Nat.le_trans HGG.out.nn (by decide))).mono ?_
            rintro e w' ⟨c,rfl,h1,h2⟩
            rw [← HBN.out.1]
            rw [← HBN.out.2] at h1
            exact ⟨c,rfl,h1,h2⟩
           have bD:Below wX.heap.size wX wX.drew:=(Below.refl _ _).drew
           refine wp_region_held_drew (S:=fun W'=>W'.heap[W.heap.size]?=some (.cells #[.slice p1 n1 cap1,.slice p2 n2 cap2,.slice (some ⟨gz,oz,none⟩) nz cz,.slice pv nv cv,.slice pk nk ck,.slice pl nl cl,.slice pd nd cd] 46 (0,0))∧W'.heap[xb]?=some (.cells #[A,B] 25 (0,0))∧W'.cell? ⟨gz,oz+i,none⟩=some (.int .i64 z)) (by kernel_rfl) ⟨hu,hv,hzc⟩ (fun _=>?_)
           replace hu:wX.drew.heap[W.heap.size]?=_:=hu
           replace hv:wX.drew.heap[xb]?=_:=hv
           replace hzc:wX.drew.cell? _=_:=hzc
           generalize wX.drew=wD at*
           refine tk (i:=0) (v:=.agg #[A,B]) rfl (yieldsIf_load_mid (by rfl) 25 (.tmp 5) rfl xb 0 rfl [A,B] _ (fun W' h=>zax h.2.1 0 _ rfl) Tryz.underlying25 rfl zbh) (⟨hu,hv,hzc⟩) ?_
           refine tg (i:=1) (.pointer (some ⟨W.heap.size,2,none⟩)) rfl (⟨hu,hv,hzc⟩) ?_
           refine tg (i:=3) (.int .i64 (i:Int)) rfl (⟨hu,hv,hzc⟩) ?_
           refine tk (i:=2) (v:=.slice (some ⟨gz,oz,none⟩) nz cz) rfl (Or.inl ⟨by rfl,fun W' h=>by have c0:=zac h.1 2 rfl;go_simp⟩) (⟨hu,hv,hzc⟩) ?_
           refine tg (i:=4) (.pointer (some ⟨gz,oz+i,none⟩)) rfl (⟨hu,hv,hzc⟩) ?_
           refine tk (i:=5) (v:=.int .i64 z) rfl (Or.inl ⟨by rfl,fun W' h=>by have c0:=h.2.2;go_simp⟩) (⟨hu,hv,hzc⟩) ?_
           refine wpAnyH_ready (rs:=[6,10]) (by kernel_rfl) (by simp) ?_
           refine AllReadyH.cons rfl (fun K hK=>?_) (AllReadyH.cons rfl (fun K hK=>?_) AllReadyH.nil)
           ·rw [if_pos (by rfl)]
            go_simp
            refine (HRF.out _ bD).mono ?_
            rintro e0 w3 ⟨dd,rfl,hdd,hb3⟩
            have hdl:dd.length=3:=zay.len hdd
            have hdo:=zay.one hdd
            replace hu:=(hb3.block _ (zaa hu)).trans hu
            replace hv:=(hb3.block _ (zaa hv)).trans hv
            replace hzc:=zah hzc hb3
            replace bD:=zab bD hb3 bD.size
            clear hb3
            refine hK.out _ _ (⟨hu,hv,hzc⟩) (fun _=>?_)
            clear hK K
            try simp only [putS]
            refine tg (i:=7) (.tuple #[.agg dd.toArray,.bool bn]) rfl (⟨hu,hv,hzc⟩) ?_
            refine tg (i:=8) (.agg dd.toArray) rfl (⟨hu,hv,hzc⟩) ?_
            refine tg (i:=9) (.bool bn) rfl (⟨hu,hv,hzc⟩) ?_
            refine tr 10 rfl (fun K hK=>?_)
            try rw [if_pos (by rfl)]
            go_simp
            have hba:=zar w3 (.cells #[.int .i64 0,.slice none 0 0,.slice none 0 0] 38)
            obtain ⟨yy,hyx⟩:∃ y,y=w3.heap.size:=⟨_,rfl⟩
            have hyge:wX.heap.size≤yy:=by rw [hyx];exact bD.size
            have hyy:(w3.alloc (.cells #[.int .i64 0,.slice none 0 0,.slice none 0 0] 38)).heap[yy]?=some (.cells #[.int .i64 0,.slice none 0 0,.slice none 0 0] 38 (0,0)):=zae _ _ hyx.symm
            replace hdd:zay.rel (w3.alloc (.cells #[.int .i64 0,.slice none 0 0,.slice none 0 0] 38)) (Old wX) dd an:=zay.stays (fun i hi=>⟨hi,hba.block i (Nat.lt_of_lt_of_le hi bD.size)⟩) hdd
            replace hu:=(hba.block _ (zaa hu)).trans hu
            replace hv:=(hba.block _ (zaa hv)).trans hv
            replace hzc:=zah hzc hba
            replace bD:=zab bD hba bD.size
            try rw [← hyx]
            generalize (w3.alloc (.cells #[.int .i64 0,.slice none 0 0,.slice none 0 0] 38))=wA at*
            clear hba hyx
            refine hK.out _ _ (⟨hu,hv,hzc⟩) (fun _=>?_)
            clear hK K
            try simp only [putS]
            refine tr 11 rfl (fun K hK=>?_)
            try rw [if_pos (by rfl)]
            have on:=Only.setRow (b:=yy) wA dd.toArray
            have hy5:=zb3 (c':=dd.toArray) hyy
            refine wp_store_row 38 (.tmp 9) (.tmp 78) rfl yy dd.toArray rfl rfl 38 _ hyy (by rw [zam];simp [hdl]) (by simp [hdl]) (all_oneCell_toArray hdo) ?_
            replace hu:=(on.block _ (zaa hu) (by omega)).trans hu
            replace hv:=(on.block _ (zaa hv) (by omega)).trans hv
            replace hzc:=(World.cell?_of_block (a:=⟨gz,oz+i,none⟩) (on.block gz (by have:=bD.size;omega) (by omega))).trans hzc
            have hd5:=zay.stays (P':=Old wX) (fun i hi=>⟨hi,on.block i (Nat.lt_of_lt_of_le hi bD.size) (by have:i < wX.heap.size:=hi;omega)⟩) hdd
            have b5:=zaf bD on hyge bD.size
            refine hK.out _ _ (⟨hu,hv,hzc⟩) (fun _=>?_)
            clear hK K
            try simp only [putS]
            refine tg (i:=12) (.bool bn) rfl (⟨hu,hv,hzc⟩) ?_
            refine wpAnyH_done (by kernel_rfl) ?_ _
            go_wp2_with fail
            go_meet
            case rel=>exact ⟨yy,dd,rfl,rfl,Lib.hid ⟨hy5,zay.stays (fun i hi=>⟨Nat.lt_of_lt_of_le hi b5.size,rfl⟩) hd5,b5⟩⟩
           ·try rw [if_pos (by rfl)]
            go_simp
            have hba:=zar wD (.cells #[.int .i64 0,.slice none 0 0,.slice none 0 0] 38)
            obtain ⟨yy,hyx⟩:∃ y,y=wD.heap.size:=⟨_,rfl⟩
            have hyge:wX.heap.size≤yy:=by rw [hyx];exact bD.size
            have hyy:(wD.alloc (.cells #[.int .i64 0,.slice none 0 0,.slice none 0 0] 38)).heap[yy]?=some (.cells #[.int .i64 0,.slice none 0 0,.slice none 0 0] 38 (0,0)):=zae _ _ hyx.symm
            replace hu:=(hba.block _ (zaa hu)).trans hu
            replace hv:=(hba.block _ (zaa hv)).trans hv
            replace hzc:=zah hzc hba
            replace bD:=zab bD hba bD.size
            try rw [← hyx]
            generalize (wD.alloc (.cells #[.int .i64 0,.slice none 0 0,.slice none 0 0] 38))=wA at*
            clear hba hyx
            refine hK.out _ _ (⟨hu,hv,hzc⟩) (fun _=>?_)
            clear hK K
            try simp only [putS]
            refine tr 6 rfl (fun K hK=>?_)
            rw [if_pos (by rfl)]
            go_simp
            refine (HRF.out _ bD).mono ?_
            rintro e0 w3 ⟨dd,rfl,hdd,hb3⟩
            have hdl:dd.length=3:=zay.len hdd
            have hdo:=zay.one hdd
            replace hu:=(hb3.block _ (zaa hu)).trans hu
            replace hv:=(hb3.block _ (zaa hv)).trans hv
            replace hzc:=zah hzc hb3
            replace bD:=zab bD hb3 bD.size
            replace hyy:=(hb3.block _ (zaa hyy)).trans hyy
            clear hb3
            refine hK.out _ _ (⟨hu,hv,hzc⟩) (fun _=>?_)
            clear hK K
            try simp only [putS]
            refine tg (i:=7) (.tuple #[.agg dd.toArray,.bool bn]) rfl (⟨hu,hv,hzc⟩) ?_
            refine tg (i:=8) (.agg dd.toArray) rfl (⟨hu,hv,hzc⟩) ?_
            refine tg (i:=9) (.bool bn) rfl (⟨hu,hv,hzc⟩) ?_
            refine tr 11 rfl (fun K hK=>?_)
            try rw [if_pos (by rfl)]
            have on:=Only.setRow (b:=yy) w3 dd.toArray
            have hy5:=zb3 (c':=dd.toArray) hyy
            refine wp_store_row 38 (.tmp 9) (.tmp 78) rfl yy dd.toArray rfl rfl 38 _ hyy (by rw [zam];simp [hdl]) (by simp [hdl]) (all_oneCell_toArray hdo) ?_
            replace hu:=(on.block _ (zaa hu) (by omega)).trans hu
            replace hv:=(on.block _ (zaa hv) (by omega)).trans hv
            replace hzc:=(World.cell?_of_block (a:=⟨gz,oz+i,none⟩) (on.block gz (by have:=bD.size;omega) (by omega))).trans hzc
            have hd5:=zay.stays (P':=Old wX) (fun i hi=>⟨hi,on.block i (Nat.lt_of_lt_of_le hi bD.size) (by have:i < wX.heap.size:=hi;omega)⟩) hdd
            have b5:=zaf bD on hyge bD.size
            refine hK.out _ _ (⟨hu,hv,hzc⟩) (fun _=>?_)
            clear hK K
            try simp only [putS]
            refine tg (i:=12) (.bool bn) rfl (⟨hu,hv,hzc⟩) ?_
            refine wpAnyH_done (by kernel_rfl) ?_ _
            go_wp2_with fail
            go_meet
            case rel=>exact ⟨yy,dd,rfl,rfl,Lib.hid ⟨hy5,zay.stays (fun i hi=>⟨Nat.lt_of_lt_of_le hi b5.size,rfl⟩) hd5,b5⟩⟩
         case rest=>
          rename World=>wqnb
          obtain ⟨yb,dn,rfl,rfl,HC⟩:=hcut
          replace HI:=Lib.hid (HI.out.below HC.out.2.2)
          replace BQ:=Lib.hid (zab BQ.out HC.out.2.2 BQ.out.size)
          have HYyb:Hid (wqnb.heap[yb]?=some (.cells dn.toArray 38 (0,0))∧zay.rel wqnb (Old wqnb) dn an):=Lib.hid ⟨HC.out.1,HC.out.2.1⟩
          replace HXnb:Hid (wqnb.heap[nb]?=some (.cells cn.toArray 38 (0,0))∧zay.rel wqnb (Old wqnb) cn an):=Lib.hid ⟨(HC.out.2.2.block _ (zaa HXnb.out.1)).trans HXnb.out.1,zay.stays (zad HC.out.2.2) HXnb.out.2⟩
          clear HC
          have c2:=zac HI.out.ub 2 rfl
          have cz0:=zah CZ.out HI.out.bel
          go_upto_region 13 with (first
           |(go_at_call 19;(with_reducible refine (HEB.out _ HI.out.st).mono ?_);rintro e w1 ⟨ce,rfl,hr,hb1⟩;have hlen:ce.length=5:=za0.len hr;have hone:=za0.one hr;have HR:=Lib.hid hr;clear hr)
           |((with_reducible refine zag (.tmp 11) (.tmp 88) w1.heap.size 41 41 _ ce 5 (zae _ _ rfl) hlen ?_ ?_ ?_ ?_ zak rfl hone ?_);rfl;rfl;rfl;rfl;intro wX oX hX))
          have bX:Below w1.heap.size w1 wX:=zaf (zar w1 _) oX (Nat.le_refl _) (by simp)
          obtain ⟨mb,hnb⟩:∃ x,x=w1.heap.size:=⟨_,rfl⟩
          rw [← hnb] at hX ⊢
          have HXmb:Hid (wX.heap[mb]?=some (.cells ce.toArray 41 (0,0))∧za0.rel wX (Old wX) ce ae):=Lib.hid ⟨hX,za0.stays (zad bX) (za0.stays (fun i hi=>⟨hi.2,rfl⟩) HR.out)⟩
          have bq:=zab hb1 bX hb1.size
          replace HI:=Lib.hid (HI.out.below bq)
          replace BQ:=Lib.hid (zab BQ.out bq BQ.out.size)
          replace HXnb:Hid (wX.heap[nb]?=some (.cells cn.toArray 38 (0,0))∧zay.rel wX (Old wX) cn an):=Lib.hid ⟨(bq.block _ (zaa HXnb.out.1)).trans HXnb.out.1,zay.stays (zad bq) HXnb.out.2⟩
          replace HYyb:Hid (wX.heap[yb]?=some (.cells dn.toArray 38 (0,0))∧zay.rel wX (Old wX) dn an):=Lib.hid ⟨(bq.block _ (zaa HYyb.out.1)).trans HYyb.out.1,zay.stays (zad bq) HYyb.out.2⟩
          clear hX oX bX hnb hb1 hlen hone HR c2 cz0 bq
          go_cut [13,14] (fun sy sbb wx=>∃ yy dd,sy=.pointer (some ⟨yy,0,none⟩)∧sbb=.bool be∧Hid (wx.heap[yy]?=some (.cells dd.toArray 41 (0,0))∧za0.rel wx (Old wx) dd ae∧Below wX.heap.size wX wx))
          case first=>
           as_aux_lemma=>
            have hu:=HI.out.ub
            have hv:=HI.out.ug
            have hzc:=zah CZ.out HI.out.bel
            have hgz:gz < wX.heap.size:=World.block_lt_of_cell? wX _ hzc
            have hux:=zaa hu
            have hvx:=zaa hv
            have HRF:Hid (∀ W',Below wX.heap.size wX W'→Calls Tryz.prog 20 #[.agg #[A,B],.int .i64 z] W' fun e w'=>∃ c,e=.returned (.tuple #[.agg c.toArray,.bool be])∧za0.rel w' (Old wX) c ae∧Below W'.heap.size W' w'):=Lib.hid fun W' b=>by
             refine (zop (za3 g).edges A B z W' (Old wX) (fun i hi=>Nat.lt_of_lt_of_le hi b.size) (HI.out.hB.stays fun i hi=>⟨hi,b.block i hi⟩) HAS.out.1 (by rw [zdt];exact Nat.le_trans HGG.out.ne (by decide))).mono ?_
             rintro e w' ⟨c,rfl,h1,h2⟩
             rw [← HBE.out.1]
             rw [← HBE.out.2] at h1
             exact ⟨c,rfl,h1,h2⟩
            have bD:Below wX.heap.size wX wX.drew:=(Below.refl _ _).drew
            refine wp_region_held_drew (S:=fun W'=>W'.heap[W.heap.size]?=some (.cells #[.slice p1 n1 cap1,.slice p2 n2 cap2,.slice (some ⟨gz,oz,none⟩) nz cz,.slice pv nv cv,.slice pk nk ck,.slice pl nl cl,.slice pd nd cd] 46 (0,0))∧W'.heap[xb]?=some (.cells #[A,B] 25 (0,0))∧W'.cell? ⟨gz,oz+i,none⟩=some (.int .i64 z)) (by kernel_rfl) ⟨hu,hv,hzc⟩ (fun _=>?_)
            replace hu:wX.drew.heap[W.heap.size]?=_:=hu
            replace hv:wX.drew.heap[xb]?=_:=hv
            replace hzc:wX.drew.cell? _=_:=hzc
            generalize wX.drew=wD at*
            refine tk (i:=0) (v:=.agg #[A,B]) rfl (yieldsIf_load_mid (by rfl) 25 (.tmp 5) rfl xb 0 rfl [A,B] _ (fun W' h=>zax h.2.1 0 _ rfl) Tryz.underlying25 rfl zbh) (⟨hu,hv,hzc⟩) ?_
            refine tg (i:=1) (.pointer (some ⟨W.heap.size,2,none⟩)) rfl (⟨hu,hv,hzc⟩) ?_
            refine tg (i:=3) (.int .i64 (i:Int)) rfl (⟨hu,hv,hzc⟩) ?_
            refine tk (i:=2) (v:=.slice (some ⟨gz,oz,none⟩) nz cz) rfl (Or.inl ⟨by rfl,fun W' h=>by have c0:=zac h.1 2 rfl;go_simp⟩) (⟨hu,hv,hzc⟩) ?_
            refine tg (i:=4) (.pointer (some ⟨gz,oz+i,none⟩)) rfl (⟨hu,hv,hzc⟩) ?_
            refine tk (i:=5) (v:=.int .i64 z) rfl (Or.inl ⟨by rfl,fun W' h=>by have c0:=h.2.2;go_simp⟩) (⟨hu,hv,hzc⟩) ?_
            refine wpAnyH_ready (rs:=[6,10]) (by kernel_rfl) (by simp) ?_
            refine AllReadyH.cons rfl (fun K hK=>?_) (AllReadyH.cons rfl (fun K hK=>?_) AllReadyH.nil)
            ·rw [if_pos (by rfl)]
             go_simp
             refine (HRF.out _ bD).mono ?_
             rintro e0 w3 ⟨dd,rfl,hdd,hb3⟩
             have hdl:dd.length=5:=za0.len hdd
             have hdo:=za0.one hdd
             replace hu:=(hb3.block _ (zaa hu)).trans hu
             replace hv:=(hb3.block _ (zaa hv)).trans hv
             replace hzc:=zah hzc hb3
             replace bD:=zab bD hb3 bD.size
             clear hb3
             refine hK.out _ _ (⟨hu,hv,hzc⟩) (fun _=>?_)
             clear hK K
             try simp only [putS]
             refine tg (i:=7) (.tuple #[.agg dd.toArray,.bool be]) rfl (⟨hu,hv,hzc⟩) ?_
             refine tg (i:=8) (.agg dd.toArray) rfl (⟨hu,hv,hzc⟩) ?_
             refine tg (i:=9) (.bool be) rfl (⟨hu,hv,hzc⟩) ?_
             refine tr 10 rfl (fun K hK=>?_)
             try rw [if_pos (by rfl)]
             go_simp
             have hba:=zar w3 (.cells #[.int .i64 0,.int .i64 0,.int .i64 0,.string ⟨#[]⟩,.slice none 0 0] 41)
             obtain ⟨yy,hyx⟩:∃ y,y=w3.heap.size:=⟨_,rfl⟩
             have hyge:wX.heap.size≤yy:=by rw [hyx];exact bD.size
             have hyy:(w3.alloc (.cells #[.int .i64 0,.int .i64 0,.int .i64 0,.string ⟨#[]⟩,.slice none 0 0] 41)).heap[yy]?=some (.cells #[.int .i64 0,.int .i64 0,.int .i64 0,.string ⟨#[]⟩,.slice none 0 0] 41 (0,0)):=zae _ _ hyx.symm
             replace hdd:za0.rel (w3.alloc (.cells #[.int .i64 0,.int .i64 0,.int .i64 0,.string ⟨#[]⟩,.slice none 0 0] 41)) (Old wX) dd ae:=za0.stays (fun i hi=>⟨hi,hba.block i (Nat.lt_of_lt_of_le hi bD.size)⟩) hdd
             replace hu:=(hba.block _ (zaa hu)).trans hu
             replace hv:=(hba.block _ (zaa hv)).trans hv
             replace hzc:=zah hzc hba
             replace bD:=zab bD hba bD.size
             try rw [← hyx]
             generalize (w3.alloc (.cells #[.int .i64 0,.int .i64 0,.int .i64 0,.string ⟨#[]⟩,.slice none 0 0] 41))=wA at*
             clear hba hyx
             refine hK.out _ _ (⟨hu,hv,hzc⟩) (fun _=>?_)
             clear hK K
             try simp only [putS]
             refine tr 11 rfl (fun K hK=>?_)
             try rw [if_pos (by rfl)]
             have on:=Only.setRow (b:=yy) wA dd.toArray
             have hy5:=zb3 (c':=dd.toArray) hyy
             refine wp_store_row 41 (.tmp 13) (.tmp 98) rfl yy dd.toArray rfl rfl 41 _ hyy (by rw [zak];simp [hdl]) (by simp [hdl]) (all_oneCell_toArray hdo) ?_
             replace hu:=(on.block _ (zaa hu) (by omega)).trans hu
             replace hv:=(on.block _ (zaa hv) (by omega)).trans hv
             replace hzc:=(World.cell?_of_block (a:=⟨gz,oz+i,none⟩) (on.block gz (by have:=bD.size;omega) (by omega))).trans hzc
             have hd5:=za0.stays (P':=Old wX) (fun i hi=>⟨hi,on.block i (Nat.lt_of_lt_of_le hi bD.size) (by have:i < wX.heap.size:=hi;omega)⟩) hdd
             have b5:=zaf bD on hyge bD.size
             refine hK.out _ _ (⟨hu,hv,hzc⟩) (fun _=>?_)
             clear hK K
             try simp only [putS]
             refine tg (i:=12) (.bool be) rfl (⟨hu,hv,hzc⟩) ?_
             refine wpAnyH_done (by kernel_rfl) ?_ _
             go_wp2_with fail
             go_meet
             case rel=>exact ⟨yy,dd,rfl,rfl,Lib.hid ⟨hy5,za0.stays (fun i hi=>⟨Nat.lt_of_lt_of_le hi b5.size,rfl⟩) hd5,b5⟩⟩
            ·try rw [if_pos (by rfl)]
             go_simp
             have hba:=zar wD (.cells #[.int .i64 0,.int .i64 0,.int .i64 0,.string ⟨#[]⟩,.slice none 0 0] 41)
             obtain ⟨yy,hyx⟩:∃ y,y=wD.heap.size:=⟨_,rfl⟩
             have hyge:wX.heap.size≤yy:=by rw [hyx];exact bD.size
             have hyy:(wD.alloc (.cells #[.int .i64 0,.int .i64 0,.int .i64 0,.string ⟨#[]⟩,.slice none 0 0] 41)).heap[yy]?=some (.cells #[.int .i64 0,.int .i64 0,.int .i64 0,.string ⟨#[]⟩,.slice none 0 0] 41 (0,0)):=zae _ _ hyx.symm
             replace hu:=(hba.block _ (zaa hu)).trans hu
             replace hv:=(hba.block _ (zaa hv)).trans hv
             replace hzc:=zah hzc hba
             replace bD:=zab bD hba bD.size
             try rw [← hyx]
             generalize (wD.alloc (.cells #[.int .i64 0,.int .i64 0,.int .i64 0,.string ⟨#[]⟩,.slice none 0 0] 41))=wA at*
             clear hba hyx
             refine hK.out _ _ (⟨hu,hv,hzc⟩) (fun _=>?_)
             clear hK K
             try simp only [putS]
             refine tr 6 rfl (fun K hK=>?_)
             rw [if_pos (by rfl)]
             go_simp
             refine (HRF.out _ bD).mono ?_
             rintro e0 w3 ⟨dd,rfl,hdd,hb3⟩
             have hdl:dd.length=5:=za0.len hdd
             have hdo:=za0.one hdd
             replace hu:=(hb3.block _ (zaa hu)).trans hu
             replace hv:=(hb3.block _ (zaa hv)).trans hv
             replace hzc:=zah hzc hb3
             replace bD:=zab bD hb3 bD.size
             replace hyy:=(hb3.block _ (zaa hyy)).trans hyy
             clear hb3
             refine hK.out _ _ (⟨hu,hv,hzc⟩) (fun _=>?_)
             clear hK K
             try simp only [putS]
             refine tg (i:=7) (.tuple #[.agg dd.toArray,.bool be]) rfl (⟨hu,hv,hzc⟩) ?_
             refine tg (i:=8) (.agg dd.toArray) rfl (⟨hu,hv,hzc⟩) ?_
             refine tg (i:=9) (.bool be) rfl (⟨hu,hv,hzc⟩) ?_
             refine tr 11 rfl (fun K hK=>?_)
             try rw [if_pos (by rfl)]
             have on:=Only.setRow (b:=yy) w3 dd.toArray
             have hy5:=zb3 (c':=dd.toArray) hyy
             refine wp_store_row 41 (.tmp 13) (.tmp 98) rfl yy dd.toArray rfl rfl 41 _ hyy (by rw [zak];simp [hdl]) (by simp [hdl]) (all_oneCell_toArray hdo) ?_
             replace hu:=(on.block _ (zaa hu) (by omega)).trans hu
             replace hv:=(on.block _ (zaa hv) (by omega)).trans hv
             replace hzc:=(World.cell?_of_block (a:=⟨gz,oz+i,none⟩) (on.block gz (by have:=bD.size;omega) (by omega))).trans hzc
             have hd5:=za0.stays (P':=Old wX) (fun i hi=>⟨hi,on.block i (Nat.lt_of_lt_of_le hi bD.size) (by have:i < wX.heap.size:=hi;omega)⟩) hdd
             have b5:=zaf bD on hyge bD.size
             refine hK.out _ _ (⟨hu,hv,hzc⟩) (fun _=>?_)
             clear hK K
             try simp only [putS]
             refine tg (i:=12) (.bool be) rfl (⟨hu,hv,hzc⟩) ?_
             refine wpAnyH_done (by kernel_rfl) ?_ _
             go_wp2_with fail
             go_meet
             case rel=>exact ⟨yy,dd,rfl,rfl,Lib.hid ⟨hy5,za0.stays (fun i hi=>⟨Nat.lt_of_lt_of_le hi b5.size,rfl⟩) hd5,b5⟩⟩
          case rest=>
           rename World=>wqmb
           obtain ⟨vb,de,rfl,rfl,HC⟩:=hcut
           replace HI:=Lib.hid (HI.out.below HC.out.2.2)
           replace BQ:=Lib.hid (zab BQ.out HC.out.2.2 BQ.out.size)
           have HYvb:Hid (wqmb.heap[vb]?=some (.cells de.toArray 41 (0,0))∧za0.rel wqmb (Old wqmb) de ae):=Lib.hid ⟨HC.out.1,HC.out.2.1⟩
           replace HXmb:Hid (wqmb.heap[mb]?=some (.cells ce.toArray 41 (0,0))∧za0.rel wqmb (Old wqmb) ce ae):=Lib.hid ⟨(HC.out.2.2.block _ (zaa HXmb.out.1)).trans HXmb.out.1,za0.stays (zad HC.out.2.2) HXmb.out.2⟩
           replace HXnb:Hid (wqmb.heap[nb]?=some (.cells cn.toArray 38 (0,0))∧zay.rel wqmb (Old wqmb) cn an):=Lib.hid ⟨(HC.out.2.2.block _ (zaa HXnb.out.1)).trans HXnb.out.1,zay.stays (zad HC.out.2.2) HXnb.out.2⟩
           replace HYyb:Hid (wqmb.heap[yb]?=some (.cells dn.toArray 38 (0,0))∧zay.rel wqmb (Old wqmb) dn an):=Lib.hid ⟨(HC.out.2.2.block _ (zaa HYyb.out.1)).trans HYyb.out.1,zay.stays (zad HC.out.2.2) HYyb.out.2⟩
           clear HC
           have hn1:=HXnb.out.1
           have hn2:=HYyb.out.1
           have he1:=HXmb.out.1
           have he2:=HYvb.out.1
           have ln1:cn.length=3:=zay.len HXnb.out.2
           have ln2:dn.length=3:=zay.len HYyb.out.2
           have le1:ce.length=5:=za0.len HXmb.out.2
           have le2:de.length=5:=za0.len HYvb.out.2
           have HQN:=Lib.hid (zqy an cn dn wqmb HXnb.out.2 HYyb.out.2)
           have HQE:Hid (∀ W',Below wqmb.heap.size wqmb W'→Calls Tryz.prog 22 #[.agg ce.toArray,.agg de.toArray] W' (YesB W')):=Lib.hid fun W' b=>zqz ae ce de W' (za0.stays (zad b) HXmb.out.2) (za0.stays (zad b) HYvb.out.2)
           clear HXnb HYyb HXmb HYvb HBN HBE HNB HEB
           have hbb:(bn != bn)=false:=by cases bn <;> rfl
           have hbb2:(be != be)=false:=by cases be <;> rfl
           go_upto_region 16 with (first
            |((with_reducible refine za6 (.tmp 7) nb 38 38 cn 3 _ hn1 ln1 Tryz.underlying38 rfl zam ?_ ?_ ?_ ?_);rfl;rfl;rfl)
            |((with_reducible refine za6 (.tmp 9) yb 38 38 dn 3 _ hn2 ln2 Tryz.underlying38 rfl zam ?_ ?_ ?_ ?_);rfl;rfl;rfl)
            |(go_at_call 21;(with_reducible refine HQN.out.mono ?_);rintro e w1 ⟨rfl,hb1⟩;replace he1:=(hb1.block _ (zaa he1)).trans he1;replace he2:=(hb1.block _ (zaa he2)).trans he2)
            |((with_reducible refine za6 (.tmp 11) mb 41 41 ce 5 _ he1 le1 Tryz.underlying41 rfl zak ?_ ?_ ?_ ?_);rfl;rfl;rfl)
            |((with_reducible refine za6 (.tmp 13) vb 41 41 de 5 _ he2 le2 Tryz.underlying41 rfl zak ?_ ?_ ?_ ?_);rfl;rfl;rfl)
            |(go_at_call 22;(with_reducible refine (HQE.out _ hb1).mono ?_);rintro e w2 ⟨rfl,hb2⟩;have b2:=zab hb1 hb2 hb1.size))
           replace HI:=Lib.hid (HI.out.below b2)
           clear b2 hb2 hb1 hn1 hn2 he1 he2 ln1 ln2 le1 le2 HQN HQE BQ hbb hbb2
           go_wp2_with fail
           go_loopg [15] nd (fun gg s15 wy=>∃ k:Nat,k+gg=nd∧s15=.int .i64 k∧Hid (AskI g W s xb #[.slice p1 n1 cap1,.slice p2 n2 cap2,.slice (some ⟨gz,oz,none⟩) nz cz,.slice pv nv cv,.slice pk nk ck,.slice pl nl cl,.slice pd nd cd] A B wy))
           case atStart=>exact ⟨0,by omega,rfl,HI⟩
           case round=>
            clear HI
            obtain ⟨k,hkg,rfl,HI⟩:=hrel
            have c6:=zac HI.out.ub 6 rfl
            by_cases hk:(k:Int) < nd
            ·by_cases hk6:(k:Int) < 6
             ·have hk1:k < ds.length:=by have:=HL.out.2.2.2.2.2.2;omega
              obtain ⟨gd,od,rfl,cd0,hwd⟩:=zza HDS.out (Below.refl _ _) k hk1
              obtain ⟨d,hd⟩:∃ d,d=ds[k]:=⟨_,rfl⟩
              rw [← hd] at cd0 hwd
              have CD:=Lib.hid cd0
              obtain ⟨xs,hxs⟩:∃ l,l=zgn g ⟨(z,d),⟨HWF.out,hwd⟩⟩ ls:=⟨_,rfl⟩
              obtain ⟨ys,hys⟩:∃ l,l=zgn g ⟨(z,d),⟨HWF.out,hwd⟩⟩ []:=⟨_,rfl⟩
              have hll2:ls.length≤2097152:=by have:=HL.out.2.2.2.2.2.1;omega
              have hne2:(za3 g).edges.length≤2097152:=by rw [zdt];exact Nat.le_trans HGG.out.ne (by decide)
              have HH1:Hid (∀ W',AskI g W s xb #[.slice p1 n1 cap1,.slice p2 n2 cap2,.slice (some ⟨gz,oz,none⟩) nz cz,.slice pv nv cv,.slice pk nk ck,.slice pl nl cl,.slice (some ⟨gd,od,none⟩) nd cd] A B W'→Calls Tryz.prog 23 #[.pointer (some ⟨s,0,none⟩),.int .i64 z,.int .i64 d,.slice pl nl cl] W' fun e w'=>∃ R,e=.returned R∧w'.ownsRow W'.heap.size 2 1 R xs.length (xs.map (Value.int .i64))∧Below W'.heap.size W' w'):=Lib.hid fun W' h=>by
               rw [hxs]
               exact zu9 W' s g h.st HGG.out.de HGG.out.ne ⟨(z,d),_⟩ _ ls (zbs (HLS.out.stays (zad h.bel))) hll2
              have HH2:Hid (∀ W',AskI g W s xb #[.slice p1 n1 cap1,.slice p2 n2 cap2,.slice (some ⟨gz,oz,none⟩) nz cz,.slice pv nv cv,.slice pk nk ck,.slice pl nl cl,.slice (some ⟨gd,od,none⟩) nd cd] A B W'→Calls Tryz.prog 23 #[.pointer (some ⟨s,0,none⟩),.int .i64 z,.int .i64 d,.slice none 0 0] W' fun e w'=>∃ R,e=.returned R∧w'.ownsRow W'.heap.size 2 1 R ys.length (ys.map (Value.int .i64))∧Below W'.heap.size W' w'):=Lib.hid fun W' h=>by
               rw [hys]
               exact zu9 W' s g h.st HGG.out.de HGG.out.ne ⟨(z,d),_⟩ _ [] ⟨none,0,rfl,fun q=>absurd rfl q⟩ (by simp)
              have HR1:Hid (∀ W',AskI g W s xb #[.slice p1 n1 cap1,.slice p2 n2 cap2,.slice (some ⟨gz,oz,none⟩) nz cz,.slice pv nv cv,.slice pk nk ck,.slice pl nl cl,.slice (some ⟨gd,od,none⟩) nd cd] A B W'→Calls Tryz.prog 25 #[.agg #[A,B],.int .i64 z,.int .i64 d,.slice pl nl cl] W' (zfu W' xs)):=Lib.hid fun W' h=>by
               rw [hxs,← zq6 HGG.out HW.out z d ls ⟨HWF.out,hwd⟩]
               exact zor (za3 g).edges B A _ z d ls W' h.hB HAS.out.1 (zbs (HLS.out.stays (zad h.bel))) hne2 hll2
              have HR2:Hid (∀ W',AskI g W s xb #[.slice p1 n1 cap1,.slice p2 n2 cap2,.slice (some ⟨gz,oz,none⟩) nz cz,.slice pv nv cv,.slice pk nk ck,.slice pl nl cl,.slice (some ⟨gd,od,none⟩) nd cd] A B W'→Calls Tryz.prog 25 #[.agg #[A,B],.int .i64 z,.int .i64 d,.slice none 0 0] W' (zfu W' ys)):=Lib.hid fun W' h=>by
               rw [hys,← zq6 HGG.out HW.out z d [] ⟨HWF.out,hwd⟩]
               exact zor (za3 g).edges B A _ z d [] W' h.hB HAS.out.1 ⟨none,0,rfl,fun q=>absurd rfl q⟩ hne2 (by simp)
              have lx:xs.length≤2097152:=by rw [hxs];exact Nat.le_trans (zn7 g _ _) (Nat.le_trans HGG.out.ne (by decide))
              have ly:ys.length≤2097152:=by rw [hys];exact Nat.le_trans (zn7 g _ _) (Nat.le_trans HGG.out.ne (by decide))
              have HLL:=Lib.hid (And.intro lx ly)
              clear hd cd0 hwd hxs hys hll2 hne2 lx ly
              go_upto_region 19 with fail
              clear c6
              have hu:=HI.out.ub
              have hv:=HI.out.ug
              have hzc:=zah CZ.out HI.out.bel
              have hdc:=zah CD.out HI.out.bel
              have bD:Below wr.heap.size wr wr.drew:=(Below.refl _ _).drew
              have hus:=zaa hu
              have hvs:=zaa hv
              have HI9:=Lib.hid (HI.out.below bD)
              refine wp_region_held_drew (S:=fun W'=>W'.heap[W.heap.size]?=some (.cells #[.slice p1 n1 cap1,.slice p2 n2 cap2,.slice (some ⟨gz,oz,none⟩) nz cz,.slice pv nv cv,.slice pk nk ck,.slice pl nl cl,.slice (some ⟨gd,od,none⟩) nd cd] 46 (0,0))∧W'.heap[xb]?=some (.cells #[A,B] 25 (0,0))∧W'.cell? ⟨gz,oz+i,none⟩=some (.int .i64 z)∧W'.cell? ⟨gd,od+k,none⟩=some (.int .i64 d)) (by kernel_rfl) ⟨hu,hv,hzc,hdc⟩ (fun _=>?_)
              replace hu:wr.drew.heap[W.heap.size]?=_:=hu
              replace hv:wr.drew.heap[xb]?=_:=hv
              replace hzc:wr.drew.cell? _=_:=hzc
              replace hdc:wr.drew.cell? _=_:=hdc
              generalize wr.drew=wD at*
              refine tg (i:=0) (.pointer (some ⟨s,0,none⟩)) rfl (⟨hu,hv,hzc,hdc⟩) ?_
              refine tg (i:=1) (.pointer (some ⟨W.heap.size,2,none⟩)) rfl (⟨hu,hv,hzc,hdc⟩) ?_
              refine tg (i:=3) (.int .i64 (i:Int)) rfl (⟨hu,hv,hzc,hdc⟩) ?_
              refine tg (i:=6) (.pointer (some ⟨W.heap.size,6,none⟩)) rfl (⟨hu,hv,hzc,hdc⟩) ?_
              refine tg (i:=8) (.int .i64 (k:Int)) rfl (⟨hu,hv,hzc,hdc⟩) ?_
              refine tg (i:=11) (.pointer (some ⟨W.heap.size,5,none⟩)) rfl (⟨hu,hv,hzc,hdc⟩) ?_
              refine tk (i:=2) (v:=.slice (some ⟨gz,oz,none⟩) nz cz) rfl (Or.inl ⟨by rfl,fun W' h=>by have c0:=zac h.1 2 rfl;go_simp⟩) (⟨hu,hv,hzc,hdc⟩) ?_
              refine tk (i:=7) (v:=.slice (some ⟨gd,od,none⟩) nd cd) rfl (Or.inl ⟨by rfl,fun W' h=>by have c0:=zac h.1 6 rfl;go_simp⟩) (⟨hu,hv,hzc,hdc⟩) ?_
              refine tk (i:=12) (v:=.slice pl nl cl) rfl (Or.inl ⟨by rfl,fun W' h=>by have c0:=zac h.1 5 rfl;go_simp⟩) (⟨hu,hv,hzc,hdc⟩) ?_
              refine tg (i:=4) (.pointer (some ⟨gz,oz+i,none⟩)) rfl (⟨hu,hv,hzc,hdc⟩) ?_
              refine tg (i:=9) (.pointer (some ⟨gd,od+k,none⟩)) rfl (⟨hu,hv,hzc,hdc⟩) ?_
              refine tk (i:=5) (v:=.int .i64 z) rfl (Or.inl ⟨by rfl,fun W' h=>by have c0:=h.2.2.1;go_simp⟩) (⟨hu,hv,hzc,hdc⟩) ?_
              refine tk (i:=10) (v:=.int .i64 d) rfl (Or.inl ⟨by rfl,fun W' h=>by have c0:=h.2.2.2;go_simp⟩) (⟨hu,hv,hzc,hdc⟩) ?_
              refine tr 13 rfl (fun K hK=>?_)
              rw [if_pos (by rfl)]
              go_simp
              refine (HH1.out _ HI9.out).mono ?_
              rintro e0 w3 ⟨R,rfl,hR,hb3⟩
              have own1:=zbr hR bD.size
              obtain ⟨qown1,kown1,rfl⟩:=zba hR
              replace hu:=(hb3.block _ (zaa hu)).trans hu
              replace hv:=(hb3.block _ (zaa hv)).trans hv
              replace hzc:=zah hzc hb3
              replace hdc:=zah hdc hb3
              replace HI9:=Lib.hid (HI9.out.below hb3)
              replace bD:=zab bD hb3 bD.size
              clear hb3 hR
              refine hK.out _ _ (⟨hu,hv,hzc,hdc⟩) (fun _=>?_)
              clear hK K
              try simp only [putS]
              refine tg (i:=14) (.slice qown1 xs.length kown1) rfl (⟨hu,hv,hzc,hdc⟩) ?_
              refine wpAnyH_done (by kernel_rfl) ?_ _
              go_upto_region 20 with fail
              refine wp_region_held_drew (S:=fun W'=>W'.heap[W.heap.size]?=some (.cells #[.slice p1 n1 cap1,.slice p2 n2 cap2,.slice (some ⟨gz,oz,none⟩) nz cz,.slice pv nv cv,.slice pk nk ck,.slice pl nl cl,.slice (some ⟨gd,od,none⟩) nd cd] 46 (0,0))∧W'.heap[xb]?=some (.cells #[A,B] 25 (0,0))∧W'.cell? ⟨gz,oz+i,none⟩=some (.int .i64 z)∧W'.cell? ⟨gd,od+k,none⟩=some (.int .i64 d)) (by kernel_rfl) ⟨hu,hv,hzc,hdc⟩ (fun _=>?_)
              replace hu:w3.drew.heap[W.heap.size]?=_:=hu
              replace hv:w3.drew.heap[xb]?=_:=hv
              replace hzc:w3.drew.cell? _=_:=hzc
              replace hdc:w3.drew.cell? _=_:=hdc
              have bZ:Below w3.heap.size w3 w3.drew:=(Below.refl _ _).drew
              replace HI9:=Lib.hid (HI9.out.below bZ)
              replace bD:=zab bD bZ bD.size
              replace own1:=zav own1 bZ
              clear bZ
              generalize w3.drew=wE at*
              refine tg (i:=0) (.pointer (some ⟨s,0,none⟩)) rfl (⟨hu,hv,hzc,hdc⟩) ?_
              refine tg (i:=1) (.pointer (some ⟨W.heap.size,2,none⟩)) rfl (⟨hu,hv,hzc,hdc⟩) ?_
              refine tg (i:=3) (.int .i64 (i:Int)) rfl (⟨hu,hv,hzc,hdc⟩) ?_
              refine tg (i:=6) (.pointer (some ⟨W.heap.size,6,none⟩)) rfl (⟨hu,hv,hzc,hdc⟩) ?_
              refine tg (i:=8) (.int .i64 (k:Int)) rfl (⟨hu,hv,hzc,hdc⟩) ?_
              refine tk (i:=2) (v:=.slice (some ⟨gz,oz,none⟩) nz cz) rfl (Or.inl ⟨by rfl,fun W' h=>by have c0:=zac h.1 2 rfl;go_simp⟩) (⟨hu,hv,hzc,hdc⟩) ?_
              refine tk (i:=7) (v:=.slice (some ⟨gd,od,none⟩) nd cd) rfl (Or.inl ⟨by rfl,fun W' h=>by have c0:=zac h.1 6 rfl;go_simp⟩) (⟨hu,hv,hzc,hdc⟩) ?_
              refine tg (i:=4) (.pointer (some ⟨gz,oz+i,none⟩)) rfl (⟨hu,hv,hzc,hdc⟩) ?_
              refine tg (i:=9) (.pointer (some ⟨gd,od+k,none⟩)) rfl (⟨hu,hv,hzc,hdc⟩) ?_
              refine tk (i:=5) (v:=.int .i64 z) rfl (Or.inl ⟨by rfl,fun W' h=>by have c0:=h.2.2.1;go_simp⟩) (⟨hu,hv,hzc,hdc⟩) ?_
              refine tk (i:=10) (v:=.int .i64 d) rfl (Or.inl ⟨by rfl,fun W' h=>by have c0:=h.2.2.2;go_simp⟩) (⟨hu,hv,hzc,hdc⟩) ?_
              refine tr 11 rfl (fun K hK=>?_)
              rw [if_pos (by rfl)]
              go_simp
              refine (HH2.out _ HI9.out).mono ?_
              rintro e0 w4 ⟨R,rfl,hR,hb3⟩
              have own2:=zbr hR bD.size
              obtain ⟨qown2,kown2,rfl⟩:=zba hR
              replace hu:=(hb3.block _ (zaa hu)).trans hu
              replace hv:=(hb3.block _ (zaa hv)).trans hv
              replace hzc:=zah hzc hb3
              replace hdc:=zah hdc hb3
              replace HI9:=Lib.hid (HI9.out.below hb3)
              replace bD:=zab bD hb3 bD.size
              replace own1:=zav own1 hb3
              clear hb3 hR
              refine hK.out _ _ (⟨hu,hv,hzc,hdc⟩) (fun _=>?_)
              clear hK K
              try simp only [putS]
              refine tg (i:=12) (.slice qown2 ys.length kown2) rfl (⟨hu,hv,hzc,hdc⟩) ?_
              refine wpAnyH_done (by kernel_rfl) ?_ _
              go_upto_region 21 with fail
              refine wp_region_held_drew (S:=fun W'=>W'.heap[W.heap.size]?=some (.cells #[.slice p1 n1 cap1,.slice p2 n2 cap2,.slice (some ⟨gz,oz,none⟩) nz cz,.slice pv nv cv,.slice pk nk ck,.slice pl nl cl,.slice (some ⟨gd,od,none⟩) nd cd] 46 (0,0))∧W'.heap[xb]?=some (.cells #[A,B] 25 (0,0))∧W'.cell? ⟨gz,oz+i,none⟩=some (.int .i64 z)∧W'.cell? ⟨gd,od+k,none⟩=some (.int .i64 d)) (by kernel_rfl) ⟨hu,hv,hzc,hdc⟩ (fun _=>?_)
              replace hu:w4.drew.heap[W.heap.size]?=_:=hu
              replace hv:w4.drew.heap[xb]?=_:=hv
              replace hzc:w4.drew.cell? _=_:=hzc
              replace hdc:w4.drew.cell? _=_:=hdc
              have bZ:Below w4.heap.size w4 w4.drew:=(Below.refl _ _).drew
              replace HI9:=Lib.hid (HI9.out.below bZ)
              replace bD:=zab bD bZ bD.size
              replace own1:=zav own1 bZ
              replace own2:=zav own2 bZ
              clear bZ
              generalize w4.drew=wF at*
              refine tg (i:=0) (.slice qown1 xs.length kown1) rfl (⟨hu,hv,hzc,hdc⟩) ?_
              refine tk (i:=1) (v:=.agg #[A,B]) rfl (yieldsIf_load_mid (by rfl) 25 (.tmp 5) rfl xb 0 rfl [A,B] _ (fun W' h=>zax h.2.1 0 _ rfl) Tryz.underlying25 rfl zbh) (⟨hu,hv,hzc,hdc⟩) ?_
              refine tg (i:=2) (.pointer (some ⟨W.heap.size,2,none⟩)) rfl (⟨hu,hv,hzc,hdc⟩) ?_
              refine tg (i:=4) (.int .i64 (i:Int)) rfl (⟨hu,hv,hzc,hdc⟩) ?_
              refine tg (i:=7) (.pointer (some ⟨W.heap.size,6,none⟩)) rfl (⟨hu,hv,hzc,hdc⟩) ?_
              refine tg (i:=9) (.int .i64 (k:Int)) rfl (⟨hu,hv,hzc,hdc⟩) ?_
              refine tg (i:=12) (.pointer (some ⟨W.heap.size,5,none⟩)) rfl (⟨hu,hv,hzc,hdc⟩) ?_
              refine tk (i:=3) (v:=.slice (some ⟨gz,oz,none⟩) nz cz) rfl (Or.inl ⟨by rfl,fun W' h=>by have c0:=zac h.1 2 rfl;go_simp⟩) (⟨hu,hv,hzc,hdc⟩) ?_
              refine tk (i:=8) (v:=.slice (some ⟨gd,od,none⟩) nd cd) rfl (Or.inl ⟨by rfl,fun W' h=>by have c0:=zac h.1 6 rfl;go_simp⟩) (⟨hu,hv,hzc,hdc⟩) ?_
              refine tk (i:=13) (v:=.slice pl nl cl) rfl (Or.inl ⟨by rfl,fun W' h=>by have c0:=zac h.1 5 rfl;go_simp⟩) (⟨hu,hv,hzc,hdc⟩) ?_
              refine tg (i:=5) (.pointer (some ⟨gz,oz+i,none⟩)) rfl (⟨hu,hv,hzc,hdc⟩) ?_
              refine tg (i:=10) (.pointer (some ⟨gd,od+k,none⟩)) rfl (⟨hu,hv,hzc,hdc⟩) ?_
              refine tk (i:=6) (v:=.int .i64 z) rfl (Or.inl ⟨by rfl,fun W' h=>by have c0:=h.2.2.1;go_simp⟩) (⟨hu,hv,hzc,hdc⟩) ?_
              refine tk (i:=11) (v:=.int .i64 d) rfl (Or.inl ⟨by rfl,fun W' h=>by have c0:=h.2.2.2;go_simp⟩) (⟨hu,hv,hzc,hdc⟩) ?_
              refine tr 14 rfl (fun K hK=>?_)
              rw [if_pos (by rfl)]
              go_simp
              refine (HR1.out _ HI9.out).mono ?_
              rintro e0 w5 ⟨R,rfl,hR,hb3⟩
              have hI:=za4 hR
              obtain ⟨qr,kr,rfl⟩:=zba hR
              replace hu:=(hb3.block _ (zaa hu)).trans hu
              replace hv:=(hb3.block _ (zaa hv)).trans hv
              replace hzc:=zah hzc hb3
              replace hdc:=zah hdc hb3
              replace HI9:=Lib.hid (HI9.out.below hb3)
              replace bD:=zab bD hb3 bD.size
              replace own1:=zav own1 hb3
              replace own2:=zav own2 hb3
              clear hb3 hR
              refine hK.out _ _ (⟨hu,hv,hzc,hdc⟩) (fun _=>?_)
              clear hK K
              try simp only [putS]
              refine tr 15 rfl (fun K hK=>?_)
              rw [if_pos (by rfl)]
              have HQ:=Lib.hid (zgl _ _ xs xs w5 (za4 own1) hI HLL.out.1)
              rw [show decide (xs=xs)=true from decide_eq_true rfl] at HQ
              go_simp
              refine HQ.out.mono ?_
              rintro e0 w6 ⟨rfl,hb3⟩
              replace hu:=(hb3.block _ (zaa hu)).trans hu
              replace hv:=(hb3.block _ (zaa hv)).trans hv
              replace hzc:=zah hzc hb3
              replace hdc:=zah hdc hb3
              replace HI9:=Lib.hid (HI9.out.below hb3)
              replace bD:=zab bD hb3 bD.size
              replace own1:=zav own1 hb3
              replace own2:=zav own2 hb3
              clear hb3 hI HQ
              refine hK.out _ _ (⟨hu,hv,hzc,hdc⟩) (fun _=>?_)
              clear hK K
              try simp only [putS]
              refine tg (i:=16) (.bool false) rfl (⟨hu,hv,hzc,hdc⟩) ?_
              refine tg (i:=17) (.bool false) rfl (⟨hu,hv,hzc,hdc⟩) ?_
              refine tg (i:=18) (.slice qown2 ys.length kown2) rfl (⟨hu,hv,hzc,hdc⟩) ?_
              refine tk (i:=19) (v:=.agg #[A,B]) rfl (yieldsIf_load_mid (by rfl) 25 (.tmp 5) rfl xb 0 rfl [A,B] _ (fun W' h=>zax h.2.1 0 _ rfl) Tryz.underlying25 rfl zbh) (⟨hu,hv,hzc,hdc⟩) ?_
              refine tg (i:=20) (.pointer (some ⟨W.heap.size,2,none⟩)) rfl (⟨hu,hv,hzc,hdc⟩) ?_
              refine tg (i:=22) (.int .i64 (i:Int)) rfl (⟨hu,hv,hzc,hdc⟩) ?_
              refine tg (i:=25) (.pointer (some ⟨W.heap.size,6,none⟩)) rfl (⟨hu,hv,hzc,hdc⟩) ?_
              refine tg (i:=27) (.int .i64 (k:Int)) rfl (⟨hu,hv,hzc,hdc⟩) ?_
              refine tk (i:=21) (v:=.slice (some ⟨gz,oz,none⟩) nz cz) rfl (Or.inl ⟨by rfl,fun W' h=>by have c0:=zac h.1 2 rfl;go_simp⟩) (⟨hu,hv,hzc,hdc⟩) ?_
              refine tk (i:=26) (v:=.slice (some ⟨gd,od,none⟩) nd cd) rfl (Or.inl ⟨by rfl,fun W' h=>by have c0:=zac h.1 6 rfl;go_simp⟩) (⟨hu,hv,hzc,hdc⟩) ?_
              refine tg (i:=23) (.pointer (some ⟨gz,oz+i,none⟩)) rfl (⟨hu,hv,hzc,hdc⟩) ?_
              refine tg (i:=28) (.pointer (some ⟨gd,od+k,none⟩)) rfl (⟨hu,hv,hzc,hdc⟩) ?_
              refine tk (i:=24) (v:=.int .i64 z) rfl (Or.inl ⟨by rfl,fun W' h=>by have c0:=h.2.2.1;go_simp⟩) (⟨hu,hv,hzc,hdc⟩) ?_
              refine tk (i:=29) (v:=.int .i64 d) rfl (Or.inl ⟨by rfl,fun W' h=>by have c0:=h.2.2.2;go_simp⟩) (⟨hu,hv,hzc,hdc⟩) ?_
              refine tr 30 rfl (fun K hK=>?_)
              rw [if_pos (by rfl)]
              go_simp
              refine (HR2.out _ HI9.out).mono ?_
              rintro e0 w7 ⟨R,rfl,hR,hb3⟩
              have hI:=za4 hR
              obtain ⟨qr,kr,rfl⟩:=zba hR
              replace hu:=(hb3.block _ (zaa hu)).trans hu
              replace hv:=(hb3.block _ (zaa hv)).trans hv
              replace hzc:=zah hzc hb3
              replace hdc:=zah hdc hb3
              replace HI9:=Lib.hid (HI9.out.below hb3)
              replace bD:=zab bD hb3 bD.size
              replace own1:=zav own1 hb3
              replace own2:=zav own2 hb3
              clear hb3 hR
              refine hK.out _ _ (⟨hu,hv,hzc,hdc⟩) (fun _=>?_)
              clear hK K
              try simp only [putS]
              refine tr 31 rfl (fun K hK=>?_)
              rw [if_pos (by rfl)]
              have HQ:=Lib.hid (zgl _ _ ys ys w7 (za4 own2) hI HLL.out.2)
              rw [show decide (ys=ys)=true from decide_eq_true rfl] at HQ
              go_simp
              refine HQ.out.mono ?_
              rintro e0 w8 ⟨rfl,hb3⟩
              replace hu:=(hb3.block _ (zaa hu)).trans hu
              replace hv:=(hb3.block _ (zaa hv)).trans hv
              replace hzc:=zah hzc hb3
              replace hdc:=zah hdc hb3
              replace HI9:=Lib.hid (HI9.out.below hb3)
              replace bD:=zab bD hb3 bD.size
              replace own1:=zav own1 hb3
              replace own2:=zav own2 hb3
              clear hb3 hI HQ
              refine hK.out _ _ (⟨hu,hv,hzc,hdc⟩) (fun _=>?_)
              clear hK K
              try simp only [putS]
              refine tg (i:=32) (.bool false) rfl (⟨hu,hv,hzc,hdc⟩) ?_
              refine tg (i:=33) (.bool false) rfl (⟨hu,hv,hzc,hdc⟩) ?_
              refine wpAnyH_done (by kernel_rfl) ?_ _
              have HOV:=Lib.hid (zk5 _ xs.length wr.heap.size _ w8 own1 HLL.out.1 bD.size)
              have HBD:=Lib.hid bD
              clear hu hv hzc hdc bD HI9 own1 own2 HH1 HH2 HR1 HR2 hus hvs HLL
              go_wp2_with (first
               |(go_at_call 26;(with_reducible refine HOV.out.mono ?_);rintro e w9 ⟨rfl,hb9⟩))
              go_roundg (gk - 1)
              case measure=>omega
              case rel=>exact ⟨k+1,by omega,by go_num,Lib.hid (HI.out.below (HBD.out.trans hb9))⟩
             ·go_wp2_with fail
              go_roundg (nz - (i+1))
              case measure=>omega
              case rel=>exact ⟨i+1,by omega,by go_num,HI⟩
            ·go_wp2_with fail
             go_roundg (nz - (i+1))
             case measure=>omega
             case rel=>exact ⟨i+1,by omega,by go_num,HI⟩
        ·go_wp2_with fail
         go_meet
         case rel=>exact HI
       ·go_wp2_with fail
        go_meet
        case rel=>exact HI
     case rest=>
      rename World=>wa
      clear HI
      have HI:=hcut
      clear hcut
      go_upto_block 4 with fail
      go_cut [18] (fun _ wx=>Hid (AskI g W s xb #[.slice p1 n1 cap1,.slice p2 n2 cap2,.slice pz nz cz,.slice pv nv cv,.slice pk nk ck,.slice pl nl cl,.slice pd nd cd] A B wx))
      case first=>
       as_aux_lemma=>
        go_wp2_with fail
        go_loopg [18] nv (fun gg s18 wr=>∃ i:Nat,i+gg=nv∧s18=.int .i64 i∧Hid (AskI g W s xb #[.slice p1 n1 cap1,.slice p2 n2 cap2,.slice pz nz cz,.slice pv nv cv,.slice pk nk ck,.slice pl nl cl,.slice pd nd cd] A B wr))
        case atStart=>exact ⟨0,by omega,rfl,HI⟩
        case round=>
         clear HI
         obtain ⟨i,hig,rfl,HI⟩:=hrel
         have c3:=zac HI.out.ub 3 rfl
         by_cases hi:(i:Int) < nv
         ·by_cases hi12:(i:Int) < 12
          ·have hi1:i < vs.length:=by have:=HL.out.2.2.2.1;omega
           obtain ⟨gv,ov,cvs,rfl,rv0,hv0⟩:=val_at HVS.out (Below.refl _ _) i hi1
           obtain ⟨v,hv⟩:∃ v,v=vs[i]:=⟨_,rfl⟩
           rw [← hv] at hv0
           obtain ⟨vk,vb,vn,vt,vx,vq⟩:=v
           obtain ⟨VL,rfl,vf,vh⟩:=hv0
           obtain ⟨lp,lc,rfl⟩:=za7 (za9.held vq vh)
           have RV:Hid (W.rangeAt gv (ov+i*6) [.int .i64 vk,.bool vb,.int .i64 vn,.string vt,.string vx,.slice lp vq.length lc]):=Lib.hid rv0
           have VF:=Lib.hid (int_wf vf.lo vf.hi)
           clear hv vf vh rv0
           go_wp2_with fail
           clear c3
           go_loopg [19] nk (fun gg s19 wy=>∃ k:Nat,k+gg=nk∧s19=.int .i64 k∧Hid (AskI g W s xb #[.slice p1 n1 cap1,.slice p2 n2 cap2,.slice pz nz cz,.slice (some ⟨gv,ov,none⟩) nv cv,.slice pk nk ck,.slice pl nl cl,.slice pd nd cd] A B wy))
           case atStart=>exact ⟨0,by omega,rfl,HI⟩
           case round=>
            clear HI
            obtain ⟨k,hkg,rfl,HI⟩:=hrel
            have c4:=zac HI.out.ub 4 rfl
            by_cases hk:(k:Int) < nk
            ·by_cases hk6:(k:Int) < 6
             ·have hk1:k < ks.length:=by have:=HL.out.2.2.2.2.1;omega
              obtain ⟨gy,oy,rfl,ck0⟩:=text_at HKS.out (Below.refl _ _) k hk1
              obtain ⟨ky,hky⟩:∃ t,t=ks[k]:=⟨_,rfl⟩
              rw [← hky] at ck0
              have CK:=Lib.hid ck0
              clear hky ck0
              go_upto_region 30 with fail
              clear c4
              go_cut [20] (fun sy wx=>∃ yy,sy=.pointer (some ⟨yy,0,none⟩)∧Hid (PropBox g vk vn ky wr.heap.size yy wx∧Below wr.heap.size wr wx))
              case first=>
               as_aux_lemma=>
                have hu:=HI.out.ub
                have hrv:=zaz RV.out HI.out.bel
                have hkc:=zah CK.out HI.out.bel
                have hgv:gv < wr.heap.size:=World.block_lt_of_cell? wr _ (hrv 0 _ rfl)
                have hgk:gy < wr.heap.size:=World.block_lt_of_cell? wr _ hkc
                have hux:=zaa hu
                have HPO:Hid (∀ W',Below wr.heap.size wr W'→Calls Tryz.prog 27 #[.pointer (some ⟨s,0,none⟩),.agg #[.int .i64 vk,.bool vb,.int .i64 vn,.string vt,.string vx,.slice lp vq.length lc],.string ky] W' (zww W' g vk vn ky)):=Lib.hid fun W' b=>zsk W' s g (HI.out.st.below b) vk _ vn _ _ _ VF.out ky
                have bD:Below wr.heap.size wr wr.drew:=(Below.refl _ _).drew
                refine wp_region_held_drew (S:=fun W'=>W'.heap[W.heap.size]?=some (.cells #[.slice p1 n1 cap1,.slice p2 n2 cap2,.slice pz nz cz,.slice (some ⟨gv,ov,none⟩) nv cv,.slice (some ⟨gy,oy,none⟩) nk ck,.slice pl nl cl,.slice pd nd cd] 46 (0,0))∧W'.rangeAt gv (ov+i*6) [.int .i64 vk,.bool vb,.int .i64 vn,.string vt,.string vx,.slice lp vq.length lc]∧W'.cell? ⟨gy,oy+k,none⟩=some (.string ky)) (by kernel_rfl) ⟨hu,hrv,hkc⟩ (fun _=>?_)
                replace hu:wr.drew.heap[W.heap.size]?=_:=hu
                replace hrv:=zaz hrv bD
                replace hkc:wr.drew.cell? _=_:=hkc
                generalize wr.drew=wD at*
                refine tg (i:=0) (.pointer (some ⟨s,0,none⟩)) rfl (⟨hu,hrv,hkc⟩) ?_
                refine tg (i:=1) (.pointer (some ⟨W.heap.size,3,none⟩)) rfl (⟨hu,hrv,hkc⟩) ?_
                refine tg (i:=3) (.int .i64 (i:Int)) rfl (⟨hu,hrv,hkc⟩) ?_
                refine tg (i:=6) (.pointer (some ⟨W.heap.size,4,none⟩)) rfl (⟨hu,hrv,hkc⟩) ?_
                refine tg (i:=8) (.int .i64 (k:Int)) rfl (⟨hu,hrv,hkc⟩) ?_
                refine tk (i:=2) (v:=.slice (some ⟨gv,ov,none⟩) nv cv) rfl (Or.inl ⟨by rfl,fun W' h=>by have c0:=zac h.1 3 rfl;go_simp⟩) (⟨hu,hrv,hkc⟩) ?_
                refine tk (i:=7) (v:=.slice (some ⟨gy,oy,none⟩) nk ck) rfl (Or.inl ⟨by rfl,fun W' h=>by have c0:=zac h.1 4 rfl;go_simp⟩) (⟨hu,hrv,hkc⟩) ?_
                refine tg (i:=4) (.pointer (some ⟨gv,ov+i*6,none⟩)) rfl (⟨hu,hrv,hkc⟩) ?_
                refine tg (i:=9) (.pointer (some ⟨gy,oy+k,none⟩)) rfl (⟨hu,hrv,hkc⟩) ?_
                refine tk (i:=5) (v:=.agg #[.int .i64 vk,.bool vb,.int .i64 vn,.string vt,.string vx,.slice lp vq.length lc]) rfl (yieldsIf_load_mid (by rfl) 60 (.tmp 219) rfl gv (ov+i*6) rfl [.int .i64 vk,.bool vb,.int .i64 vn,.string vt,.string vx,.slice lp vq.length lc] _ (fun W' h=>h.2.1) Tryz.underlying60 rfl za1) (⟨hu,hrv,hkc⟩) ?_
                refine tk (i:=10) (v:=.string ky) rfl (Or.inl ⟨by rfl,fun W' h=>by have c0:=h.2.2;go_simp⟩) (⟨hu,hrv,hkc⟩) ?_
                refine wpAnyH_ready (rs:=[11,12]) (by kernel_rfl) (by simp) ?_
                refine AllReadyH.cons rfl (fun K hK=>?_) (AllReadyH.cons rfl (fun K hK=>?_) AllReadyH.nil)
                ·rw [if_pos (by rfl)]
                 go_simp
                 refine (HPO.out _ bD).mono ?_
                 rintro e0 w3 ⟨k',b',n',t',x',q',V,rfl,hown,hfine,hprop,hb3⟩
                 have hBN:wr.heap.size≤wD.heap.size+2:=by have:=bD.size;omega
                 obtain ⟨p',c',rfl⟩:=zg0 hown
                 replace hu:=(hb3.block _ (zaa hu)).trans hu
                 replace hrv:=zaz hrv hb3
                 replace hkc:=zah hkc hb3
                 replace bD:=zab bD hb3 bD.size
                 clear hb3
                 refine hK.out _ _ (⟨hu,hrv,hkc⟩) (fun _=>?_)
                 clear hK K
                 try simp only [putS]
                 refine tr 12 rfl (fun K hK=>?_)
                 try rw [if_pos (by rfl)]
                 go_simp
                 have hba:=zar w3 (.cells #[.int .i64 0,.bool false,.int .i64 0,.string ⟨#[]⟩,.string ⟨#[]⟩,.slice none 0 0] 60)
                 obtain ⟨yy,hyx⟩:∃ y,y=w3.heap.size:=⟨_,rfl⟩
                 have hyge:wr.heap.size≤yy:=by rw [hyx];exact bD.size
                 have hyy:(w3.alloc (.cells #[.int .i64 0,.bool false,.int .i64 0,.string ⟨#[]⟩,.string ⟨#[]⟩,.slice none 0 0] 60)).heap[yy]?=some (.cells #[.int .i64 0,.bool false,.int .i64 0,.string ⟨#[]⟩,.string ⟨#[]⟩,.slice none 0 0] 60 (0,0)):=zae _ _ hyx.symm
                 replace hu:=(hba.block _ (zaa hu)).trans hu
                 replace hrv:=zaz hrv hba
                 replace hkc:=zah hkc hba
                 replace bD:=zab bD hba bD.size
                 have HOW3:=Lib.hid hown
                 have HBA:=Lib.hid hba
                 have hy3:yy=w3.heap.size:=hyx
                 try rw [← hyx]
                 generalize (w3.alloc (.cells #[.int .i64 0,.bool false,.int .i64 0,.string ⟨#[]⟩,.string ⟨#[]⟩,.slice none 0 0] 60))=wA at*
                 clear hba hyx
                 refine hK.out _ _ (⟨hu,hrv,hkc⟩) (fun _=>?_)
                 clear hK K
                 try simp only [putS]
                 refine tr 13 rfl (fun K hK=>?_)
                 try rw [if_pos (by rfl)]
                 have on:=Only.setRow (b:=yy) wA #[.int .i64 k',.bool b',.int .i64 n',.string t',.string x',.slice p' q'.length c']
                 have hy5:=zb3 (c':=#[.int .i64 k',.bool b',.int .i64 n',.string t',.string x',.slice p' q'.length c']) hyy
                 refine wp_store_row 60 (.tmp 20) (.tmp 226) rfl yy #[.int .i64 k',.bool b',.int .i64 n',.string t',.string x',.slice p' q'.length c'] rfl rfl 60 _ hyy za1 rfl (by simp [Value.oneCell']) ?_
                 replace hu:=(on.block _ (zaa hu) (by omega)).trans hu
                 replace hrv:=zcw (on.block gv (by have:=bD.size;omega) (by omega)) hrv
                 replace hkc:=(World.cell?_of_block (a:=⟨gy,oy+k,none⟩) (on.block gy (by have:=bD.size;omega) (by omega))).trans hkc
                 have b5:=zaf bD on hyge bD.size
                 have hown5:=HOW3.out.stay (fun j a b=>(on.block j (Nat.lt_of_lt_of_le b HBA.out.size) (by omega)).trans (HBA.out.block j b)) (Nat.le_trans HBA.out.size on.size)
                 refine hK.out _ _ (⟨hu,hrv,hkc⟩) (fun _=>?_)
                 clear hK K
                 try simp only [putS]
                 refine wpAnyH_done (by kernel_rfl) ?_ _
                 go_wp2_with fail
                 go_meet
                 case rel=>exact ⟨yy,rfl,Lib.hid ⟨⟨k',b',n',t',x',q',p',c',_,hy5,hown5,hfine,hprop,hBN⟩,b5⟩⟩
                ·try rw [if_pos (by rfl)]
                 go_simp
                 have hba:=zar wD (.cells #[.int .i64 0,.bool false,.int .i64 0,.string ⟨#[]⟩,.string ⟨#[]⟩,.slice none 0 0] 60)
                 obtain ⟨yy,hyx⟩:∃ y,y=wD.heap.size:=⟨_,rfl⟩
                 have hyge:wr.heap.size≤yy:=by rw [hyx];exact bD.size
                 have hyy:(wD.alloc (.cells #[.int .i64 0,.bool false,.int .i64 0,.string ⟨#[]⟩,.string ⟨#[]⟩,.slice none 0 0] 60)).heap[yy]?=some (.cells #[.int .i64 0,.bool false,.int .i64 0,.string ⟨#[]⟩,.string ⟨#[]⟩,.slice none 0 0] 60 (0,0)):=zae _ _ hyx.symm
                 replace hu:=(hba.block _ (zaa hu)).trans hu
                 replace hrv:=zaz hrv hba
                 replace hkc:=zah hkc hba
                 replace bD:=zab bD hba bD.size
                 try rw [← hyx]
                 generalize (wD.alloc (.cells #[.int .i64 0,.bool false,.int .i64 0,.string ⟨#[]⟩,.string ⟨#[]⟩,.slice none 0 0] 60))=wA at*
                 have hyA:yy < wA.heap.size:=zaa hyy
                 clear hba hyx
                 refine hK.out _ _ (⟨hu,hrv,hkc⟩) (fun _=>?_)
                 clear hK K
                 try simp only [putS]
                 refine tr 11 rfl (fun K hK=>?_)
                 rw [if_pos (by rfl)]
                 go_simp
                 refine (HPO.out _ bD).mono ?_
                 rintro e0 w3 ⟨k',b',n',t',x',q',V,rfl,hown,hfine,hprop,hb3⟩
                 have hBN:wr.heap.size≤wA.heap.size+2:=by have:=bD.size;omega
                 obtain ⟨p',c',rfl⟩:=zg0 hown
                 replace hu:=(hb3.block _ (zaa hu)).trans hu
                 replace hrv:=zaz hrv hb3
                 replace hkc:=zah hkc hb3
                 replace bD:=zab bD hb3 bD.size
                 replace hyy:=(hb3.block _ (zaa hyy)).trans hyy
                 clear hb3
                 refine hK.out _ _ (⟨hu,hrv,hkc⟩) (fun _=>?_)
                 clear hK K
                 try simp only [putS]
                 refine tr 13 rfl (fun K hK=>?_)
                 try rw [if_pos (by rfl)]
                 have on:=Only.setRow (b:=yy) w3 #[.int .i64 k',.bool b',.int .i64 n',.string t',.string x',.slice p' q'.length c']
                 have hy5:=zb3 (c':=#[.int .i64 k',.bool b',.int .i64 n',.string t',.string x',.slice p' q'.length c']) hyy
                 refine wp_store_row 60 (.tmp 20) (.tmp 226) rfl yy #[.int .i64 k',.bool b',.int .i64 n',.string t',.string x',.slice p' q'.length c'] rfl rfl 60 _ hyy za1 rfl (by simp [Value.oneCell']) ?_
                 replace hu:=(on.block _ (zaa hu) (by omega)).trans hu
                 replace hrv:=zcw (on.block gv (by have:=bD.size;omega) (by omega)) hrv
                 replace hkc:=(World.cell?_of_block (a:=⟨gy,oy+k,none⟩) (on.block gy (by have:=bD.size;omega) (by omega))).trans hkc
                 have b5:=zaf bD on hyge bD.size
                 have hyN:yy < wA.heap.size:=hyA
                 have hown5:=hown.stay (fun j a b=>on.block j b (by omega)) on.size
                 refine hK.out _ _ (⟨hu,hrv,hkc⟩) (fun _=>?_)
                 clear hK K
                 try simp only [putS]
                 refine wpAnyH_done (by kernel_rfl) ?_ _
                 go_wp2_with fail
                 go_meet
                 case rel=>exact ⟨yy,rfl,Lib.hid ⟨⟨k',b',n',t',x',q',p',c',_,hy5,hown5,hfine,hprop,hBN⟩,b5⟩⟩
              case rest=>
               rename World=>wb
               obtain ⟨yy,rfl,HC⟩:=hcut
               obtain ⟨⟨k',b',n',t',x',q',p',c',NN,hy,hown,hfine,hprop,hBN⟩,hbw⟩:=HC.out
               have hflat:=flat_is HGG.out hprop
               have hat:=zyk HGG.out hprop
               have HIW:=Lib.hid (HI.out.below hbw)
               have HFP:=Lib.hid (And.intro hfine (And.intro hflat (And.intro hBN hbw)))
               have HAT:=Lib.hid hat
               have hnn1:(za3 g).nodes.length≤2097152:=by rw [zed];exact Nat.le_trans HGG.out.nn (by decide)
               have hnn2:(za3 g).edges.length≤2097152:=by rw [zdt];exact Nat.le_trans HGG.out.ne (by decide)
               have HRP:Hid (∀ W',AskI g W s xb #[.slice p1 n1 cap1,.slice p2 n2 cap2,.slice pz nz cz,.slice (some ⟨gv,ov,none⟩) nv cv,.slice (some ⟨gy,oy,none⟩) nk ck,.slice pl nl cl,.slice pd nd cd] A B W'→Calls Tryz.prog 29 #[.agg #[A,B],.agg #[.int .i64 vk,.bool vb,.int .i64 vn,.string vt,.string vx,.slice lp vq.length lc],.string ky] W' (zr0 W' (.mk k' b' n' t' x' q'))):=Lib.hid fun W' h=>by
                rw [← HAT.out]
                exact zwh (za3 g).nodes (za3 g).edges A B vk vn _ _ _ _ ky W' h.hA h.hB hnn1 hnn2
               clear HC hfine hflat hprop hBN hbw hat hnn1 hnn2
               have HIR:=HI
               replace HI:=HIW
               clear HIW
               go_upto_region 31 with fail
               have hu:=HI.out.ub
               have hv:=HI.out.ug
               have hrv:=zaz RV.out HI.out.bel
               have hkc:=zah CK.out HI.out.bel
               have bD:Below wb.heap.size wb wb.drew:=(Below.refl _ _).drew
               have HI9:=Lib.hid (HI.out.below bD)
               have OWN:=Lib.hid (hown.below bD)
               refine wp_region_held_drew (S:=fun W'=>W'.heap[W.heap.size]?=some (.cells #[.slice p1 n1 cap1,.slice p2 n2 cap2,.slice pz nz cz,.slice (some ⟨gv,ov,none⟩) nv cv,.slice (some ⟨gy,oy,none⟩) nk ck,.slice pl nl cl,.slice pd nd cd] 46 (0,0))∧W'.heap[xb]?=some (.cells #[A,B] 25 (0,0))∧W'.rangeAt gv (ov+i*6) [.int .i64 vk,.bool vb,.int .i64 vn,.string vt,.string vx,.slice lp vq.length lc]∧W'.cell? ⟨gy,oy+k,none⟩=some (.string ky)∧W'.heap[yy]?=some (.cells #[.int .i64 k',.bool b',.int .i64 n',.string t',.string x',.slice p' q'.length c'] 60 (0,0))) (by kernel_rfl) ⟨hu,hv,hrv,hkc,hy⟩ (fun _=>?_)
               replace hu:wb.drew.heap[W.heap.size]?=_:=hu
               replace hv:wb.drew.heap[xb]?=_:=hv
               replace hrv:=zaz hrv bD
               replace hkc:wb.drew.cell? _=_:=hkc
               replace hy:wb.drew.heap[yy]?=_:=hy
               clear hown
               generalize wb.drew=wD at*
               refine tk (i:=0) (v:=.agg #[.int .i64 k',.bool b',.int .i64 n',.string t',.string x',.slice p' q'.length c']) rfl (yieldsIf_load_mid (by rfl) 60 (.tmp 20) rfl yy 0 rfl [.int .i64 k',.bool b',.int .i64 n',.string t',.string x',.slice p' q'.length c'] _ (fun W' h=>zax h.2.2.2.2 0 _ rfl) Tryz.underlying60 rfl za1) (⟨hu,hv,hrv,hkc,hy⟩) ?_
               refine tk (i:=1) (v:=.agg #[A,B]) rfl (yieldsIf_load_mid (by rfl) 25 (.tmp 5) rfl xb 0 rfl [A,B] _ (fun W' h=>zax h.2.1 0 _ rfl) Tryz.underlying25 rfl zbh) (⟨hu,hv,hrv,hkc,hy⟩) ?_
               refine tg (i:=2) (.pointer (some ⟨W.heap.size,3,none⟩)) rfl (⟨hu,hv,hrv,hkc,hy⟩) ?_
               refine tg (i:=4) (.int .i64 (i:Int)) rfl (⟨hu,hv,hrv,hkc,hy⟩) ?_
               refine tg (i:=7) (.pointer (some ⟨W.heap.size,4,none⟩)) rfl (⟨hu,hv,hrv,hkc,hy⟩) ?_
               refine tg (i:=9) (.int .i64 (k:Int)) rfl (⟨hu,hv,hrv,hkc,hy⟩) ?_
               refine tk (i:=3) (v:=.slice (some ⟨gv,ov,none⟩) nv cv) rfl (Or.inl ⟨by rfl,fun W' h=>by have c0:=zac h.1 3 rfl;go_simp⟩) (⟨hu,hv,hrv,hkc,hy⟩) ?_
               refine tk (i:=8) (v:=.slice (some ⟨gy,oy,none⟩) nk ck) rfl (Or.inl ⟨by rfl,fun W' h=>by have c0:=zac h.1 4 rfl;go_simp⟩) (⟨hu,hv,hrv,hkc,hy⟩) ?_
               refine tg (i:=5) (.pointer (some ⟨gv,ov+i*6,none⟩)) rfl (⟨hu,hv,hrv,hkc,hy⟩) ?_
               refine tg (i:=10) (.pointer (some ⟨gy,oy+k,none⟩)) rfl (⟨hu,hv,hrv,hkc,hy⟩) ?_
               refine tk (i:=6) (v:=.agg #[.int .i64 vk,.bool vb,.int .i64 vn,.string vt,.string vx,.slice lp vq.length lc]) rfl (yieldsIf_load_mid (by rfl) 60 (.tmp 232) rfl gv (ov+i*6) rfl [.int .i64 vk,.bool vb,.int .i64 vn,.string vt,.string vx,.slice lp vq.length lc] _ (fun W' h=>h.2.2.1) Tryz.underlying60 rfl za1) (⟨hu,hv,hrv,hkc,hy⟩) ?_
               refine tk (i:=11) (v:=.string ky) rfl (Or.inl ⟨by rfl,fun W' h=>by have c0:=h.2.2.2.1;go_simp⟩) (⟨hu,hv,hrv,hkc,hy⟩) ?_
               refine tr 12 rfl (fun K hK=>?_)
               rw [if_pos (by rfl)]
               go_simp
               refine (HRP.out _ HI9.out).mono ?_
               rintro e0 w3 ⟨cw,rfl,hcw,hb3⟩
               replace hu:=(hb3.block _ (zaa hu)).trans hu
               replace hrv:=zaz hrv hb3
               replace hkc:=zah hkc hb3
               replace bD:=zab bD hb3 bD.size
               replace hv:=(hb3.block _ (zaa hv)).trans hv
               replace hy:=(hb3.block _ (zaa hy)).trans hy
               replace HI9:=Lib.hid (HI9.out.below hb3)
               replace OWN:=Lib.hid (OWN.out.below hb3)
               have HSM:=Lib.hid (zn6 (.mk k' b' n' t' x' q') (.mk k' b' n' t' x' q') [.int .i64 k',.bool b',.int .i64 n',.string t',.string x',.slice p' q'.length c'] cw w3 _ _ (OwnL.rel OWN.out HFP.out.1) hcw)
               rw [zg7] at HSM
               clear hb3 hcw
               refine hK.out _ _ (⟨hu,hv,hrv,hkc,hy⟩) (fun _=>?_)
               clear hK K
               try simp only [putS]
               refine tr 13 rfl (fun K hK=>?_)
               rw [if_pos (by rfl)]
               go_simp
               refine HSM.out.mono ?_
               rintro e0 w4 ⟨rfl,hb3⟩
               replace hu:=(hb3.block _ (zaa hu)).trans hu
               replace hrv:=zaz hrv hb3
               replace hkc:=zah hkc hb3
               replace bD:=zab bD hb3 bD.size
               replace hv:=(hb3.block _ (zaa hv)).trans hv
               replace hy:=(hb3.block _ (zaa hy)).trans hy
               replace HI9:=Lib.hid (HI9.out.below hb3)
               replace OWN:=Lib.hid (OWN.out.below hb3)
               clear hb3
               refine hK.out _ _ (⟨hu,hv,hrv,hkc,hy⟩) (fun _=>?_)
               clear hK K
               try simp only [putS]
               refine tg (i:=14) (.bool false) rfl (⟨hu,hv,hrv,hkc,hy⟩) ?_
               refine wpAnyH_done (by kernel_rfl) ?_ _
               have hBW:wr.heap.size≤w4.heap.size:=by have:=HFP.out.2.2.2.size;have:=bD.size;omega
               have HOV:=Lib.hid (zyr k' b' n' t' x' q' _ NN wr.heap.size w4 HFP.out.1.hn OWN.out HFP.out.2.1 HFP.out.2.2.1 hBW)
               have HIE:Hid (∀ w9,Below wr.heap.size w4 w9→AskI g W s xb #[.slice p1 n1 cap1,.slice p2 n2 cap2,.slice pz nz cz,.slice (some ⟨gv,ov,none⟩) nv cv,.slice (some ⟨gy,oy,none⟩) nk ck,.slice pl nl cl,.slice pd nd cd] A B w9):=Lib.hid fun w9 b=>HIR.out.below ((zab HFP.out.2.2.2 bD HFP.out.2.2.2.size).trans b)
               clear hu hv hrv hkc bD HI9 OWN HRP hBW
               go_wp2_with (first
                |((with_reducible refine zai (.tmp 20) yy 60 60 [.int .i64 k',.bool b',.int .i64 n',.string t',.string x',.slice p' q'.length c'] 6 _ hy rfl Tryz.underlying60 rfl za1 ?_ ?_ ?_ ?_);rfl;rfl;rfl)
                |(go_at_call 30;(with_reducible refine HOV.out.mono ?_);rintro e w9 ⟨rfl,hb9⟩))
               go_roundg (gk - 1)
               case measure=>omega
               case rel=>exact ⟨k+1,by omega,by go_num,Lib.hid (HIE.out _ hb9)⟩
             ·go_wp2_with fail
              go_roundg (nv - (i+1))
              case measure=>omega
              case rel=>exact ⟨i+1,by omega,by go_num,HI⟩
            ·go_wp2_with fail
             go_roundg (nv - (i+1))
             case measure=>omega
             case rel=>exact ⟨i+1,by omega,by go_num,HI⟩
          ·go_wp2_with fail
           go_meet
           case rel=>exact HI
         ·go_wp2_with fail
          go_meet
          case rel=>exact HI
      case rest=>
       rename World=>wa2
       clear HI
       have HI:=hcut
       clear hcut
       go_upto_block 8 with fail
       go_cut [21] (fun _ wx=>Hid (AskI g W s xb #[.slice p1 n1 cap1,.slice p2 n2 cap2,.slice pz nz cz,.slice pv nv cv,.slice pk nk ck,.slice pl nl cl,.slice pd nd cd] A B wx))
       case first=>
        as_aux_lemma=>
         go_wp2_with fail
         go_loopg [21] (nl+1) (fun gg s21 wr=>∃ k:Nat,k+gg=nl+1∧s21=.int .i64 k∧Hid (AskI g W s xb #[.slice p1 n1 cap1,.slice p2 n2 cap2,.slice pz nz cz,.slice pv nv cv,.slice pk nk ck,.slice pl nl cl,.slice pd nd cd] A B wr))
         case atStart=>exact ⟨0,by omega,rfl,HI⟩
         case round=>
          clear HI
          obtain ⟨k,hkg,rfl,HI⟩:=hrel
          have c5:=zac HI.out.ub 5 rfl
          by_cases hk:(k:Int)≤nl
          ·by_cases hk4:(k:Int) < 4
           ·have hk1:k≤ls.length:=by have:=HL.out.2.2.2.2.2.1;omega
            have hkc:(k:Int)≤cl:=by have:=HCL.out;omega
            have hkc2:k≤cl:=by have:=HCL.out;omega
            obtain ⟨xs,hxs⟩:∃ l,l=zcp g (ls.take k):=⟨_,rfl⟩
            have hkl:(ls.take k).length≤2097152:=by rw [List.length_take];have:=HL.out.2.2.2.2.2.1;omega
            have hst:∀ W',Below W.heap.size W W'→zcd W' (.slice pl k cl) (ls.take k):=fun W' b=>zw0 (zbs (HLS.out.stays (zad b))) k hk1
            have hnn1:(za3 g).nodes.length≤2097152:=by rw [zed];exact Nat.le_trans HGG.out.nn (by decide)
            have HLB:Hid (∀ W',AskI g W s xb #[.slice p1 n1 cap1,.slice p2 n2 cap2,.slice pz nz cz,.slice pv nv cv,.slice pk nk ck,.slice pl nl cl,.slice pd nd cd] A B W'→Calls Tryz.prog 31 #[.pointer (some ⟨s,0,none⟩),.slice pl k cl] W' (zfu W' xs)):=Lib.hid fun W' h=>by
             rw [hxs]
             exact zns W' s g h.st HGG.out.dn (fun a ha=>(HGG.out.labels a ha).2.1) HGG.out.nn _ (ls.take k) (hst W' h.bel) hkl (fun t ht=>HLK.out t (List.mem_of_mem_take ht))
            have HRL:Hid (∀ W',AskI g W s xb #[.slice p1 n1 cap1,.slice p2 n2 cap2,.slice pz nz cz,.slice pv nv cv,.slice pk nk ck,.slice pl nl cl,.slice pd nd cd] A B W'→Calls Tryz.prog 32 #[.agg #[A,B],.slice pl k cl] W' (zfu W' xs)):=Lib.hid fun W' h=>by
             rw [hxs,← zpx HGG.out]
             exact zoq (za3 g).nodes A B _ (ls.take k) W' h.hA HAS.out.2 (hst W' h.bel) hnn1 hkl
            have HXL:Hid (xs.length≤2097152):=Lib.hid (by rw [hxs];exact Nat.le_trans (zn8 g _) (Nat.le_trans HGG.out.nn (by decide)))
            have hdk:decide ((k:Int)≤nl)=true:=decide_eq_true hk
            clear hxs hkl hst hnn1 hk1
            cases pl with
            | none=>
              have hk0:k=0:=by
               by_cases hz:ls=[]
               ·have:=HL.out.2.2.2.2.2.1
                rw [hz] at this
                simp at this
                omega
               ·obtain ⟨_,_,e,hc⟩:=zbs HLS.out
                injection e with e1
                obtain ⟨_,_,e3,_⟩:=hc hz
                rw [← e1] at e3
                cases e3
              subst hk0
              go_upto_region 38 with (first
               |(go_at_call 31;(with_reducible refine (HLB.out _ HI.out).mono ?_);rintro e w1 ⟨R,rfl,hR,hb1⟩
                 obtain ⟨qr,kr,rfl⟩:=zba hR))
              have HI1:=Lib.hid (HI.out.below hb1)
              have bD:=hb1.drew
              have HI9:=Lib.hid (HI.out.below bD)
              have hu:=HI1.out.ub
              have hv:=HI1.out.ug
              have own1:=zav hR (Below.refl w1.heap.size w1).drew
              clear c5 hR
              refine wp_region_held_drew (S:=fun W'=>W'.heap[W.heap.size]?=some (.cells #[.slice p1 n1 cap1,.slice p2 n2 cap2,.slice pz nz cz,.slice pv nv cv,.slice pk nk ck,.slice none nl cl,.slice pd nd cd] 46 (0,0))∧W'.heap[xb]?=some (.cells #[A,B] 25 (0,0))) (by kernel_rfl) ⟨hu,hv⟩ (fun _=>?_)
              replace hu:w1.drew.heap[W.heap.size]?=_:=hu
              replace hv:w1.drew.heap[xb]?=_:=hv
              generalize w1.drew=wD at*
              refine tg (i:=0) (.slice qr xs.length kr) rfl (⟨hu,hv⟩) ?_
              refine tk (i:=1) (v:=.agg #[A,B]) rfl (yieldsIf_load_mid (by rfl) 25 (.tmp 5) rfl xb 0 rfl [A,B] _ (fun W' h=>zax h.2 0 _ rfl) Tryz.underlying25 rfl zbh) (⟨hu,hv⟩) ?_
              refine tg (i:=2) (.pointer (some ⟨W.heap.size,5,none⟩)) rfl (⟨hu,hv⟩) ?_
              refine tg (i:=4) (.int .i64 0) rfl (⟨hu,hv⟩) ?_
              refine tk (i:=3) (v:=.slice none nl cl) rfl (Or.inl ⟨by rfl,fun W' h=>by have c0:=zac h.1 5 rfl;go_simp⟩) (⟨hu,hv⟩) ?_
              refine tg (i:=5) (.slice none 0 cl) rfl (⟨hu,hv⟩) ?_
              refine tr 6 rfl (fun K hK=>?_)
              rw [if_pos (by rfl)]
              go_simp
              refine (HRL.out _ HI9.out).mono ?_
              rintro e0 w3 ⟨R,rfl,hR,hb3⟩
              have hI:=za4 hR
              obtain ⟨q2,k2,rfl⟩:=zba hR
              replace hu:=(hb3.block _ (zaa hu)).trans hu
              replace hv:=(hb3.block _ (zaa hv)).trans hv
              replace HI9:=Lib.hid (HI9.out.below hb3)
              replace bD:=zab bD hb3 bD.size
              replace own1:=zav own1 hb3
              clear hb3 hR
              refine hK.out _ _ (⟨hu,hv⟩) (fun _=>?_)
              clear hK K
              try simp only [putS]
              refine tr 7 rfl (fun K hK=>?_)
              rw [if_pos (by rfl)]
              have HQ:=Lib.hid (zgl _ _ xs xs w3 (za4 own1) hI HXL.out)
              rw [show decide (xs=xs)=true from decide_eq_true rfl] at HQ
              go_simp
              refine HQ.out.mono ?_
              rintro e0 w4 ⟨rfl,hb3⟩
              replace hu:=(hb3.block _ (zaa hu)).trans hu
              replace hv:=(hb3.block _ (zaa hv)).trans hv
              replace HI9:=Lib.hid (HI9.out.below hb3)
              replace bD:=zab bD hb3 bD.size
              replace own1:=zav own1 hb3
              clear hb3 hI HQ
              refine hK.out _ _ (⟨hu,hv⟩) (fun _=>?_)
              clear hK K
              try simp only [putS]
              refine tg (i:=8) (.bool false) rfl (⟨hu,hv⟩) ?_
              refine wpAnyH_done (by kernel_rfl) ?_ _
              have HOV:=Lib.hid (zk5 _ xs.length wr.heap.size _ w4 own1 HXL.out bD.size)
              have HIE:Hid (∀ w9,Below wr.heap.size w4 w9→AskI g W s xb #[.slice p1 n1 cap1,.slice p2 n2 cap2,.slice pz nz cz,.slice pv nv cv,.slice pk nk ck,.slice none nl cl,.slice pd nd cd] A B w9):=Lib.hid fun w9 b=>HI.out.below (bD.trans b)
              clear hu hv bD HI9 own1 HLB HRL HXL HI1 hb1
              go_wp2_with (first
               |(go_at_call 26;(with_reducible refine HOV.out.mono ?_);rintro e w9 ⟨rfl,hb9⟩))
              go_roundg (gk - 1)
              case measure=>omega
              case rel=>exact ⟨0+1,by omega,by go_num,Lib.hid (HIE.out _ hb9)⟩
            | some ad=>
              obtain ⟨gl,ol,so⟩:=ad
              go_upto_region 38 with (first
               |(go_at_call 31;(with_reducible refine (HLB.out _ HI.out).mono ?_);rintro e w1 ⟨R,rfl,hR,hb1⟩
                 obtain ⟨qr,kr,rfl⟩:=zba hR))
              have HI1:=Lib.hid (HI.out.below hb1)
              have bD:=hb1.drew
              have HI9:=Lib.hid (HI.out.below bD)
              have hu:=HI1.out.ub
              have hv:=HI1.out.ug
              have own1:=zav hR (Below.refl w1.heap.size w1).drew
              clear c5 hR
              refine wp_region_held_drew (S:=fun W'=>W'.heap[W.heap.size]?=some (.cells #[.slice p1 n1 cap1,.slice p2 n2 cap2,.slice pz nz cz,.slice pv nv cv,.slice pk nk ck,.slice (some ⟨gl,ol,so⟩) nl cl,.slice pd nd cd] 46 (0,0))∧W'.heap[xb]?=some (.cells #[A,B] 25 (0,0))) (by kernel_rfl) ⟨hu,hv⟩ (fun _=>?_)
              replace hu:w1.drew.heap[W.heap.size]?=_:=hu
              replace hv:w1.drew.heap[xb]?=_:=hv
              generalize w1.drew=wD at*
              refine tg (i:=0) (.slice qr xs.length kr) rfl (⟨hu,hv⟩) ?_
              refine tk (i:=1) (v:=.agg #[A,B]) rfl (yieldsIf_load_mid (by rfl) 25 (.tmp 5) rfl xb 0 rfl [A,B] _ (fun W' h=>zax h.2 0 _ rfl) Tryz.underlying25 rfl zbh) (⟨hu,hv⟩) ?_
              refine tg (i:=2) (.pointer (some ⟨W.heap.size,5,none⟩)) rfl (⟨hu,hv⟩) ?_
              refine tg (i:=4) (.int .i64 (k:Int)) rfl (⟨hu,hv⟩) ?_
              refine tk (i:=3) (v:=.slice (some ⟨gl,ol,so⟩) nl cl) rfl (Or.inl ⟨by rfl,fun W' h=>by have c0:=zac h.1 5 rfl;go_simp⟩) (⟨hu,hv⟩) ?_
              refine tg (i:=5) (.slice (some ⟨gl,ol,so⟩) k cl) rfl (⟨hu,hv⟩) ?_
              refine tr 6 rfl (fun K hK=>?_)
              rw [if_pos (by rfl)]
              go_simp
              refine (HRL.out _ HI9.out).mono ?_
              rintro e0 w3 ⟨R,rfl,hR,hb3⟩
              have hI:=za4 hR
              obtain ⟨q2,k2,rfl⟩:=zba hR
              replace hu:=(hb3.block _ (zaa hu)).trans hu
              replace hv:=(hb3.block _ (zaa hv)).trans hv
              replace HI9:=Lib.hid (HI9.out.below hb3)
              replace bD:=zab bD hb3 bD.size
              replace own1:=zav own1 hb3
              clear hb3 hR
              refine hK.out _ _ (⟨hu,hv⟩) (fun _=>?_)
              clear hK K
              try simp only [putS]
              refine tr 7 rfl (fun K hK=>?_)
              rw [if_pos (by rfl)]
              have HQ:=Lib.hid (zgl _ _ xs xs w3 (za4 own1) hI HXL.out)
              rw [show decide (xs=xs)=true from decide_eq_true rfl] at HQ
              go_simp
              refine HQ.out.mono ?_
              rintro e0 w4 ⟨rfl,hb3⟩
              replace hu:=(hb3.block _ (zaa hu)).trans hu
              replace hv:=(hb3.block _ (zaa hv)).trans hv
              replace HI9:=Lib.hid (HI9.out.below hb3)
              replace bD:=zab bD hb3 bD.size
              replace own1:=zav own1 hb3
              clear hb3 hI HQ
              refine hK.out _ _ (⟨hu,hv⟩) (fun _=>?_)
              clear hK K
              try simp only [putS]
              refine tg (i:=8) (.bool false) rfl (⟨hu,hv⟩) ?_
              refine wpAnyH_done (by kernel_rfl) ?_ _
              have HOV:=Lib.hid (zk5 _ xs.length wr.heap.size _ w4 own1 HXL.out bD.size)
              have HIE:Hid (∀ w9,Below wr.heap.size w4 w9→AskI g W s xb #[.slice p1 n1 cap1,.slice p2 n2 cap2,.slice pz nz cz,.slice pv nv cv,.slice pk nk ck,.slice (some ⟨gl,ol,so⟩) nl cl,.slice pd nd cd] A B w9):=Lib.hid fun w9 b=>HI.out.below (bD.trans b)
              clear hu hv bD HI9 own1 HLB HRL HXL HI1 hb1
              go_wp2_with (first
               |(go_at_call 26;(with_reducible refine HOV.out.mono ?_);rintro e w9 ⟨rfl,hb9⟩))
              go_roundg (gk - 1)
              case measure=>omega
              case rel=>exact ⟨k+1,by omega,by go_num,Lib.hid (HIE.out _ hb9)⟩
           ·go_wp2_with fail
            go_meet
            case rel=>exact HI
          ·go_wp2_with fail
           go_meet
           case rel=>exact HI
       case rest=>
        rename World=>wa3
        clear HI
        have HI:=hcut
        clear hcut
        have HPN:Hid (∀ W',AskI g W s xb #[.slice p1 n1 cap1,.slice p2 n2 cap2,.slice pz nz cz,.slice pv nv cv,.slice pk nk ck,.slice pl nl cl,.slice pd nd cd] A B W'→Calls Tryz.prog 16 #[.pointer (some ⟨s,0,none⟩)] W' fun e w'=>∃ vn ve,e=.returned (.agg #[vn,ve])∧zaj zay w' (Old w') vn (za3 g).nodes∧zaj za0 w' (Old w') ve (za3 g).edges∧Below W'.heap.size W' w'):=Lib.hid fun W' h=>by
         refine (zvb W' s g h.st HGG.out).mono ?_
         intro e w' hp
         obtain ⟨vn,ve,rfl,hn,he,hb⟩:=hp.slices
         exact ⟨vn,ve,rfl,hn.stays (fun i hi=>⟨hi.2,rfl⟩),he.stays (fun i hi=>⟨hi.2,rfl⟩),hb⟩
        have HLN:Hid ((za3 g).nodes.length≤2097152∧(za3 g).edges.length≤2097152):=Lib.hid ⟨by rw [zed];exact Nat.le_trans HGG.out.nn (by decide),by rw [zdt];exact Nat.le_trans HGG.out.ne (by decide)⟩
        go_upto_region 41 with fail
        have hv:=HI.out.ug
        have bD:Below wa3.heap.size wa3 wa3.drew:=(Below.refl _ _).drew
        have HI9:=Lib.hid (HI.out.below bD)
        refine wp_region_held_drew (S:=fun W'=>W'.heap[xb]?=some (.cells #[A,B] 25 (0,0))) (by kernel_rfl) hv (fun _=>?_)
        replace hv:wa3.drew.heap[xb]?=_:=hv
        clear bD
        generalize wa3.drew=wD at*
        refine tg (i:=0) (.pointer (some ⟨s,0,none⟩)) rfl (hv) ?_
        refine tk (i:=2) (v:=.agg #[A,B]) rfl (yieldsIf_load_mid (by rfl) 25 (.tmp 5) rfl xb 0 rfl [A,B] _ (fun W' h=>zax h 0 _ rfl) Tryz.underlying25 rfl zbh) (hv) ?_
        refine tr 1 rfl (fun K hK=>?_)
        rw [if_pos (by rfl)]
        go_simp
        refine (HPN.out _ HI9.out).mono ?_
        rintro e0 w2 ⟨vn,ve,rfl,hvn,hve,hb3⟩
        replace hv:=(hb3.block _ (zaa hv)).trans hv
        replace HI9:=Lib.hid (HI9.out.below hb3)
        have HEG:=Lib.hid (zwc (za3 g) vn ve A B w2 hvn hve HI9.out.hA HI9.out.hB HLN.out.1 HLN.out.2)
        clear hb3 hvn hve
        refine hK.out _ _ (hv) (fun _=>?_)
        clear hK K
        try simp only [putS]
        refine tr 3 rfl (fun K hK=>?_)
        rw [if_pos (by rfl)]
        go_simp
        refine HEG.out.mono ?_
        rintro e0 w3 ⟨rfl,hb3⟩
        replace hv:=(hb3.block _ (zaa hv)).trans hv
        replace HI9:=Lib.hid (HI9.out.below hb3)
        clear hb3
        refine hK.out _ _ (hv) (fun _=>?_)
        clear hK K
        try simp only [putS]
        refine tg (i:=4) (.bool true) rfl (hv) ?_
        refine tr 5 rfl (fun K hK=>?_)
        rw [if_pos (by rfl)]
        go_simp
        refine (HWK.out _ HI9.out.bel).mono ?_
        rintro e0 w4 ⟨rfl,hb3⟩
        replace hv:=(hb3.block _ (zaa hv)).trans hv
        replace HI9:=Lib.hid (HI9.out.below hb3)
        clear hb3
        refine hK.out _ _ (hv) (fun _=>?_)
        clear hK K
        try simp only [putS]
        refine tg (i:=6) (.bool true) rfl (hv) ?_
        refine tg (i:=7) (.bool true) rfl (hv) ?_
        refine wpAnyH_done (by kernel_rfl) ?_ _
        go_wp2_with fail
        go_ret
        exact ⟨rfl,HI9.out.bel⟩
end Go.Proofs.YtcfmenkigolnoaaGreatDoor
