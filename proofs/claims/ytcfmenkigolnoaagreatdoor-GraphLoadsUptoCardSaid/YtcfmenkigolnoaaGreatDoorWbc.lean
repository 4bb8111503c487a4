/- Texts of one kind, one behind the other: each says ahead of itself what it shows. -/
import Derived.Test.YtcfmenkigolnoaaGreatDoorWax
import Derived.Test.YtcfmenkigolnoaaGreatDoorWap
import Derived.Test.YtcfmenkigolnoaaGreatDoorWaz
import Derived.Test.YtcfmenkigolnoaaGreatDoorWba
/- GOT -/
namespace Go.Proofs.YtcfmenkigolnoaaGreatDoor
open Go.RowKit
theorem zfg {a b:World} {r:Option Nat} (h:a.grownBy b r) {g:Nat} (hg:r=some g∨a.heap.size≤g) (o:Nat) (u:Value):a.grownBy (b.setCell ⟨g,o,none⟩ u) r:=
 ⟨h.os,h.tape,h.output,by simpa using h.size,fun k hk hne=>(Below.heap_setCell b ⟨g,o,none⟩ u k (by
  show k≠g
  rintro rfl
  rcases hg with e | e
  ·exact hne e.symm
  ·omega)).trans (h.block k hk hne)⟩
theorem znm {a b c:World} {r:Option Nat} {o:Obj} (h:a.grownBy b r) (hg:(b.alloc o).grownBy c r):a.grownBy c r:=
 ⟨hg.os.trans h.os,hg.tape.trans h.tape,hg.output.trans h.output,Nat.le_trans h.size (by have:=hg.size;simp at this;omega),fun k hk hne=>(hg.block k (by have:=h.size;simp;omega) hne).trans ((Below.heap_alloc _ _ _ (Nat.lt_of_lt_of_le hk h.size)).trans (h.block k hk hne))⟩
set_option maxHeartbeats 3200000 in
set_option maxRecDepth 20000 in
theorem zqr (V:Value) (n base:Nat) (xs:List Value) (W:World) (h:W.ownsRow base 9 1 V n xs) (hn:n≤2097152):Calls Tryz.prog 13 #[V] W fun e w'=>e=.returned (.tuple #[])∧W.grownBy w' V.ownBlock:=by
 obtain ⟨i0,hi,hz0,hz1,hz2⟩:=info_parts zex
 rcases id h.2 with ⟨rfl,rfl⟩ | ⟨g,cap,cur,rfl,-⟩
 ·have ho:W.ownsRow W.heap.size 9 1 (.slice none 0 0) 0 []:=World.ownsRow_nil _ _ _ _
  clear h
  go_enter Tryz.func13,Tryz.ntmps13
  go_wp2_with fail
  go_loopg [2] 0 (fun gg s2 wr=>gg=0∧s2=.int .i64 0∧W=wr)
  case atStart=>exact ⟨rfl,rfl,rfl⟩
  case round=>
   obtain ⟨_,rfl,rfl⟩:=hrel
   go_wp2_with (first
    |(at_builtin;refine wpList_append_own_at _ rfl _ _ 35 rfl W.heap.size 9 i0 (.string ⟨#[]⟩) 1 16 Tryz.underlying35 hi hz0 hz1 hz2 rfl (by decide) (.slice none 0 0) 0 [] rfl (ho.alloc _) ⟨W.heap.size,0,none⟩ 1 1 [.string ⟨#[98,101,121,111,110,100]⟩] rfl rfl (zbp W [.string ⟨#[98,101,121,111,110,100]⟩] 9) (by simp [Value.oneCell']) ?_ ?_ ?_ ?_))
   all_goals (try (first |(unfold maxLen;omega) | omega |(simp;done) |(simp;omega) |(have:=ho.lt g rfl;omega) |(have:=ho.lt g rfl;simp;omega)))
   intro v' w5 ho5 hg5 _ hl5
   have hb5:=znm (World.grownBy.refl W none) hg5
   obtain ⟨g5,cap5,rfl⟩:=zpi ho5
   obtain ⟨⟨v5,c5⟩,f5,q5⟩:=zoi ho5 0 (by omega)
   have HB:=Lib.hid (And.intro hb5 q5)
   clear ho5 hg5 hb5 q5 ho hl5
   go_wp2_with fail
   go_end0
   exact ⟨rfl,zfg HB.out.1 (.inr HB.out.2) _ _⟩
 ·have H0:=Lib.hid h
  clear h
  go_enter Tryz.func13,Tryz.ntmps13
  go_wp2_with fail
  go_loopg [2] n (fun gg s2 wr=>∃ j:Nat,j+gg=n∧s2=.int .i64 j∧∃ xs,Hid (wr.ownsRow base 9 1 (.slice (some ⟨g,0,none⟩) n cap) n xs∧W.grownBy wr (some g)))
  case atStart=>exact ⟨0,by omega,rfl,xs,Lib.hid ⟨H0.out,World.grownBy.refl _ _⟩⟩
  case round=>
   clear H0
   obtain ⟨j,hjg,rfl,xs,HA⟩:=hrel
   by_cases hj:(j:Int) < n
   ·obtain ⟨⟨v,c0⟩,f0,q0⟩:=zoi HA.out.1 j (by omega)
    obtain ⟨xs',h'⟩:=zv4 HA.out.1 j (.string ⟨#[111,118,101,114]⟩)
    have HS:=Lib.hid (And.intro h' (zfg HA.out.2 (.inl rfl) j (.string ⟨#[111,118,101,114]⟩)))
    clear HA h' q0
    go_wp2_with fail
    go_roundg (gk - 1)
    case measure=>omega
    case rel=>exact ⟨j+1,by omega,by go_num,xs',HS⟩
   ·have ho:=HA.out.1
    have hb:=HA.out.2
    go_wp2_with (first
     |(at_builtin;refine wpList_append_own_at _ rfl _ _ 35 rfl base 9 i0 (.string ⟨#[]⟩) 1 16 Tryz.underlying35 hi hz0 hz1 hz2 rfl (by decide) (.slice (some ⟨g,0,none⟩) n cap) n xs rfl (ho.alloc _) ⟨wr.heap.size,0,none⟩ 1 1 [.string ⟨#[98,101,121,111,110,100]⟩] rfl rfl (zbp wr [.string ⟨#[98,101,121,111,110,100]⟩] 9) (by simp [Value.oneCell']) ?_ ?_ ?_ ?_))
    all_goals (try (first |(unfold maxLen;omega) | omega |(simp;done) |(simp;omega) |(have:=ho.lt g rfl;omega) |(have:=ho.lt g rfl;simp;omega)))
    intro v' w5 ho5 hg5 _ hl5
    have hb5:=znm hb hg5
    obtain ⟨g5,cap5,rfl⟩:=zpi ho5
    obtain ⟨⟨v5,c5⟩,f5,q5⟩:=zoi ho5 n (by omega)
    have hq5:some g=some g5∨W.heap.size≤g5:=by
     have hs:=hb.size
     rcases hl5 with e | e
     ·exact .inl (by simpa [Value.ownBlock] using e.symm)
     ·exact .inr (by simp [Value.ownBlock] at e;omega)
    have HB:=Lib.hid (And.intro hb5 hq5)
    clear hq5
    clear ho5 hg5 hb5 q5 ho hb hl5
    go_wp2_with fail
    go_end0
    exact ⟨rfl,zfg HB.out.1 HB.out.2 _ _⟩
end Go.Proofs.YtcfmenkigolnoaaGreatDoor

/- GPO -/
namespace Go.Proofs.YtcfmenkigolnoaaGreatDoor
open Go.RowKit
theorem zv6 (a:zap) (W:World) (c:List Value) (h:za4.rel W (Old W) c a):Calls Tryz.prog 47 #[.agg c.toArray] W fun e w'=>∃ c',e=.returned (.agg c'.toArray)∧zdb w' W.heap.size w'.heap.size c' a∧Below W.heap.size W w':=by
 obtain ⟨id,ls,ps⟩:=a
 obtain ⟨lv,pv,rfl,hid,hn1,hn2,hl,hp⟩:=h
 obtain ⟨p1,c1,rfl⟩:=hl.slice
 obtain ⟨p2,c2,rfl⟩:=hp.slice
 refine (ze8 id ls ps p1 p2 c1 c2 W hn1 hn2 hl hp).mono ?_
 rintro e w' ⟨V,U,rfl,hV,hU,hb⟩
 obtain ⟨lo,xs,h1,h2,h3,h4⟩:=hU
 refine ⟨[.int .i64 id,V,U],rfl,⟨V,U,rfl,hid,⟨hn1,hV.2,fun g e=>hV.lt g e,zcd hV.1 (by omega)⟩,⟨hn2,fun g e=>(h3.lt g e).2,xs,zcd h3 (by omega),h4.stays fun g hg=>⟨⟨⟨by have:=hg.1;omega,hg.2.1⟩,hg.2.2,fun e=>by have:=h2 g e;have:=hg.1;omega⟩,rfl⟩⟩,fun g e q=>by have:=h2 g e;have:=(h3.lt g q).1;omega⟩,hb⟩
def TellO (b:zap) (w:World) (e:Ending) (w':World):Prop:=
 ∃ u c,e=.returned u∧u.cells=c.toArray∧∃ lo hi,w.heap.size≤lo∧lo≤hi∧hi≤w'.heap.size∧zdb w' lo hi c b∧Below w.heap.size w w'
def MapO (w:World) (bs:List zap) (e:Ending) (w':World):Prop:=∃ V top,e=.returned V∧AccO zbw 38 w.heap.size top bs V w'∧Below w.heap.size w w'
set_option maxHeartbeats 3200000 in
set_option maxRecDepth 20000 in
theorem map45O (tell:Int→zap) (l:List Int) (v:Value) (bx:Nat) (w:World) (h:zb3 w v l) (hn:l.length≤2097152)
 (each:∀ x∈l,∀ W,Below w.heap.size w W→Calls Tryz.prog 46 #[.int .i64 x,.pointer (some ⟨bx,0,none⟩)] W (TellO (tell x) W)):
 Calls Tryz.prog 45 #[v,.func (.func 46) #[] #[.pointer (some ⟨bx,0,none⟩)]] w (MapO w (l.map tell)):=by
 obtain ⟨n,hln⟩:∃ n,n=l.length:=⟨_,rfl⟩
 obtain ⟨p,cap,rfl,_⟩:=id h
 rw [← hln] at hn
 obtain ⟨i0,hi,hz0,hz1,hz2⟩:=info_parts zf9
 have HL:=Lib.hid hln
 have HH:=Lib.hid h
 have HE:=Lib.hid each
 rw [← hln]
 clear h hln each
 go_enter Tryz.func45,Tryz.ntmps45
 go_wp2_with fail
 go_loopg [5,10] n (fun gg s5 s10 wr=>∃ j:Nat,j+gg=n∧s10=.int .i64 j∧Hid ((∃ top,AccO zbw 38 w.heap.size top ((l.take j).map tell) s5 wr)∧Below w.heap.size w wr))
 case atStart=>exact ⟨0,by omega,rfl,Lib.hid ⟨⟨_,AccO.start zbw 38 _ _ w (Nat.le_refl _)⟩,Below.refl _ _⟩⟩
 case round=>
  obtain ⟨j,hjg,rfl,HA⟩:=hrel
  by_cases hlt:(j:Int) < n
  ·have hj1:j < l.length:=by have:=HL.out;omega
   have hbel:=HA.out.2
   obtain ⟨pp,cc,e0,hcv⟩:=HH.out.below hbel
   injection e0 with e1 e2 e3
   subst e1
   obtain ⟨g,off,rfl,hcj⟩:=hcv (by intro q;rw [q] at hj1;simp at hj1)
   obtain ⟨x,hxj⟩:∃ x,x=l[j]:=⟨_,rfl⟩
   have c0:wr.cell? ⟨g,off+j,none⟩=some (.int .i64 x):=by
    rw [hcj j hj1,hxj]
    simp [hj1]
   have hjl:((l.take j).map tell).length=j:=by rw [List.length_map,List.length_take];omega
   have etk:(l.take (j+1)).map tell=(l.take j).map tell++[tell x]:=by rw [List.take_succ_eq_append_getElem hj1,List.map_append,hxj];rfl
   have hbs:=hbel.size
   have bX:Below wr.heap.size wr wr:=Below.refl _ _
   have hcall:=HE.out x (by rw [hxj];exact List.getElem_mem hj1) wr hbel
   have HX:=Lib.hid (And.intro bX hbel)
   have HK:=Lib.hid (And.intro hjl etk)
   clear hcj hcv hjl etk e2 e3 hbel bX hxj
   go_wp2_with (first
    |(go_at_call 46;(with_reducible refine hcall.mono ?_);rintro e w3 ⟨u,c',rfl,hu,lo,hi2,hlo,hlh,hhi,hc',b3⟩
      obtain ⟨⟨top,htop,hAt,L,hL,hown,hit⟩,hbel⟩:=HA.out
      replace hown:wr.ownsRow w.heap.size 38 3 _ _ (L.map (·.c)).flatten:=hown
      have hown3:=za2 (za2 hown HX.out.1) b3
      have hlen':c'.length=3:=za4.len hc'.rel
      have hone':=za4.one hc'.rel
      have hsX:=HX.out.1.size
      have hs3:=b3.size
      have HY:=Lib.hid (And.intro hown (And.intro htop (And.intro hAt (And.intro hL (And.intro hit (And.intro hbel (And.intro b3 hc')))))))
      have HZ:=Lib.hid (And.intro hlo (And.intro hlh hhi))
      clear hown htop hAt hL hit hbel b3 hc' HA hcall hlo hlh hhi)
    |((with_reducible refine zbd ?_ 22 38 (.tmp 17) ?_ u c' ?_ hu i0 _ 3 hlen' (by omega) (by omega) Tryz.underlying22 hi hz0 hz1 ?_);rfl;rfl;rfl)
    |(at_builtin;refine wpList_append_own_at _ rfl _ _ 22 rfl w.heap.size 38 i0 (.agg #[.int .i64 0,.slice none 0 0,.slice none 0 0]) 3 56 Tryz.underlying22 hi hz0 hz1 hz2 rfl (by decide) _ _ _ rfl (hown3.alloc _) ⟨w3.heap.size,0,none⟩ 1 1 c' rfl (by rw [hlen']) (zbp _ _ _) hone' ?_ ?_ ?_ ?_))
   all_goals (try (first |(rw [HK.out.1];unfold maxLen;omega) |(rw [HK.out.1];omega) |(simp;omega)))
   intro v' w5 hown' hgrow _ hloc
   have e9:min j l.length=j:=by omega
   rw [e9] at hown'
   have e10:=hown'
   rw [← HK.out.1] at e10
   have hbz:=HY.out.2.2.2.2.2.1
   have acc:(∃ top,AccO zbw 38 w.heap.size top ((l.take (j+1)).map tell) v' w5)∧Below w.heap.size w w5:=by
    rw [HK.out.2]
    have hAb:=HY.out.1.lt
    have b3:=HY.out.2.2.2.2.2.2.1
    refine ⟨⟨_,AccO.next (wr:=wr) (w3:=w3) HY.out.2.1 (fun g e=>⟨(hAb g e).1,HY.out.2.2.1 g e⟩) HY.out.2.2.2.1 HY.out.2.2.2.2.1 hbz.size (fun g _ h=>b3.block g h) b3.size HY.out.2.2.2.2.2.2.2 HZ.out.1 HZ.out.2.1 HZ.out.2.2 e10 hgrow (by simpa using hloc)⟩,?_⟩
    have b4:Below w.heap.size w (w3.alloc (.cells c'.toArray 38)):=(hbz.trans (b3.mono hbz.size)).alloc (Nat.le_trans hbz.size b3.size) _
    exact b4.grown hgrow (by have:=b4.size;omega) (fun g e=>(hAb g e).1)
   have ACC:=Lib.hid acc
   clear acc hown' hgrow hloc hown3 HY HX HZ hbz e10
   go_wp2_with fail
   go_roundg (gk - 1)
   case measure=>omega
   case rel=>exact ⟨j+1,by omega,by go_num,ACC⟩
  ·have e:l.take j=l:=by rw [List.take_of_length_le];have:=HL.out;omega
   have hA:=HA.out
   rw [e] at hA
   obtain ⟨⟨top,hA⟩,hbel⟩:=hA
   have HX:=Lib.hid (And.intro hA hbel)
   clear hA hbel HA
   go_wp2_with fail
   go_ret
   exact ⟨_,top,rfl,HX.out.1,HX.out.2⟩
set_option maxHeartbeats 3200000 in
set_option maxRecDepth 20000 in
theorem zuo (a:zap) (W:World) (s b:Nat) (g:zau) (h:zdh W s g) (hb:BoxS W b s) (ha:a∈g.nodes) (hd:(a.props.map fun p=>bl p.key).Nodup):
 Calls Tryz.prog 46 #[.int .i64 a.id,.pointer (some ⟨b,0,none⟩)] W (TellO (zcr a) W):=by
 obtain ⟨m0,m1,m4,m5,V2,V3,q0,q1,q2,_,_,_,_⟩:=h.is
 obtain ⟨nn,f,hnn,hmap,h3,_⟩:=q1
 obtain ⟨a',c,hp,hff,hr⟩:=h3 a ha
 rw [hp.eq hd] at hr
 have hwf:(Lit.int .i64 a.id).wf=true:=by obtain ⟨_,_,rfl,hw,_⟩:=hr;exact hw
 have hki:keyOf Tryz.prog 2 (.int .i64 a.id)=some (.int .i64 a.id):=Go.Maps.keyOf_int_mk Tryz.underlying2 hwf
 have u1:(W.alloc (.cells #[.int .i64 0,.slice none 0 0,.slice none 0 0] 38)).heap[W.heap.size]?=some (.cells #[.int .i64 0,.slice none 0 0,.slice none 0 0] 38 (0,0)):=zae _ _ rfl
 have b0:=zas W (.cells #[.int .i64 0,.slice none 0 0,.slice none 0 0] 38)
 have us:(W.alloc (.cells #[.int .i64 0,.slice none 0 0,.slice none 0 0] 38)).heap[s]?=_:=zar _ q0
 have ub:(W.alloc (.cells #[.int .i64 0,.slice none 0 0,.slice none 0 0] 38)).heap[b]?=some (.cells #[.pointer (some ⟨s,0,none⟩)] 29 (0,0)):=zar _ hb
 replace hmap:=hmap.keep (b0.block _ hmap.lt)
 obtain ⟨W0,hW0⟩:∃ W0,W0=W.alloc (.cells #[.int .i64 0,.slice none 0 0,.slice none 0 0] 38):=⟨_,rfl⟩
 have hz1:∀ u∈[Value.int .i64 0,.slice none 0 0,.slice none 0 0],u.oneCell'=true:=by simp [Value.oneCell']
 rw [← hW0] at u1 b0 us ub hmap
 have cs:=zac us 0 rfl
 have cb:=zac ub 0 rfl
 have s0:W.heap.size < W0.heap.size:=zaa u1
 have HC:=Lib.hid (zv6 (zcr a) W0 c (za4.stays (zad b0) hr))
 have H0:=Lib.hid hW0
 obtain ⟨id,hid⟩:∃ id,id=a.id:=⟨_,rfl⟩
 rw [← hid] at hki hff ⊢
 clear hW0 hr hp h3 hwf hb h q0 q2 hid
 go_enter Tryz.func46,Tryz.ntmps46
 go_upto_region 1 with fail
 rw [← H0.out]
 go_wp2_with (first
  |(at_lookup;refine zbs rfl _ _ 73 rfl 2 38 law2 Tryz.underlying73 (zsv _) m0 nn rfl hmap _ (.int .i64 id) rfl hki trivial ?_;rw [hff];simp only [Option.getD_some])
  |(go_at_call 47;(with_reducible refine HC.out.mono ?_);rintro e w3 ⟨c',rfl,hc',hb3⟩
    have u3:=(hb3.block _ (zaa u1)).trans u1
    have hlen:c'.length=3:=za4.len hc'.rel
    have hone:=za4.one hc'.rel
    have HR:=Lib.hid (And.intro hc' hb3)
    clear hc' hb3)
  |((with_reducible refine zah (.tmp 3) (.tmp 10) W.heap.size 38 38 _ c' 3 u3 hlen ?_ ?_ ?_ ?_ zal rfl hone ?_);rfl;rfl;rfl;rfl;intro wX oX u5))
 have hsz:=oX.size
 exact bodyPost_ret (results_cell_row (p:=3) (ty:=38) Tryz.results46 _ _ W.heap.size 38 _ (0,0) _ rfl u5 Tryz.underlying38 rfl (by rw [zal];simp [hlen])) rfl
  ⟨_,c',rfl,rfl,W0.heap.size,w3.heap.size,Nat.le_of_lt s0,HR.out.2.size,hsz,HR.out.1.keep (fun i p q=>oX.block i q (by omega)),zag (zab b0 HR.out.2 b0.size) oX (Nat.le_refl _) (Nat.le_trans b0.size HR.out.2.size)⟩
def PlainO (W:World) (g:zau) (e:Ending) (w':World):Prop:=
 ∃ vn ve xe mid,e=.returned (.agg #[vn,ve])∧W.heap.size≤mid∧AccO zbw 38 W.heap.size mid (za3 g).nodes vn w'∧
  w'.ownsRow mid 41 5 ve (za3 g).edges.length xe∧RowE zaz w' (fun i=>mid≤i∧i < w'.heap.size∧ve.ownBlock≠some i) xe (za3 g).edges∧Below W.heap.size W w'
set_option maxHeartbeats 6400000 in
set_option maxRecDepth 20000 in
theorem zv7 (W:World) (s:Nat) (g:zau) (h:zdh W s g) (hg:zel g):Calls Tryz.prog 16 #[.pointer (some ⟨s,0,none⟩)] W (PlainO W g):=by
 obtain ⟨m0,m1,m4,m5,V2,V3,q0,q1,q2,q3,q4,_,_⟩:=h.is
 have e3:(g.nodes.map zap.id).mergeSort leI=zd2 g:=rfl
 have e4:(g.edges.map zat.id).mergeSort leI=zdx g:=rfl
 rw [e3] at q3
 rw [e4] at q4
 have i3:=zbe q3
 have i4:=zbe q4
 obtain ⟨p3,k3,rfl⟩:=zbc q3
 obtain ⟨p4,k4,rfl⟩:=zbc q4
 obtain ⟨w1,hw1⟩:∃ w1,w1=(W.alloc (.cells #[.pointer (some ⟨s,0,none⟩)] 29)).alloc (.cells #[.slice none 0 0,.slice none 0 0] 25):=⟨_,rfl⟩
 have u1:w1.heap[W.heap.size]?=some (.cells #[.pointer (some ⟨s,0,none⟩)] 29 (0,0)):=by rw [hw1];exact zar _ (zae _ _ rfl)
 have u2:w1.heap[W.heap.size+1]?=some (.cells #[.slice none 0 0,.slice none 0 0] 25 (0,0)):=by rw [hw1];exact zae _ _ (by simp)
 have bw:Below W.heap.size W w1:=by rw [hw1];exact zbk _ _ _
 have us:=(bw.block _ (zaa q0)).trans q0
 have hsz1:W.heap.size+2≤w1.heap.size:=by rw [hw1];simp
 have H45:Hid (∀ W',Below W.heap.size W W'→BoxS W' W.heap.size s→Calls Tryz.prog 45 #[.slice p3 (zd2 g).length k3,.func (.func 46) #[] #[.pointer (some ⟨W.heap.size,0,none⟩)]] W' (MapO W' (za3 g).nodes)):=Lib.hid fun W' hb hx=>by
  refine map45O (zh1 g) (zd2 g) _ _ W' (i3.below hb) (by rw [zfs];have:=hg.nn;omega) fun x hxm W2 hb2=>?_
  obtain ⟨a,ha,rfl⟩:=List.mem_map.1 (List.mem_mergeSort.1 hxm)
  rw [zfu hg.dn ha]
  exact zuo a W2 s _ g ((h.below hb).below hb2) ((hb2.block _ (zaa hx)).trans hx) ha (zdo (hg.nkeys a ha)).2.1
 have H48:Hid (∀ W',Below W.heap.size W W'→BoxS W' W.heap.size s→Calls Tryz.prog 48 #[.slice p4 (zdx g).length k4,.func (.func 49) #[] #[.pointer (some ⟨W.heap.size,0,none⟩)]] W' (za9 zaz 41 W' (za3 g).edges)):=Lib.hid fun W' hb hx=>by
  refine map48 (zh2 g) (zdx g) _ _ W' (i4.below hb) (by rw [zft];have:=hg.ne;omega) fun x hxm W2 hb2=>?_
  obtain ⟨a,ha,rfl⟩:=List.mem_map.1 (List.mem_mergeSort.1 hxm)
  rw [zfv hg.de ha]
  exact zo8 a W2 s _ g ((h.below hb).below hb2) ((hb2.block _ (zaa hx)).trans hx) ha (zdo (hg.ekeys a ha).1).2.1
 have HW:=Lib.hid hw1
 clear hw1 q1 q2 q3 q4 i3 i4 e3 e4 hg
 go_enter Tryz.func16,Tryz.ntmps16
 go_upto_region 1 with fail
 rw [← HW.out]
 refine wp_region_held_drew (S:=fun W'=>W'.heap[W.heap.size]?=some (.cells #[.pointer (some ⟨s,0,none⟩)] 29 (0,0))∧W'.heap[s]?=some (.cells #[.map (some m0),.map (some m1),.slice p3 (zd2 g).length k3,.slice p4 (zdx g).length k4,.map (some m4),.map (some m5)] 79 (0,0))) (by kernel_rfl) ⟨u1,us⟩ (fun _=>?_)
 replace bw:=bw.drew
 replace u1:w1.drew.heap[W.heap.size]?=_:=u1
 replace u2:w1.drew.heap[W.heap.size+1]?=_:=u2
 replace us:w1.drew.heap[s]?=_:=us
 replace hsz1:W.heap.size+2≤w1.drew.heap.size:=hsz1
 refine tk (i:=0) (v:=.pointer (some ⟨s,0,none⟩)) rfl (Or.inl ⟨by rfl,fun W' h=>by have c0:=zac h.1 0 rfl;go_simp⟩) (⟨u1,us⟩) ?_
 refine tg (i:=4) (.func (.func 46) #[] #[.pointer (some ⟨W.heap.size,0,none⟩)]) rfl (⟨u1,us⟩) ?_
 refine tk (i:=6) (v:=.pointer (some ⟨s,0,none⟩)) rfl (Or.inl ⟨by rfl,fun W' h=>by have c0:=zac h.1 0 rfl;go_simp⟩) (⟨u1,us⟩) ?_
 refine tg (i:=10) (.func (.func 49) #[] #[.pointer (some ⟨W.heap.size,0,none⟩)]) rfl (⟨u1,us⟩) ?_
 refine tg (i:=1) (.pointer (some ⟨s,0,none⟩)) rfl (⟨u1,us⟩) ?_
 refine tg (i:=7) (.pointer (some ⟨s,0,none⟩)) rfl (⟨u1,us⟩) ?_
 refine tg (i:=2) (.pointer (some ⟨s,2,none⟩)) rfl (⟨u1,us⟩) ?_
 refine tg (i:=8) (.pointer (some ⟨s,3,none⟩)) rfl (⟨u1,us⟩) ?_
 refine tk (i:=3) (v:=.slice p3 (zd2 g).length k3) rfl (Or.inl ⟨by rfl,fun W' h=>by have c0:=zac h.2 2 rfl;go_simp⟩) (⟨u1,us⟩) ?_
 refine tk (i:=9) (v:=.slice p4 (zdx g).length k4) rfl (Or.inl ⟨by rfl,fun W' h=>by have c0:=zac h.2 3 rfl;go_simp⟩) (⟨u1,us⟩) ?_
 refine tr 5 rfl (fun K hK=>?_)
 rw [if_pos (by rfl)]
 go_simp
 refine (H45.out _ bw u1).mono ?_
 rintro e0 w3 ⟨vn,top,rfl,hacc,hb3⟩
 have hm3:=hb3.size
 obtain ⟨pn,kn,rfl⟩:=hacc.form
 replace u1:=(hb3.block _ (zaa u1)).trans u1
 replace u2:=(hb3.block _ (zaa u2)).trans u2
 replace us:=(hb3.block _ (zaa us)).trans us
 replace bw:=zab bw hb3 bw.size
 have HN:=Lib.hid hacc
 clear hb3 hacc
 refine hK.out _ _ (⟨u1,us⟩) (fun _=>?_)
 clear hK K
 try simp only [putS]
 refine tr 11 rfl (fun K hK=>?_)
 rw [if_pos (by rfl)]
 go_simp
 refine (H48.out _ bw u1).mono ?_
 rintro e0 w4 ⟨ve,xe,rfl,hoe,hre,hb4⟩
 have hm4:=hb4.size
 obtain ⟨pe,ke,rfl⟩:=zbc hoe
 replace u1:=(hb4.block _ (zaa u1)).trans u1
 replace u2:=(hb4.block _ (zaa u2)).trans u2
 replace us:=(hb4.block _ (zaa us)).trans us
 replace bw:=zab bw hb4 bw.size
 have HE:=Lib.hid (And.intro hoe (And.intro hre hb4))
 clear hb4 hoe hre
 refine hK.out _ _ (⟨u1,us⟩) (fun _=>?_)
 clear hK K
 try simp only [putS]
 refine tg (i:=12) (.agg #[.slice pn (za3 g).nodes.length kn,.slice pe (za3 g).edges.length ke]) rfl (⟨u1,us⟩) ?_
 refine tr 13 rfl (fun K hK=>?_)
 rw [if_pos (by rfl)]
 refine wp_store_row 25 (.tmp 2) (.tmp 15) rfl (W.heap.size+1) #[.slice pn (za3 g).nodes.length kn,.slice pe (za3 g).edges.length ke] rfl rfl 25 _ u2 zbg rfl (by simp [Value.oneCell']) ?_
 have u5:=zc7 (c':=#[.slice pn (za3 g).nodes.length kn,.slice pe (za3 g).edges.length ke]) u2
 have on:=Only.setRow (b:=W.heap.size+1) w4 #[.slice pn (za3 g).nodes.length kn,.slice pe (za3 g).edges.length ke]
 have hlt2:=zaa u2
 have hlts:=zaa q0
 replace u1:=(on.block W.heap.size (zaa u1) (by omega)).trans u1
 replace us:=(on.block s (zaa us) (by omega)).trans us
 have bz:=zag bw on (Nat.le_succ _) bw.size
 refine hK.out _ _ (⟨u1,us⟩) (fun _=>?_)
 clear hK K
 try simp only [putS]
 refine wpAnyH_done (by kernel_rfl) ?_ _
 go_wp2_with fail
 have hoe:=HE.out.1
 have hre:=HE.out.2.1
 have hb4:=HE.out.2.2
 have hsz:=on.size
 refine bodyPost_ret (results_cell_row (p:=2) (ty:=25) Tryz.results16 _ _ (W.heap.size+1) 25 _ (0,0) _ rfl u5 Tryz.underlying25 rfl zbg) rfl ?_
 have htop:=HN.out.1
 have hn3:=(HN.out.top htop (Nat.le_refl _)).keep (w':=w4) (fun i _ h=>hb4.block i h) hm4
 have hn5:=hn3.keep (w':=w4.setRow (W.heap.size+1) #[.slice pn (za3 g).nodes.length kn,.slice pe (za3 g).edges.length ke]) (fun i a h=>on.block i (Nat.lt_of_lt_of_le h hm4) (by omega)) hsz
 refine ⟨_,_,xe,w3.heap.size,rfl,by omega,hn5.base (by omega),?_,?_,bz⟩
 ·exact zaw hoe fun i e=>on.block i (hoe.lt i e).2 (by have:=(hoe.lt i e).1;omega)
 ·exact RowE.stays (fun i hi=>⟨⟨hi.1,Nat.lt_of_lt_of_le hi.2.1 hsz,hi.2.2⟩,on.block i hi.2.1 (by have:=hi.1;omega)⟩) _ hre
end Go.Proofs.YtcfmenkigolnoaaGreatDoor

/- GOS -/
namespace Go.Proofs.YtcfmenkigolnoaaGreatDoor
open Go.RowKit
def zd0 (base top ga off:Nat) (L:List (Item zap)) (i:Nat) (w:World):Prop:=
 zbr zbw w base top (some ga) (L.drop i)∧(∀ j x,i≤j→L[j]?=some x→w.rangeAt ga (off+j*3) x.c)∧(∀ j,j < L.length→w.there ga (off+j*3) 3)
section
variable {w w':World} {base top ga off i:Nat} {L:List (Item zap)} {bs:List zap} {A:Value}
theorem AccO.over0 (h:AccO zbw 38 base top bs A w):∃ pA kA ga off L,A=.slice pA bs.length kA∧(bs.length≠0→pA=some ⟨ga,off,none⟩∧base≤ga∧ga < top)∧L.length=bs.length∧zd0 base top ga off L 0 w:=by
 obtain ⟨h1,h2,L,rfl,h4,h5⟩:=h
 rw [List.length_map] at h4
 rcases zik h4 with ⟨e,hn⟩ | ⟨g,cap,e,hg⟩
 ·have hL:L=[]:=List.length_eq_zero_iff.1 hn
  subst hL
  exact ⟨none,0,top,0,[],e,fun q=>absurd rfl q,rfl,⟨by simp,by simp,List.Pairwise.nil⟩,by simp,by simp⟩
 ·subst e
  have hR:=zff h4 (fun c hc=>by
   obtain ⟨x,hx,rfl⟩:=List.mem_map.1 hc
   exact zeb.len (h5.rel x hx)) (List.length_map _) (fun c hc=>by
   obtain ⟨x,hx,rfl⟩:=List.mem_map.1 hc
   exact zeb.one (h5.rel x hx))
  refine ⟨_,cap,g,0,L,by rw [List.length_map],fun _=>⟨rfl,hg,h2 g rfl⟩,(List.length_map _).symm,h5,fun j x _ hx=>?_,fun j hj=>hR.thr j (by rw [List.length_map];exact hj)⟩
  exact (hR.rng j x.c (by rw [List.getElem?_map,hx];rfl)).1
theorem zd0.keep (h:zd0 base top ga off L i w) (hga:L.length≠0→base≤ga∧ga < top) (hs:∀ g,base≤g→g < top→w'.heap[g]?=w.heap[g]?):zd0 base top ga off L i w':=by
 obtain ⟨h1,h2,h3⟩:=h
 have hl:∀ j,j < L.length→L.length≠0:=fun j hj=>by omega
 refine ⟨h1.keep fun g a b _=>hs g a b,fun j x hj hx=>?_,fun j hj=>?_⟩
 ·have q:=hga (hl j (List.getElem?_eq_some_iff.1 hx).1)
  exact zcn (hs ga q.1 q.2) (h2 j x hj hx)
 ·have q:=hga (hl j hj)
  exact zdp (hs ga q.1 q.2) (h3 j hj)
theorem zd0.call (h:zd0 base top ga off L i w) (hi:i < L.length) (ht:top≤w.heap.size) (hgt:ga < w.heap.size):
 ∃ lv,w.cell? ⟨ga,off+i*3+1,none⟩=some lv∧Calls Tryz.prog 13 #[lv] w fun e w'=>e=.returned (.tuple #[])∧zd0 base top ga off L (i+1) w'∧Mod (fun g=>Btw base top g∧g≠ga) w w':=by
 obtain ⟨h1,h2,h3⟩:=h
 have ed:L.drop i=L[i]::L.drop (i+1):=List.drop_eq_getElem_cons hi
 rw [ed] at h1
 have hr:zdb w L[i].lo L[i].hi L[i].c L[i].a:=h1.rel _ (List.mem_cons_self ..)
 obtain ⟨b1,b2,b3,b4⟩:=h1.bnd L[i] (List.mem_cons_self ..)
 obtain ⟨lv,pv,hc,_,hl,_,_⟩:=hr
 have hra:=h2 i L[i] (Nat.le_refl _) (List.getElem?_eq_getElem hi)
 rw [hc] at hra
 refine ⟨lv,hra 1 _ rfl,(zqr lv L[i].a.labels.length L[i].lo _ w hl.2.2.2 hl.1).mono ?_⟩
 rintro e w' ⟨rfl,hg⟩
 have hb:∀ g,lv.ownBlock=some g→Btw L[i].lo L[i].hi g:=fun g e=>⟨(hl.2.2.2.lt g e).1,hl.2.2.1 g e⟩
 have hne:lv.ownBlock≠some ga:=fun e=>b4 ga rfl (hb ga e)
 have hk:w'.heap[ga]?=w.heap[ga]?:=hg.block ga hgt (fun e=>hne e.symm)
 have hoff:=List.pairwise_cons.1 h1.off
 refine ⟨rfl,⟨⟨fun x hx=>?_,fun x hx=>h1.bnd x (List.mem_cons_of_mem _ hx),hoff.2⟩,fun j x hj hx=>zcn hk (h2 j x (by omega) hx),fun j hj=>zdp hk (h3 j hj)⟩,Mod.grown hg fun g e=>?_⟩
 ·refine zbw.keep (h1.rel x (List.mem_cons_of_mem _ hx)) fun g p q=>?_
  obtain ⟨c1,c2,c3,c4⟩:=h1.bnd x (List.mem_cons_of_mem _ hx)
  refine hg.block g (by omega) (fun e=>?_)
  obtain ⟨q1,q2⟩:=hb g e.symm
  rcases hoff.1 x hx with o | o <;> omega
 ·have q:=hb g e
  exact ⟨⟨Nat.le_trans b1 q.1,Nat.lt_of_lt_of_le q.2 b3⟩,fun e2=>hne (by rw [e,e2])⟩
theorem zd0.set (h:zd0 base top ga off L (i+1) w) (vs:List Value) (hv:vs.length≤3):zd0 base top ga off L (i+1) (w.setCells ga (off+i*3) vs):=by
 obtain ⟨h1,h2,h3⟩:=h
 have ho:=zbo ga (off+i*3) vs w
 refine ⟨⟨fun x hx=>?_,h1.bnd,h1.off⟩,fun j x hj hx=>World.rangeAt_setCells_apart (h2 j x hj hx) _ _ _ (.inr (.inr (by omega))),fun j hj=>World.there_setCells (h3 j hj) _ _ _⟩
 refine zbw.keep (h1.rel x hx) fun g p q=>?_
 obtain ⟨c1,c2,c3,c4⟩:=h1.bnd x hx
 by_cases hg:g < w.heap.size
 ·exact ho.block g hg (fun e=>c4 ga rfl ⟨by rw [← e];exact p,by rw [← e];exact q⟩)
 ·rw [Array.getElem?_eq_none (by have:=(zde ga vs (off+i*3) w).2.2.2.1;omega),Array.getElem?_eq_none (by omega)]
end
theorem zup {w:World} {base k n g cap:Nat} {e:TypeId} {xs:List Value} (h:w.ownsRow base e k (.slice (some ⟨g,0,none⟩) n cap) n xs):∀ j,j < n→w.there g (0+j*k) k:=by
 rcases h.2 with ⟨q,_⟩ | ⟨g',cap',cur,q,hb,hg,hc,hm,hsz,htk⟩
 ·cases q
 ·cases q
  intro i hi j hj
  have hcap:n*k≤cap*k:=Nat.mul_le_mul_right _ hc
  have hlt:0+i*k+j < cur.size:=by
   have:=Nat.mul_le_mul_right k (show i+1≤n from hi)
   rw [Nat.succ_mul] at this
   omega
  exact ⟨by rw [zac hg _ (Array.getElem?_eq_getElem hlt)];rfl,zbj hg _⟩
end Go.Proofs.YtcfmenkigolnoaaGreatDoor
