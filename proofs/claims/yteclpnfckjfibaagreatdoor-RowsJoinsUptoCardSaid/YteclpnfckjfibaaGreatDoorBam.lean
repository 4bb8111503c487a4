/- Texts of one kind, one behind the other: each says ahead of itself what it shows. -/
import Derived.Laws.AppendOwnNone
import Derived.Test.YteclpnfckjfibaaGreatDoorBal
import Derived.Test.YteclpnfckjfibaaGreatDoorBae
import Derived.Test.YteclpnfckjfibaaGreatDoorBac
import Derived.WalkKit
import Derived.OwnWalk
import Derived.Maps.AppendAt
import Derived.Lib.AppendStr
import Derived.Deep.LoopGhost
/- RX -/
namespace Go.Proofs.YteclpnfckjfibaaGreatDoor
open Go.RowKit
theorem zcv {P:Program} {w:World} {ops:Array Oper} {rest:List Oper} {o:Oper} {a:Act} {Q:Exit→Act→World→Prop} (hgd:o.guard=none) (s x:Operand) (t:TypeId)
 (ho:o.op=.call { callee:=.builtin .append,args:=#[s,x],argTypes:=#[t,t] })
 (base:Nat) (e:TypeId) (i:TypeInfo) (z:Value) (size bytes:Nat) (ht:P.underlying t=some (.slice e)) (hi:P.info? e=some i) (hz:i.zero=some z)
 (hsize:i.size=size) (hby:i.bytes=bytes) (hzs:z.cells.size=size) (hsz:0 < size)
 (v:Value) (n:Nat) (xs:List Value) (hs:a.eval s=v) (hown:w.ownsRow base e size v n xs)
 (ao:Option Addr) (m c:Nat) (news:List Value) (hx:a.eval x=.slice ao m c) (hl:news.length=m*size) (hnone:ao=none→m=0∧c=0) (hnews:∀ ad,ao=some ad→∀ (j:Nat) (u:Value),news[j]?=some u→w.cell? (ad.add j)=some u) (h1:∀ u∈news,u.oneCell'=true)
 (h63:n+m≤maxLen) (hbytes:(n+m)*bytes≤140737488355328) (hbase:base≤w.heap.size)
 (h:∀ v' w',w'.ownsRow base e size v' (n+m) (xs++news)→w.grownBy w' v.ownBlock→(v'.ownBlock=v.ownBlock∨v'.ownBlock=some w.heap.size)→wpList P ops Q rest (a.put o.dst v') w'):wpList P ops Q (o::rest) a w:=by
 cases ao with
 | some ad=>exact wpList_append_own_at w hgd s x t ho base e i z size bytes ht hi hz hsize hby hzs hsz v n xs hs hown ad m c news hx hl (hnews ad rfl) h1 h63 hbytes hbase fun v' w' h2 h3 _ h5=>h v' w' h2 h3 h5
 | none=>
   obtain ⟨rfl,rfl⟩:=hnone rfl
   have hn:news=[]:=List.eq_nil_of_length_eq_zero (by simpa using hl)
   subst hn
   refine wpList_append_own_none hgd s x t ho base e i size ht hi v n xs hs hown hx (h v w ?_ (World.grownBy.refl _ _) (.inl rfl))
   simpa using hown
theorem zvc {w:World} {base size n m:Nat} {e:TypeId} {v:Value} {xs:List Value} (h:w.ownsRow base e size v n xs) (q:n=m):w.ownsRow base e size v m xs:=q ▸ h
theorem zaf.news {α:Type} {E:Elem α} {w:World} {P:Nat→Prop} {p:Option Addr} {n cap:Nat} {l:List α} (h:zaf E w P (.slice p n cap) l):∃ xs,xs.length=l.length*E.k∧RowE E w P xs l∧∀ ad,p=some ad→∀ (j:Nat) (u:Value),xs[j]?=some u→w.cell? (ad.add j)=some u:=by
 obtain ⟨p',cap',e,h⟩:=h
 cases e
 by_cases q:l=[]
 ·subst q
  exact ⟨[],by simp,RowE.nil,fun ad _ j u hu=>by simp at hu⟩
 ·obtain ⟨g,off,xs,rfl,_,hr,he⟩:=h q
  refine ⟨xs,he.len l,he,fun ad e j u hu=>?_⟩
  cases e
  rw [Addr.add_mid]
  exact hr j u hu
theorem AccB.more {β:Type} {E:Elem β} {D:TypeId} {P:Nat→Prop} {w wr w5:World} {A A2:Value} {xs ys:List Value} {bs cs:List β} (hP:∀ x,P x→x < w.heap.size) (hown:wr.ownsRow w.heap.size D E.k A bs.length xs) (hrow:RowE E wr P xs bs) (hbel:Below w.heap.size w wr)
 (hc:RowE E wr P ys cs) (hown':w5.ownsRow w.heap.size D E.k A2 (bs.length+cs.length) (xs++ys)) (hg:wr.grownBy w5 A.ownBlock):AccB E D P w (bs++cs) A2 w5:=by
 have s0:=hbel.size
 have off:∀ g,P g→w5.heap[g]?=wr.heap[g]?:=fun g h=>by
  have hlt:=hP g h
  exact hg.block g (by omega) (fun e=>by have:=(hown.lt g e.symm).1;omega)
 exact ⟨⟨xs++ys,by simpa using hown',RowE.append bs cs (hrow.stays (fun g h=>⟨h,off g h⟩)) (hc.stays (fun g h=>⟨h,off g h⟩))⟩,hbel.grown hg (by omega) (fun g e=>(hown.lt g e).1)⟩
set_option maxHeartbeats 3200000 in
set_option maxRecDepth 20000 in
theorem zxv (B:Value) (q:ByteArray→Bool) (l:List ByteArray) (v:Value) (w:World) (h:zaf za0 w (Old w) v l) (hn:l.length≤2097152)
 (each:∀ x∈l,∀ W c,Below w.heap.size w W→za0.rel W (Old W) c x→Calls Tryz.prog 119 #[.string x,B] W fun e w'=>e=.returned (.bool (q x))∧Below W.heap.size W w'):
 Calls Tryz.prog 118 #[v,.func (.func 119) #[] #[B]] w (zdp za0 9 (Old w) w (l.filter q)):=by
 obtain ⟨n,hln⟩:∃ n,n=l.length:=⟨_,rfl⟩
 obtain ⟨p,cap,rfl⟩:=h.slice
 rw [← hln] at hn
 obtain ⟨i0,hi,hz0,hz1,hz2⟩:=info_parts zej
 have HL:=Lib.hid hln
 have HH:=Lib.hid h
 have HE:=Lib.hid each
 rw [← hln]
 clear h hln each
 go_enter Tryz.func118,Tryz.ntmps118
 go_wp2_with fail
 go_loopg [5,10] n (fun gg s5 s10 wr=>∃ j:Nat,j+gg=n∧s10=.int .i64 j∧Hid (AccB za0 9 (Old w) w ((l.take j).filter q) s5 wr))
 case atStart=>exact ⟨0,by omega,rfl,Lib.hid (AccB.startOwn za0 9 (Old w) (World.ownsRow_nil _ _ _ _) (Below.refl _ _))⟩
 case round=>
  obtain ⟨j,hjg,rfl,HA⟩:=hrel
  by_cases hlt:(j:Int) < n
  ·have hj1:j < l.length:=by have:=HL.out;omega
   have hbel:=HA.out.bel
   obtain ⟨g,off,cap',c,e0,hg,hrl,hra⟩:=(HH.out.stays (P':=Old w) (fun x hx=>⟨hx,hbel.block x hx⟩)).at_ j hj1
   injection e0 with e1 e2 e3
   subst e1
   replace hra:wr.rangeAt g (off+j*1) c:=hra
   have hjl:((l.take j).filter q).length≤j:=by have:=List.length_filter_le q (l.take j);rw [List.length_take] at this;omega
   have hold:=za0.stays (P':=Old wr) (fun x hx=>⟨Nat.lt_of_lt_of_le hx hbel.size,rfl⟩) hrl
   obtain ⟨rfl,hwf⟩:=id hrl
   have c0:wr.cell? ⟨g,off+j,none⟩=some (.string l[j]):=by
    have:=hra 0 _ rfl
    simpa using this
   have hcall:=HE.out l[j] (List.getElem_mem hj1) wr _ hbel hold
   obtain ⟨r,hr⟩:∃ r,r=q l[j]:=⟨_,rfl⟩
   rw [← hr] at hcall
   have HC:=Lib.hid hcall
   have HR:=Lib.hid hr
   have HD:=Lib.hid hrl
   clear hcall hr hra e2 e3 hbel hold hrl
   cases r with
   | false=>
     go_wp2_with (first
      |(go_at_call 119;(with_reducible refine HC.out.mono ?_);rintro e w3 ⟨rfl,hb3⟩))
     have HA2:Hid (AccB za0 9 (Old w) w ((l.take (j+1)).filter q) _ w3):=Lib.hid (by
      rw [List.take_succ_eq_append_getElem hj1,List.filter_append,show [l[j]].filter q=[] by simp [← HR.out],List.append_nil]
      obtain ⟨⟨xs,h1,h2⟩,h3⟩:=HA.out
      exact ⟨⟨xs,za6 h1 hb3,h2.stays (fun x hx=>⟨hx,hb3.block x (Nat.lt_of_lt_of_le hx h3.size)⟩)⟩,zab h3 hb3 h3.size⟩)
     clear hb3 HA
     go_roundg (gk - 1)
     case measure=>omega
     case rel=>exact ⟨j+1,by omega,by go_num,HA2⟩
   | true=>
     go_wp2_with (first
      |(go_at_call 119;(with_reducible refine HC.out.mono ?_);rintro e w3 ⟨rfl,hb3⟩
        obtain ⟨⟨xs,hown,hrow⟩,hbel⟩:=HA.out
        replace hown:wr.ownsRow w.heap.size 9 1 _ _ xs:=hown
        have hown3:=za6 hown hb3
        have hs3:=hb3.size
        have hsb:=hbel.size
        have HY:=Lib.hid (And.intro hown (And.intro hrow (And.intro hbel hb3)))
        clear hown hrow hbel hb3 HA)
      |(at_builtin;refine wpList_append_own_at _ rfl _ _ 132 rfl w.heap.size 9 i0 (.string ⟨#[]⟩) 1 16 Tryz.underlying132 hi hz0 hz1 hz2 rfl (by decide) _ _ _ rfl (hown3.alloc _) ⟨w3.heap.size,0,none⟩ 1 1 [.string l[j]] rfl rfl (zb8 _ _ _) (by simp [Value.oneCell']) ?_ ?_ ?_ ?_))
     all_goals (try (first |(unfold maxLen;omega) | omega |(simp;omega)))
     intro v' w5 hown' hgrow _ hloc
     have acc:AccB za0 9 (Old w) w ((l.take (j+1)).filter q) v' w5:=by
      rw [List.take_succ_eq_append_getElem hj1,List.filter_append,show [l[j]].filter q=[l[j]] by simp [← HR.out]]
      exact AccB.next (fun x hx=>hx) HY.out.1 HY.out.2.1 HY.out.2.2.1 (Below.refl _ _) HY.out.2.2.2 (za0.stays (P':=Old w) (fun x hx=>⟨hx,HY.out.2.2.2.block x (Nat.lt_of_lt_of_le hx HY.out.2.2.1.size)⟩) HD.out) hown' hgrow (by simpa using hloc)
     have ACC:=Lib.hid acc
     clear acc hown' hgrow hloc hown3 HY
     go_wp2_with fail
     go_roundg (gk - 1)
     case measure=>omega
     case rel=>exact ⟨j+1,by omega,by go_num,ACC⟩
  ·have e:l.take j=l:=by rw [List.take_of_length_le];have:=HL.out;omega
   have hA:=HA.out
   rw [e] at hA
   obtain ⟨⟨xs,hown,hrow⟩,hbel⟩:=hA
   have HX:=Lib.hid (And.intro hown (And.intro hrow hbel))
   clear hown hrow hbel HA
   go_wp2_with fail
   go_ret
   exact ⟨_,xs,rfl,HX.out.1,HX.out.2.1,HX.out.2.2⟩
set_option maxHeartbeats 3200000 in
set_option maxRecDepth 20000 in
theorem zxw (B:Value) (q:(List Val)→Bool) (l:List (List Val)) (v:Value) (w:World) (h:zaf rowE w (Old w) v l) (hn:l.length≤2097152)
 (each:∀ x∈l,∀ W u,Below w.heap.size w W→rowE.rel W (Old W) [u] x→Calls Tryz.prog 80 #[u,B] W fun e w'=>e=.returned (.bool (q x))∧Below W.heap.size W w'):
 Calls Tryz.prog 70 #[v,.func (.func 80) #[] #[B]] w (zdp rowE 43 (Old w) w (l.filter q)):=by
 obtain ⟨n,hln⟩:∃ n,n=l.length:=⟨_,rfl⟩
 obtain ⟨p,cap,rfl⟩:=h.slice
 rw [← hln] at hn
 obtain ⟨i0,hi,hz0,hz1,hz2⟩:=info_parts zfb
 have HL:=Lib.hid hln
 have HH:=Lib.hid h
 have HE:=Lib.hid each
 rw [← hln]
 clear h hln each
 go_enter Tryz.func70,Tryz.ntmps70
 go_wp2_with fail
 go_loopg [5,10] n (fun gg s5 s10 wr=>∃ j:Nat,j+gg=n∧s10=.int .i64 j∧Hid (AccB rowE 43 (Old w) w ((l.take j).filter q) s5 wr))
 case atStart=>exact ⟨0,by omega,rfl,Lib.hid (AccB.startOwn rowE 43 (Old w) (World.ownsRow_nil _ _ _ _) (Below.refl _ _))⟩
 case round=>
  obtain ⟨j,hjg,rfl,HA⟩:=hrel
  by_cases hlt:(j:Int) < n
  ·have hj1:j < l.length:=by have:=HL.out;omega
   have hbel:=HA.out.bel
   obtain ⟨g,off,cap',c,e0,hg,hrl,hra⟩:=(HH.out.stays (P':=Old w) (fun x hx=>⟨hx,hbel.block x hx⟩)).at_ j hj1
   injection e0 with e1 e2 e3
   subst e1
   replace hra:wr.rangeAt g (off+j*1) c:=hra
   have hjl:((l.take j).filter q).length≤j:=by have:=List.length_filter_le q (l.take j);rw [List.length_take] at this;omega
   have hold:=rowE.stays (P':=Old wr) (fun x hx=>⟨Nat.lt_of_lt_of_le hx hbel.size,rfl⟩) hrl
   obtain ⟨u,rfl⟩:∃ u,c=[u]:=by obtain ⟨v,rfl,_⟩:=id hrl;exact ⟨v,rfl⟩
   have c0:wr.cell? ⟨g,off+j,none⟩=some u:=by
    have:=hra 0 _ rfl
    simpa using this
   have hcall:=HE.out l[j] (List.getElem_mem hj1) wr u hbel hold
   obtain ⟨pu,nu,ku,rfl⟩:∃ p n k,u=.slice p n k:=by
    obtain ⟨v,e,hs,_⟩:=hrl
    cases e
    obtain ⟨p,k,rfl⟩:=hs.slice
    exact ⟨_,_,_,rfl⟩
   obtain ⟨r,hr⟩:∃ r,r=q l[j]:=⟨_,rfl⟩
   rw [← hr] at hcall
   have HC:=Lib.hid hcall
   have HR:=Lib.hid hr
   have HD:=Lib.hid hrl
   clear hcall hr hra e2 e3 hbel hold hrl
   cases r with
   | false=>
     go_wp2_with (first
      |(go_at_call 80;(with_reducible refine HC.out.mono ?_);rintro e w3 ⟨rfl,hb3⟩))
     have HA2:Hid (AccB rowE 43 (Old w) w ((l.take (j+1)).filter q) _ w3):=Lib.hid (by
      rw [List.take_succ_eq_append_getElem hj1,List.filter_append,show [l[j]].filter q=[] by simp [← HR.out],List.append_nil]
      obtain ⟨⟨xs,h1,h2⟩,h3⟩:=HA.out
      exact ⟨⟨xs,za6 h1 hb3,h2.stays (fun x hx=>⟨hx,hb3.block x (Nat.lt_of_lt_of_le hx h3.size)⟩)⟩,zab h3 hb3 h3.size⟩)
     clear hb3 HA
     go_roundg (gk - 1)
     case measure=>omega
     case rel=>exact ⟨j+1,by omega,by go_num,HA2⟩
   | true=>
     go_wp2_with (first
      |(go_at_call 80;(with_reducible refine HC.out.mono ?_);rintro e w3 ⟨rfl,hb3⟩
        obtain ⟨⟨xs,hown,hrow⟩,hbel⟩:=HA.out
        replace hown:wr.ownsRow w.heap.size 43 1 _ _ xs:=hown
        have hown3:=za6 hown hb3
        have hs3:=hb3.size
        have hsb:=hbel.size
        have HY:=Lib.hid (And.intro hown (And.intro hrow (And.intro hbel hb3)))
        clear hown hrow hbel hb3 HA)
      |(at_builtin;refine wpList_append_own_at _ rfl _ _ 79 rfl w.heap.size 43 i0 (.slice none 0 0) 1 24 Tryz.underlying79 hi hz0 hz1 hz2 rfl (by decide) _ _ _ rfl (hown3.alloc _) ⟨w3.heap.size,0,none⟩ 1 1 [.slice pu nu ku] rfl rfl (zb8 _ _ _) (by simp [Value.oneCell']) ?_ ?_ ?_ ?_))
     all_goals (try (first |(unfold maxLen;omega) | omega |(simp;omega)))
     intro v' w5 hown' hgrow _ hloc
     have acc:AccB rowE 43 (Old w) w ((l.take (j+1)).filter q) v' w5:=by
      rw [List.take_succ_eq_append_getElem hj1,List.filter_append,show [l[j]].filter q=[l[j]] by simp [← HR.out]]
      exact AccB.next (fun x hx=>hx) HY.out.1 HY.out.2.1 HY.out.2.2.1 (Below.refl _ _) HY.out.2.2.2 (rowE.stays (P':=Old w) (fun x hx=>⟨hx,HY.out.2.2.2.block x (Nat.lt_of_lt_of_le hx HY.out.2.2.1.size)⟩) HD.out) hown' hgrow (by simpa using hloc)
     have ACC:=Lib.hid acc
     clear acc hown' hgrow hloc hown3 HY
     go_wp2_with fail
     go_roundg (gk - 1)
     case measure=>omega
     case rel=>exact ⟨j+1,by omega,by go_num,ACC⟩
  ·have e:l.take j=l:=by rw [List.take_of_length_le];have:=HL.out;omega
   have hA:=HA.out
   rw [e] at hA
   obtain ⟨⟨xs,hown,hrow⟩,hbel⟩:=hA
   have HX:=Lib.hid (And.intro hown (And.intro hrow hbel))
   clear hown hrow hbel HA
   go_wp2_with fail
   go_ret
   exact ⟨_,xs,rfl,HX.out.1,HX.out.2.1,HX.out.2.2⟩
set_option maxHeartbeats 3200000 in
set_option maxRecDepth 20000 in
theorem zxx (B B2:Value) (q:Int→Bool) (l:List Int) (v:Value) (w:World) (h:zaf intE w (Old w) v l) (hn:l.length≤2097152)
 (each:∀ x∈l,∀ W c,Below w.heap.size w W→intE.rel W (Old W) c x→Calls Tryz.prog 176 #[.int .i64 x,B,B2] W fun e w'=>e=.returned (.bool (q x))∧Below W.heap.size W w'):
 Calls Tryz.prog 175 #[v,.func (.func 176) #[] #[B,B2]] w (zdp intE 3 (Old w) w (l.filter q)):=by
 obtain ⟨n,hln⟩:∃ n,n=l.length:=⟨_,rfl⟩
 obtain ⟨p,cap,rfl⟩:=h.slice
 rw [← hln] at hn
 obtain ⟨i0,hi,hz0,hz1,hz2⟩:=info_parts zd3
 have HL:=Lib.hid hln
 have HH:=Lib.hid h
 have HE:=Lib.hid each
 rw [← hln]
 clear h hln each
 go_enter Tryz.func175,Tryz.ntmps175
 go_wp2_with fail
 go_loopg [5,10] n (fun gg s5 s10 wr=>∃ j:Nat,j+gg=n∧s10=.int .i64 j∧Hid (AccB intE 3 (Old w) w ((l.take j).filter q) s5 wr))
 case atStart=>exact ⟨0,by omega,rfl,Lib.hid (AccB.startOwn intE 3 (Old w) (World.ownsRow_nil _ _ _ _) (Below.refl _ _))⟩
 case round=>
  obtain ⟨j,hjg,rfl,HA⟩:=hrel
  by_cases hlt:(j:Int) < n
  ·have hj1:j < l.length:=by have:=HL.out;omega
   have hbel:=HA.out.bel
   obtain ⟨g,off,cap',c,e0,hg,hrl,hra⟩:=(HH.out.stays (P':=Old w) (fun x hx=>⟨hx,hbel.block x hx⟩)).at_ j hj1
   injection e0 with e1 e2 e3
   subst e1
   replace hra:wr.rangeAt g (off+j*1) c:=hra
   have hjl:((l.take j).filter q).length≤j:=by have:=List.length_filter_le q (l.take j);rw [List.length_take] at this;omega
   have hold:=intE.stays (P':=Old wr) (fun x hx=>⟨Nat.lt_of_lt_of_le hx hbel.size,rfl⟩) hrl
   obtain ⟨rfl,hwf⟩:=id hrl
   have c0:wr.cell? ⟨g,off+j,none⟩=some (.int .i64 l[j]):=by
    have:=hra 0 _ rfl
    simpa using this
   have hcall:=HE.out l[j] (List.getElem_mem hj1) wr _ hbel hold
   obtain ⟨r,hr⟩:∃ r,r=q l[j]:=⟨_,rfl⟩
   rw [← hr] at hcall
   have HC:=Lib.hid hcall
   have HR:=Lib.hid hr
   have HD:=Lib.hid hrl
   clear hcall hr hra e2 e3 hbel hold hrl
   cases r with
   | false=>
     go_wp2_with (first
      |(go_at_call 176;(with_reducible refine HC.out.mono ?_);rintro e w3 ⟨rfl,hb3⟩))
     have HA2:Hid (AccB intE 3 (Old w) w ((l.take (j+1)).filter q) _ w3):=Lib.hid (by
      rw [List.take_succ_eq_append_getElem hj1,List.filter_append,show [l[j]].filter q=[] by simp [← HR.out],List.append_nil]
      obtain ⟨⟨xs,h1,h2⟩,h3⟩:=HA.out
      exact ⟨⟨xs,za6 h1 hb3,h2.stays (fun x hx=>⟨hx,hb3.block x (Nat.lt_of_lt_of_le hx h3.size)⟩)⟩,zab h3 hb3 h3.size⟩)
     clear hb3 HA
     go_roundg (gk - 1)
     case measure=>omega
     case rel=>exact ⟨j+1,by omega,by go_num,HA2⟩
   | true=>
     go_wp2_with (first
      |(go_at_call 176;(with_reducible refine HC.out.mono ?_);rintro e w3 ⟨rfl,hb3⟩
        obtain ⟨⟨xs,hown,hrow⟩,hbel⟩:=HA.out
        replace hown:wr.ownsRow w.heap.size 3 1 _ _ xs:=hown
        have hown3:=za6 hown hb3
        have hs3:=hb3.size
        have hsb:=hbel.size
        have HY:=Lib.hid (And.intro hown (And.intro hrow (And.intro hbel hb3)))
        clear hown hrow hbel hb3 HA)
      |(at_builtin;refine wpList_append_own_at _ rfl _ _ 188 rfl w.heap.size 3 i0 (.int .i64 0) 1 8 Tryz.underlying188 hi hz0 hz1 hz2 rfl (by decide) _ _ _ rfl (hown3.alloc _) ⟨w3.heap.size,0,none⟩ 1 1 [.int .i64 l[j]] rfl rfl (zb8 _ _ _) (by simp [Value.oneCell']) ?_ ?_ ?_ ?_))
     all_goals (try (first |(unfold maxLen;omega) | omega |(simp;omega)))
     intro v' w5 hown' hgrow _ hloc
     have acc:AccB intE 3 (Old w) w ((l.take (j+1)).filter q) v' w5:=by
      rw [List.take_succ_eq_append_getElem hj1,List.filter_append,show [l[j]].filter q=[l[j]] by simp [← HR.out]]
      exact AccB.next (fun x hx=>hx) HY.out.1 HY.out.2.1 HY.out.2.2.1 (Below.refl _ _) HY.out.2.2.2 (intE.stays (P':=Old w) (fun x hx=>⟨hx,HY.out.2.2.2.block x (Nat.lt_of_lt_of_le hx HY.out.2.2.1.size)⟩) HD.out) hown' hgrow (by simpa using hloc)
     have ACC:=Lib.hid acc
     clear acc hown' hgrow hloc hown3 HY
     go_wp2_with fail
     go_roundg (gk - 1)
     case measure=>omega
     case rel=>exact ⟨j+1,by omega,by go_num,ACC⟩
  ·have e:l.take j=l:=by rw [List.take_of_length_le];have:=HL.out;omega
   have hA:=HA.out
   rw [e] at hA
   obtain ⟨⟨xs,hown,hrow⟩,hbel⟩:=hA
   have HX:=Lib.hid (And.intro hown (And.intro hrow hbel))
   clear hown hrow hbel HA
   go_wp2_with fail
   go_ret
   exact ⟨_,xs,rfl,HX.out.1,HX.out.2.1,HX.out.2.2⟩
set_option maxHeartbeats 3200000 in
set_option maxRecDepth 20000 in
theorem zs4 (P:Nat→Prop) (l1 l2:List ByteArray) (v1 v2:Value) (g:Nat) (w:World) (hP:∀ x,P x→x < w.heap.size) (hg:w.heap[g]?=some (.cells #[v1,v2] 132)) (h1:zaf za0 w P v1 l1) (h2:zaf za0 w P v2 l2) (k1:capK v1) (k2:capK v2) (hn1:l1.length≤2097152) (hn2:l2.length≤2097152):
 Calls Tryz.prog 121 #[.slice (some ⟨g,0,none⟩) 2 2] w (zdp za0 9 P w (l1++l2)):=by
 obtain ⟨i0,hi,hz0,hz1,hz2⟩:=info_parts zej
 obtain ⟨p1,c1,rfl⟩:=h1.slice
 obtain ⟨p2,c2,rfl⟩:=h2.slice
 obtain ⟨n1,hl1⟩:∃ n,n=l1.length:=⟨_,rfl⟩
 obtain ⟨n2,hl2⟩:∃ n,n=l2.length:=⟨_,rfl⟩
 rw [← hl1,← hl2] at hg
 rw [← hl1] at hn1 h1 k1
 rw [← hl2] at hn2 h2 k2
 have hgr:=zut (n1+n2) (by omega) w
 rw [show ((n1+n2:Nat):Int)=(n1:Int)+n2 by omega] at hgr
 have HG:=Lib.hid hgr
 clear hgr
 have H1:=Lib.hid h1
 have H2:=Lib.hid h2
 have HU:=Lib.hid hg
 have HN1:Hid (p1=none→n1=0∧c1=0):=Lib.hid fun e=>by
  have hc:=k1.2 n1 c1 (by rw [e])
  have:=k1.1 p1 n1 c1 rfl
  exact ⟨by omega,hc⟩
 have HN2:Hid (p2=none→n2=0∧c2=0):=Lib.hid fun e=>by
  have hc:=k2.2 n2 c2 (by rw [e])
  have:=k2.1 p2 n2 c2 rfl
  exact ⟨by omega,hc⟩
 have HL1:=Lib.hid hl1
 have HL2:=Lib.hid hl2
 have d0:=zac hg 0 rfl
 have d1:=zac hg 1 rfl
 clear h1 h2 hg k1 k2 hl1 hl2
 go_enter Tryz.func121,Tryz.ntmps121
 go_wp2_with fail
 go_loopg [3,11] 2 (fun gg s3 s11 wr=>∃ j:Nat,j+gg=2∧s11=.int .i64 j∧s3=.int .i64 (if j=0 then 0 else if j=1 then (n1:Int) else (n1:Int)+n2)∧wr=w)
 case atStart=>exact ⟨0,by omega,rfl,rfl,rfl⟩
 case round=>
  obtain ⟨j,hjg,rfl,rfl,rfl⟩:=hrel
  rcases (show j=0∨j=1∨j=2 by omega) with rfl | rfl | rfl
  ·have t1:¬ ((n1:Int) < 0):=by omega
   go_wp2_with fail
   go_roundg (gk - 1)
   case measure=>omega
   case rel=>exact ⟨1,by omega,by go_num,by simp,rfl⟩
  ·have t1:¬ ((n1:Int)+n2 < 0):=by omega
   go_wp2_with fail
   go_roundg (gk - 1)
   case measure=>omega
   case rel=>exact ⟨2,by omega,by go_num,by simp,rfl⟩
  ·go_wp2_with (first
    |(go_at_call 172;(with_reducible refine HG.out.mono ?_);rintro e w1 ⟨v3,rfl,ho1,hb1⟩))
   have ACC0:=Lib.hid (AccB.startOwn za0 9 P ho1 hb1)
   clear ho1 hb1 d0 d1
   go_loopg [6,27] 2 (fun gg s6 s27 wx=>∃ j:Nat,j+gg=2∧s27=.int .i64 j∧Hid (AccB za0 9 P wr (if j=0 then [] else if j=1 then l1 else l1++l2) s6 wx))
   case atStart=>exact ⟨0,by omega,rfl,by simpa using ACC0⟩
   case round=>
    clear ACC0
    obtain ⟨j,hjg,rfl,HA⟩:=hrel
    rename World=>wx
    obtain ⟨⟨xs,hown,hrow⟩,hbel⟩:=HA.out
    have hsz:=hbel.size
    rcases (show j=0∨j=1∨j=2 by omega) with rfl | rfl | rfl
    ·replace hown:wx.ownsRow wr.heap.size 9 1 _ 0 xs:=hown
     obtain ⟨ys,hy1,hy2,hy3⟩:=(H1.out.stays (P':=P) (fun x hx=>⟨hx,hbel.block x (hP x hx)⟩)).news
     replace hy1:ys.length=n1*1:=by rw [hy1,HL1.out];rfl
     have hyo:=hy2.one
     have d0:=zac ((hbel.block _ (zaa HU.out)).trans HU.out) 0 rfl
     have HY:=Lib.hid (And.intro hown (And.intro hrow (And.intro hbel hy2)))
     clear hrow hbel hy2 HA
     go_wp2_with (first
      |(at_builtin;refine zcv rfl _ _ 132 rfl wr.heap.size 9 i0 (.string ⟨#[]⟩) 1 16 Tryz.underlying132 hi hz0 hz1 hz2 rfl (by decide) _ 0 xs rfl hown p1 n1 c1 ys rfl hy1 HN1.out hy3 hyo (by unfold maxLen;omega) (by omega) hsz ?_))
     intro v' w5 hown' hgrow hloc
     have acc:AccB za0 9 P wr l1 v' w5:=by
      have:=AccB.more (bs:=[]) hP HY.out.1 HY.out.2.1 HY.out.2.2.1 HY.out.2.2.2 (by rw [← HL1.out,List.length_nil,Nat.zero_add];exact hown') hgrow
      exact this
     have ACC:=Lib.hid acc
     clear acc hown' hgrow hloc hown HY hy3 d0 hyo
     go_wp2_with fail
     go_roundg (gk - 1)
     case measure=>omega
     case rel=>exact ⟨1,by omega,by go_num,by simpa using ACC⟩
    ·replace hown:=zvc (m:=n1) hown HL1.out.symm
     obtain ⟨ys,hy1,hy2,hy3⟩:=(H2.out.stays (P':=P) (fun x hx=>⟨hx,hbel.block x (hP x hx)⟩)).news
     replace hy1:ys.length=n2*1:=by rw [hy1,HL2.out];rfl
     have hyo:=hy2.one
     have d0:=zac ((hbel.block _ (zaa HU.out)).trans HU.out) 1 rfl
     have HY:=Lib.hid (And.intro hown (And.intro hrow (And.intro hbel hy2)))
     clear hrow hbel hy2 HA
     go_wp2_with (first
      |(at_builtin;refine zcv rfl _ _ 132 rfl wr.heap.size 9 i0 (.string ⟨#[]⟩) 1 16 Tryz.underlying132 hi hz0 hz1 hz2 rfl (by decide) _ n1 xs rfl hown p2 n2 c2 ys rfl hy1 HN2.out hy3 hyo (by unfold maxLen;omega) (by omega) hsz ?_))
     intro v' w5 hown' hgrow hloc
     have acc:AccB za0 9 P wr (l1++l2) v' w5:=by
      have h0:=HY.out.1
      rw [HL1.out] at h0
      exact AccB.more hP h0 HY.out.2.1 HY.out.2.2.1 HY.out.2.2.2 (by rw [← HL1.out,← HL2.out];exact hown') hgrow
     have ACC:=Lib.hid acc
     clear acc hown' hgrow hloc hown HY hy3 d0 hyo
     go_wp2_with fail
     go_roundg (gk - 1)
     case measure=>omega
     case rel=>exact ⟨2,by omega,by go_num,by simpa using ACC⟩
    ·have hown2:wx.ownsRow wr.heap.size 9 1 _ (l1++l2).length xs:=hown
     have hrow2:RowE za0 wx P xs (l1++l2):=hrow
     have HX:=Lib.hid (And.intro hown2 (And.intro hrow2 hbel))
     clear hown hrow hbel HA hown2 hrow2
     go_wp2_with fail
     go_ret
     exact ⟨_,xs,rfl,HX.out.1,HX.out.2.1,HX.out.2.2⟩
theorem zvd (l1 l2:List ByteArray) (v1 v2:Value) (g:Nat) (w:World) (hg:w.heap[g]?=some (.cells #[v1,v2] 132)) (h1:zaf za0 w (Old w) v1 l1) (h2:zaf za0 w (Old w) v2 l2) (k1:capK v1) (k2:capK v2) (hn1:l1.length≤2097152) (hn2:l2.length≤2097152):
 Calls Tryz.prog 121 #[.slice (some ⟨g,0,none⟩) 2 2] w (zdp za0 9 (Old w) w (l1++l2)):=zs4 (Old w) l1 l2 v1 v2 g w (fun _ h=>h) hg h1 h2 k1 k2 hn1 hn2
set_option maxHeartbeats 3200000 in
set_option maxRecDepth 20000 in
theorem zs5 (P:Nat→Prop) (l1 l2:List Int) (v1 v2:Value) (g:Nat) (w:World) (hP:∀ x,P x→x < w.heap.size) (hg:w.heap[g]?=some (.cells #[v1,v2] 188)) (h1:zaf intE w P v1 l1) (h2:zaf intE w P v2 l2) (k1:capK v1) (k2:capK v2) (hn1:l1.length≤2097152) (hn2:l2.length≤2097152):
 Calls Tryz.prog 177 #[.slice (some ⟨g,0,none⟩) 2 2] w (zdp intE 3 P w (l1++l2)):=by
 obtain ⟨i0,hi,hz0,hz1,hz2⟩:=info_parts zd3
 obtain ⟨p1,c1,rfl⟩:=h1.slice
 obtain ⟨p2,c2,rfl⟩:=h2.slice
 obtain ⟨n1,hl1⟩:∃ n,n=l1.length:=⟨_,rfl⟩
 obtain ⟨n2,hl2⟩:∃ n,n=l2.length:=⟨_,rfl⟩
 rw [← hl1,← hl2] at hg
 rw [← hl1] at hn1 h1 k1
 rw [← hl2] at hn2 h2 k2
 have hgr:=zuw (n1+n2) (by omega) w
 rw [show ((n1+n2:Nat):Int)=(n1:Int)+n2 by omega] at hgr
 have HG:=Lib.hid hgr
 clear hgr
 have H1:=Lib.hid h1
 have H2:=Lib.hid h2
 have HU:=Lib.hid hg
 have HN1:Hid (p1=none→n1=0∧c1=0):=Lib.hid fun e=>by
  have hc:=k1.2 n1 c1 (by rw [e])
  have:=k1.1 p1 n1 c1 rfl
  exact ⟨by omega,hc⟩
 have HN2:Hid (p2=none→n2=0∧c2=0):=Lib.hid fun e=>by
  have hc:=k2.2 n2 c2 (by rw [e])
  have:=k2.1 p2 n2 c2 rfl
  exact ⟨by omega,hc⟩
 have HL1:=Lib.hid hl1
 have HL2:=Lib.hid hl2
 have d0:=zac hg 0 rfl
 have d1:=zac hg 1 rfl
 clear h1 h2 hg k1 k2 hl1 hl2
 go_enter Tryz.func177,Tryz.ntmps177
 go_wp2_with fail
 go_loopg [3,11] 2 (fun gg s3 s11 wr=>∃ j:Nat,j+gg=2∧s11=.int .i64 j∧s3=.int .i64 (if j=0 then 0 else if j=1 then (n1:Int) else (n1:Int)+n2)∧wr=w)
 case atStart=>exact ⟨0,by omega,rfl,rfl,rfl⟩
 case round=>
  obtain ⟨j,hjg,rfl,rfl,rfl⟩:=hrel
  rcases (show j=0∨j=1∨j=2 by omega) with rfl | rfl | rfl
  ·have t1:¬ ((n1:Int) < 0):=by omega
   go_wp2_with fail
   go_roundg (gk - 1)
   case measure=>omega
   case rel=>exact ⟨1,by omega,by go_num,by simp,rfl⟩
  ·have t1:¬ ((n1:Int)+n2 < 0):=by omega
   go_wp2_with fail
   go_roundg (gk - 1)
   case measure=>omega
   case rel=>exact ⟨2,by omega,by go_num,by simp,rfl⟩
  ·go_wp2_with (first
    |(go_at_call 211;(with_reducible refine HG.out.mono ?_);rintro e w1 ⟨v3,rfl,ho1,hb1⟩))
   have ACC0:=Lib.hid (AccB.startOwn intE 3 P ho1 hb1)
   clear ho1 hb1 d0 d1
   go_loopg [6,27] 2 (fun gg s6 s27 wx=>∃ j:Nat,j+gg=2∧s27=.int .i64 j∧Hid (AccB intE 3 P wr (if j=0 then [] else if j=1 then l1 else l1++l2) s6 wx))
   case atStart=>exact ⟨0,by omega,rfl,by simpa using ACC0⟩
   case round=>
    clear ACC0
    obtain ⟨j,hjg,rfl,HA⟩:=hrel
    rename World=>wx
    obtain ⟨⟨xs,hown,hrow⟩,hbel⟩:=HA.out
    have hsz:=hbel.size
    rcases (show j=0∨j=1∨j=2 by omega) with rfl | rfl | rfl
    ·replace hown:wx.ownsRow wr.heap.size 3 1 _ 0 xs:=hown
     obtain ⟨ys,hy1,hy2,hy3⟩:=(H1.out.stays (P':=P) (fun x hx=>⟨hx,hbel.block x (hP x hx)⟩)).news
     replace hy1:ys.length=n1*1:=by rw [hy1,HL1.out];rfl
     have hyo:=hy2.one
     have d0:=zac ((hbel.block _ (zaa HU.out)).trans HU.out) 0 rfl
     have HY:=Lib.hid (And.intro hown (And.intro hrow (And.intro hbel hy2)))
     clear hrow hbel hy2 HA
     go_wp2_with (first
      |(at_builtin;refine zcv rfl _ _ 188 rfl wr.heap.size 3 i0 (.int .i64 0) 1 8 Tryz.underlying188 hi hz0 hz1 hz2 rfl (by decide) _ 0 xs rfl hown p1 n1 c1 ys rfl hy1 HN1.out hy3 hyo (by unfold maxLen;omega) (by omega) hsz ?_))
     intro v' w5 hown' hgrow hloc
     have acc:AccB intE 3 P wr l1 v' w5:=by
      have:=AccB.more (bs:=[]) hP HY.out.1 HY.out.2.1 HY.out.2.2.1 HY.out.2.2.2 (by rw [← HL1.out,List.length_nil,Nat.zero_add];exact hown') hgrow
      exact this
     have ACC:=Lib.hid acc
     clear acc hown' hgrow hloc hown HY hy3 d0 hyo
     go_wp2_with fail
     go_roundg (gk - 1)
     case measure=>omega
     case rel=>exact ⟨1,by omega,by go_num,by simpa using ACC⟩
    ·replace hown:=zvc (m:=n1) hown HL1.out.symm
     obtain ⟨ys,hy1,hy2,hy3⟩:=(H2.out.stays (P':=P) (fun x hx=>⟨hx,hbel.block x (hP x hx)⟩)).news
     replace hy1:ys.length=n2*1:=by rw [hy1,HL2.out];rfl
     have hyo:=hy2.one
     have d0:=zac ((hbel.block _ (zaa HU.out)).trans HU.out) 1 rfl
     have HY:=Lib.hid (And.intro hown (And.intro hrow (And.intro hbel hy2)))
     clear hrow hbel hy2 HA
     go_wp2_with (first
      |(at_builtin;refine zcv rfl _ _ 188 rfl wr.heap.size 3 i0 (.int .i64 0) 1 8 Tryz.underlying188 hi hz0 hz1 hz2 rfl (by decide) _ n1 xs rfl hown p2 n2 c2 ys rfl hy1 HN2.out hy3 hyo (by unfold maxLen;omega) (by omega) hsz ?_))
     intro v' w5 hown' hgrow hloc
     have acc:AccB intE 3 P wr (l1++l2) v' w5:=by
      have h0:=HY.out.1
      rw [HL1.out] at h0
      exact AccB.more hP h0 HY.out.2.1 HY.out.2.2.1 HY.out.2.2.2 (by rw [← HL1.out,← HL2.out];exact hown') hgrow
     have ACC:=Lib.hid acc
     clear acc hown' hgrow hloc hown HY hy3 d0 hyo
     go_wp2_with fail
     go_roundg (gk - 1)
     case measure=>omega
     case rel=>exact ⟨2,by omega,by go_num,by simpa using ACC⟩
    ·have hown2:wx.ownsRow wr.heap.size 3 1 _ (l1++l2).length xs:=hown
     have hrow2:RowE intE wx P xs (l1++l2):=hrow
     have HX:=Lib.hid (And.intro hown2 (And.intro hrow2 hbel))
     clear hown hrow hbel HA hown2 hrow2
     go_wp2_with fail
     go_ret
     exact ⟨_,xs,rfl,HX.out.1,HX.out.2.1,HX.out.2.2⟩
theorem zve (l1 l2:List Int) (v1 v2:Value) (g:Nat) (w:World) (hg:w.heap[g]?=some (.cells #[v1,v2] 188)) (h1:zaf intE w (Old w) v1 l1) (h2:zaf intE w (Old w) v2 l2) (k1:capK v1) (k2:capK v2) (hn1:l1.length≤2097152) (hn2:l2.length≤2097152):
 Calls Tryz.prog 177 #[.slice (some ⟨g,0,none⟩) 2 2] w (zdp intE 3 (Old w) w (l1++l2)):=zs5 (Old w) l1 l2 v1 v2 g w (fun _ h=>h) hg h1 h2 k1 k2 hn1 hn2
end Go.Proofs.YteclpnfckjfibaaGreatDoor

/- X4 -/
namespace Go.Proofs.YteclpnfckjfibaaGreatDoor
open Go.RowKit
structure Own (base n:Nat) (v:Value) (w0 w:World):Prop where
 row:∃ xs,w.ownsRow base 5 1 v n xs
 lo:base≤w.heap.size
 bel:Below base w0 w
end Go.Proofs.YteclpnfckjfibaaGreatDoor

/- X5 -/
namespace Go.Proofs.YteclpnfckjfibaaGreatDoor
open Go.RowKit
theorem Own.say {base n m:Nat} {v v':Value} {w0 w w1:World} {xs:List Value} (h:Own base n v w0 w) (hown:w1.ownsRow base 5 1 v' m xs) (hg:w.grownBy w1 v.ownBlock):Own base m v' w0 w1:=by
 obtain ⟨⟨ys,hr⟩,hlo,hbel⟩:=h
 exact ⟨⟨xs,hown⟩,Nat.le_trans hlo hg.size,hbel.grown hg hlo (fun k hk=>(hr.lt k hk).1)⟩
end Go.Proofs.YteclpnfckjfibaaGreatDoor

/- PE -/
namespace Go.Proofs.YteclpnfckjfibaaGreatDoor
open Go.RowKit
def zb4 (n:Int) (i:Nat):UInt8:=UInt8.ofNat ((n / (2:Int) ^ (8*i)) % 256).toNat
theorem zfm (n:Int) (i:Nat):((zb4 n i).toNat:Int)=n / (2:Int) ^ (8*i) % 256:=by
 unfold zb4
 have h0:0≤n / (2:Int) ^ (8*i) % 256:=Int.emod_nonneg _ (by decide)
 have h1:n / (2:Int) ^ (8*i) % 256 < 256:=Int.emod_lt_of_pos _ (by decide)
 generalize n / (2:Int) ^ (8*i) % 256=z at h0 h1 ⊢
 rw [UInt8.toNat_ofNat']
 omega
def beB (n:Int):Nat→List UInt8
 | 0=>[]
 | i+1=>zb4 n i::beB n i
theorem zbd (n:Int):(k:Nat)→(beB n k).length=k
 | 0=>rfl
 | k+1=>by simp [beB,zbd n k]
def txtB (t:ByteArray):List UInt8:=t.data.toList
theorem zd6 (t:ByteArray):(txtB t).length=t.size:=Array.length_toList
def lenB (t:ByteArray):List UInt8:=beB t.size 4++txtB t
theorem zev (t:ByteArray):(lenB t).length=4+t.size:=by
 unfold lenB
 rw [List.length_append,zbd,zd6]
mutual
def encP:Val→List UInt8
 | .mk k b n t x l=>zb4 k 0::(if k=1 then [if b then 1 else 0] else if k=2∨k=6∨k=7 then beB n 8 else if k=3∨k=4∨k=8∨k=9 then lenB t
    else if k=10 then lenB t++lenB x else if k=5 then beB l.length 4++zao l else [])
def zao:List Val→List UInt8
 | []=>[]
 | v::r=>encP v++zao r
end
mutual
def wOne:Val→Nat
 | .mk _ _ _ t x l=>1+t.size+x.size+wAll l
def wAll:List Val→Nat
 | []=>0
 | v::r=>wOne v+wAll r
end
theorem zm8:{l:List Val}→{v:Val}→v∈l→wOne v≤wAll l
 | [],_,h=>absurd h (by simp)
 | u::r,v,h=>by
   unfold wAll
   rcases List.mem_cons.1 h with h | h
   ·rw [h];omega
   ·have:=zm8 h;omega
theorem zm9:(l:List Val)→l.length≤wAll l
 | []=>by simp
 | .mk k b n t x q::r=>by
   unfold wAll wOne
   have:=zm9 r
   simp only [List.length_cons]
   omega
mutual
theorem zrt:(v:Val)→(encP v).length≤13*wOne v
 | .mk k b n t x l=>by
   have h:=zdm l
   unfold encP wOne
   rw [List.length_cons]
   split
   ·simp;omega
   split
   ·rw [zbd];omega
   split
   ·rw [zev];omega
   split
   ·rw [List.length_append,zev,zev];omega
   split
   ·rw [List.length_append,zbd];omega
   ·simp;omega
theorem zdm:(l:List Val)→(zao l).length≤13*wAll l
 | []=>by simp [zao]
 | v::r=>by
   have:=zrt v
   have:=zdm r
   unfold zao wAll
   rw [List.length_append]
   omega
end
theorem zf1:(l:List Val)→(j:Nat)→(h:j < l.length)→zao (l.take (j+1))=zao (l.take j)++encP (l[j]'h)
 | [],_,h=>absurd h (by simp)
 | v::r,0,_=>by simp [zao]
 | v::r,j+1,h=>by
   have:=zf1 r j (by simpa using h)
   simp [zao,this,List.append_assoc]
theorem zla:(l:List Val)→(j:Nat)→(h:j < l.length)→wAll (l.take j)+wOne (l[j]'h)≤wAll l
 | [],_,h=>absurd h (by simp)
 | v::r,0,_=>by
   show wAll (v::r.take 0 |>.take 0)+wOne v≤_
   simp [wAll]
 | v::r,j+1,h=>by
   have:=zla r j (by simpa using h)
   show wAll (v::r.take j)+wOne (r[j]'(by simpa using h))≤wAll (v::r)
   unfold wAll
   omega
theorem zbb (a b:List UInt8):vals (a++b)=vals a++vals b:=by simp [vals]
theorem zqr (a:List UInt8):(vals a).length=a.length:=by simp [vals]
def Bts (w:World) (A:Value) (l:List UInt8):Prop:=∃ p cap,A=.slice p l.length cap∧(l=[]∨∃ g off,p=some ⟨g,off,none⟩∧∀ j c,l[j]?=some c→w.cell? ⟨g,off+j,none⟩=some (.int .u8 c.toNat))
theorem Bts.below {w w':World} {A:Value} {l:List UInt8} (h:Bts w A l) (b:Below w.heap.size w w'):Bts w' A l:=by
 obtain ⟨p,cap,e,h⟩:=h
 refine ⟨p,cap,e,?_⟩
 rcases h with h | ⟨g,off,e2,h⟩
 ·exact .inl h
 ·exact .inr ⟨g,off,e2,fun j c hj=>(b.cell (p:=⟨g,off+j,none⟩) (World.block_lt_of_cell? w _ (h j c hj))).trans (h j c hj)⟩
structure OwnB (w0:World) (A:Value) (l:List UInt8) (w:World):Prop where
 own:w.ownsRow w0.heap.size 5 1 A l.length (vals l)
 bel:Below w0.heap.size w0 w
theorem OwnB.lo {w0 w:World} {A:Value} {l:List UInt8} (h:OwnB w0 A l w):w0.heap.size≤w.heap.size:=h.bel.size
theorem OwnB.alloc {w0 w:World} {A:Value} {l:List UInt8} (h:OwnB w0 A l w) (o:Obj):OwnB w0 A l (w.alloc o):=⟨h.own.alloc o,h.bel.alloc h.lo o⟩
theorem OwnB.start (w:World):OwnB w (.slice none 0 0) [] w:=⟨World.ownsRow_nil _ _ _ _,Below.refl _ _⟩
theorem OwnB.say {w0 w w1:World} {A A':Value} {l l':List UInt8} {n:Nat} {xs:List Value} (h:OwnB w0 A l w) (hown:w1.ownsRow w0.heap.size 5 1 A' n xs) (hg:w.grownBy w1 A.ownBlock) (hn:n=l'.length) (hx:xs=vals l'):OwnB w0 A' l' w1:=by
 subst hn hx
 exact ⟨hown,h.bel.grown hg h.lo (fun k hk=>(h.own.lt k hk).1)⟩
theorem OwnB.after {w0 w w1:World} {A:Value} {l:List UInt8} (h:OwnB w0 A l w) (hb:Below w.heap.size w w1):OwnB w0 A l w1:=by
 refine ⟨⟨h.own.1,?_⟩,zab h.bel hb h.lo⟩
 rcases h.own.2 with h0 | ⟨g,cap,cur,e,h1,h2,h3⟩
 ·exact .inl h0
 ·exact .inr ⟨g,cap,cur,e,h1,(hb.block g (zaa h2)).trans h2,h3⟩
theorem OwnB.bts {w0 w:World} {A:Value} {l:List UInt8} (h:OwnB w0 A l w):Bts w A l:=by
 rcases h.own.2 with ⟨e,h0⟩ | ⟨g,cap,cur,e,_⟩
 ·have:=List.length_eq_zero_iff.1 h0
  subst this
  exact ⟨none,0,e,.inl rfl⟩
 ·refine ⟨_,cap,e,.inr ⟨g,0,rfl,fun j c hj=>?_⟩⟩
  have hj':=(List.getElem?_eq_some_iff.1 hj).1
  have hown:=h.own
  rw [e] at hown
  rw [Nat.zero_add,hown.cellAt j (by omega)]
  unfold vals
  rw [List.getElem?_map,hj]
  rfl
theorem OwnB.ne {w0 w:World} {A:Value} {l:List UInt8} (h:OwnB w0 A l w):some w.heap.size≠A.ownBlock:=fun e=>by have:=(h.own.lt _ e.symm).2;omega
theorem Six.grown {W w1:World} {g:Nat} {k:Int} {b:Bool} {n:Int} {t x:ByteArray} {p:Option Addr} {len cap:Nat} {r:Option Nat} (S:Six W g k b n t x p len cap) (hg:W.grownBy w1 r) (hne:some g≠r):Six w1 g k b n t x p len cap:=
 (hg.block g S.lt hne).trans S
def Bx (w w':World):Prop:=∀ (g:Nat) (c:Array Value),w.heap[g]?=some (Obj.cells c 48)→w'.heap[g]?=some (Obj.cells c 48)
theorem Bx.refl (w:World):Bx w w:=fun _ _ h=>h
theorem Bx.trans {w w1 w2:World} (h:Bx w w1) (k:Bx w1 w2):Bx w w2:=fun g c e=>k g c (h g c e)
theorem Bx.below {w w':World} (h:Below w.heap.size w w'):Bx w w':=fun g _ e=>(h.block g (zaa e)).trans e
theorem OwnB.bx {w0 w w1:World} {A:Value} {l:List UInt8} (h:OwnB w0 A l w) (hg:w.grownBy w1 A.ownBlock):Bx w w1:=fun g c e=>by
 refine (hg.block g (zaa e) (fun e2=>?_)).trans e
 rcases h.own.2 with ⟨e3,_⟩ | ⟨g2,cap,cur,e3,_,h2,_⟩
 ·rw [e3] at e2;cases e2
 ·rw [e3] at e2
  obtain rfl:g=g2:=Option.some.inj e2
  rw [e] at h2
  injection h2 with h3
  injection h3 with _ h4
  exact absurd h4 (by decide)
theorem Six.bx {w w':World} {g:Nat} {k:Int} {b:Bool} {n:Int} {t x:ByteArray} {p:Option Addr} {len cap:Nat} (S:Six w g k b n t x p len cap) (h:Bx w w'):Six w' g k b n t x p len cap:=h _ _ S
theorem OwnB.drew {w0 w:World} {A:Value} {l:List UInt8} (h:OwnB w0 A l w):OwnB w0 A l w.drew:=⟨h.own,h.bel.drew⟩
theorem zci (c:UInt8) {x:Int} (h:(c.toNat:Int)=x):vals [c]=[.int .u8 x]:=by subst h;rfl
theorem zna (n:Int):(k:Nat)→k≤8→beB (n % 18446744073709551616) k=beB n k
 | 0,_=>rfl
 | i+1,h=>by
   unfold beB
   rw [zna n i (by omega)]
   congr 1
   unfold zb4
   congr 2
   have:i=0∨i=1∨i=2∨i=3∨i=4∨i=5∨i=6∨i=7:=by omega
   rcases this with rfl | rfl | rfl | rfl | rfl | rfl | rfl | rfl <;> omega
end Go.Proofs.YteclpnfckjfibaaGreatDoor

/- XA -/
namespace Go.Proofs.YteclpnfckjfibaaGreatDoor
open Go.RowKit
set_option maxRecDepth 20000 in
set_option maxHeartbeats 3200000 in
theorem zdn (w0 w:World) (A:Value) (l:List UInt8) (n:Int) (k:Nat) (hk:k≤8) (h0:0≤n) (h1:n < 18446744073709551616) (h:OwnB w0 A l w) (hl:l.length≤1000000000):
 Calls Tryz.prog 208 #[A,.int .u64 n,.int .i64 k] w fun e w'=>∃ A',e=.returned A'∧OwnB w0 A' (l++beB n k) w'∧Bx w w':=by
 obtain ⟨i0,hi,hz0,hz1,hz2⟩:=info_parts ze2
 go_enter Tryz.func208,Tryz.ntmps208
 go_wp2_with fail
 go_loopg [0,7] k (fun gg s0 s7 wr=>∃ L:List UInt8,s7=.int .i64 ((gg:Int) - 1)∧OwnB w0 s0 L wr∧gg≤8∧L.length+gg≤1000000008∧Hid (L++beB n gg=l++beB n k)∧Hid (Bx w wr))
 case atStart=>exact ⟨l,rfl,h,hk,by omega,Lib.hid rfl,Lib.hid (Bx.refl _)⟩
 case round=>
  clear h
  obtain ⟨L,rfl,O,hg,hL,HE,HB⟩:=hrel
  cases gk with
  | zero=>
    have HE2:=HE.out
    have e0:L=l++beB n k:=by simpa [beB] using HE2
    subst e0
    have HO:=Lib.hid O
    clear O HE HE2
    go_wp2_with fail
    go_ret
    exact ⟨_,rfl,HO.out,HB.out⟩
  | succ i=>
    have hown:=O.own
    have hlo:=O.lo
    have e1:((i+1:Nat):Int) - 1=i:=by omega
    rw [e1]
    go_wp2_with (at_builtin;refine wpList_append_own _ rfl _ _ 101 rfl w0.heap.size 5 i0 (.int .u8 0) 1 1 Tryz.underlying101 hi hz0 hz1 hz2 rfl (by decide) _ _ _ rfl (hown.alloc _) ⟨wr.heap.size,0,none⟩ 1 1 [_] rfl rfl (cell_one_new _ _ _) ?_ ?_ ?_ ?_ ?_)
    all_goals (try (first | rfl |(unfold maxLen;omega) | omega |(simp;omega) |(intro u hu;simp at hu;subst hu;rfl)))
    intro v' w1 hown' hgrow _
    have O2:=(O.alloc _).say (l':=L++[zb4 n i]) hown' hgrow (by simp) (by rw [zbb,zci _ (zfm n i)])
    have HB2:=Lib.hid ((HB.out.trans (Bx.below (zaz _ _))).trans ((O.alloc _).bx hgrow))
    have HO:=Lib.hid O2
    have HE2:Hid ((L++[zb4 n i])++beB n i=l++beB n k):=Lib.hid (by rw [← HE.out];simp [beB])
    have hL2:(L++[zb4 n i]).length+i≤1000000008:=by simp;omega
    clear hown hown' hgrow O O2 HE hL HB
    go_wp2_with fail
    go_roundg i
    case measure=>omega
    case rel=>exact ⟨L++[zb4 n i],rfl,HO.out,by omega,hL2,HE2,HB2⟩
theorem zvf (t:ByteArray) (ht:t.size≤2097152):(0:Int)≤t.size∧(t.size:Int) < 18446744073709551616:=by omega
set_option maxRecDepth 20000 in
set_option maxHeartbeats 3200000 in
theorem zc8 (w0 w:World) (A:Value) (l:List UInt8) (t:ByteArray) (ht:t.size≤2097152) (h:OwnB w0 A l w) (hl:l.length≤900000000):
 Calls Tryz.prog 209 #[A,.string t] w fun e w'=>∃ A',e=.returned A'∧OwnB w0 A' (l++lenB t) w'∧Bx w w':=by
 obtain ⟨i0,hi,hz0,hz1,hz2⟩:=info_parts ze2
 obtain ⟨n,hn⟩:∃ n,n=t.size:=⟨_,rfl⟩
 have hc:Calls Tryz.prog 208 #[A,.int .u64 t.size,.int .i64 4] w fun e w'=>∃ A',e=.returned A'∧OwnB w0 A' (l++beB t.size 4) w'∧Bx w w':=zdn w0 w A l (t.size:Int) 4 (by omega) (zvf t ht).1 (zvf t ht).2 h (by omega)
 have HC:=Lib.hid hc
 clear h hc
 go_enter Tryz.func209,Tryz.ntmps209
 go_wp2_with (first
  |(go_at_call 208;(with_reducible refine HC.out.mono ?_);rintro e w1 ⟨v1,rfl,O,hbx⟩;have hown:=O.own;have hlo:=O.lo)
  |(at_builtin;refine Lib.wpList_append_own_string _ rfl _ _ 101 9 rfl w0.heap.size 5 i0 Tryz.underlying101 Tryz.underlying9 hi hz0 hz1 hz2 _ _ _ rfl hown t rfl ?_ ?_ hlo ?_))
 all_goals (try (first | rfl |(rw [List.length_append,zbd];unfold maxLen;omega) |(rw [List.length_append,zbd];omega)))
 intro v' w2 hown' hgrow _
 have O2:=O.say (l':=l++lenB t) hown' hgrow (by simp only [lenB,List.length_append,zd6];omega) (by unfold lenB;rw [← List.append_assoc,zbb (b:=txtB t)];rfl)
 have HB:=Lib.hid (hbx.trans (O.bx hgrow))
 have HO:=Lib.hid O2
 clear hown hown' hgrow O O2 hbx
 go_wp2_with fail
 go_ret
 exact ⟨_,rfl,HO.out,HB.out⟩
end Go.Proofs.YteclpnfckjfibaaGreatDoor
