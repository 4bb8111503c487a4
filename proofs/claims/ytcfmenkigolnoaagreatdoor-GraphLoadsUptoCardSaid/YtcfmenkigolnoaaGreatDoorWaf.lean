/- Texts of one kind, one behind the other: each says ahead of itself what it shows. -/
import Derived.Test.YtcfmenkigolnoaaGreatDoorWae
import Derived.Maps.AppendAt
import Derived.Lib.SlKeysI
import Derived.Shelf.SortM.Plain
import Derived.Shelf.SortM.SortNone
import Derived.Test.YtcfmenkigolnoaaGreatDoorWaa
import Derived.Lib.SmallJoins
import Derived.Sort.OwnSorted
import Derived.Great.BuildSlice
import Derived.Deep.MidRow
/- LA -/
namespace Go.Proofs.YtcfmenkigolnoaaGreatDoor
open Go.RowKit
mutual
def zbi (w:World) (P:Nat→Prop) (g off:Nat):Val→Prop
 | .mk k b n t x l=>w.cell? ⟨g,off,none⟩=some (.int .i64 k)∧w.cell? ⟨g,off+1,none⟩=some (.bool b)∧w.cell? ⟨g,off+2,none⟩=some (.int .i64 n)∧
   w.cell? ⟨g,off+3,none⟩=some (.string t)∧w.cell? ⟨g,off+4,none⟩=some (.string x)∧Fine n t x l.length∧
   ∃ L,w.cell? ⟨g,off+5,none⟩=some L∧zay w P L l
def zay (w:World) (P:Nat→Prop) (L:Value):List Val→Prop
 | []=>∃ p cap,L=.slice p 0 cap
 | v::r=>∃ g off cap,L=.slice (some ⟨g,off,none⟩) (r.length+1) cap∧P g∧zbi w P g off v∧zb2 w P g (off+6) r
def zb2 (w:World) (P:Nat→Prop) (g off:Nat):List Val→Prop
 | []=>True
 | v::r=>zbi w P g off v∧zb2 w P g (off+6) r
end
mutual
theorem zbi.held {w:World} {P:Nat→Prop} {g off:Nat}:(v:Val)→zbi w P g off v→za7 w g off v
 | .mk k b n t x l,h=>by
   unfold zbi at h
   unfold za7
   obtain ⟨h0,h1,h2,h3,h4,hf,L,h5,hl⟩:=h
   exact ⟨h0,h1,h2,h3,h4,hf,L,h5,zay.held l hl⟩
theorem zay.held {w:World} {P:Nat→Prop} {L:Value}:(l:List Val)→zay w P L l→Held w L l
 | [],h=>by
   unfold zay at h
   unfold Held
   exact h
 | v::r,h=>by
   unfold zay at h
   unfold Held
   obtain ⟨g,off,cap,e,_,hv,hr⟩:=h
   exact ⟨g,off,cap,e,zbi.held v hv,zb2.held r hr⟩
theorem zb2.held {w:World} {P:Nat→Prop} {g off:Nat}:(l:List Val)→zb2 w P g off l→zb5 w g off l
 | [],_=>by unfold zb5;trivial
 | v::r,h=>by
   unfold zb2 at h
   unfold zb5
   exact ⟨zbi.held v h.1,zb2.held r h.2⟩
end
def zc9 (P P':Nat→Prop) (w w':World):Prop:=∀ g,P g→P' g∧w'.heap[g]?=w.heap[g]?
theorem zc9.cell {P P':Nat→Prop} {w w':World} (h:zc9 P P' w w') {g:Nat} (hg:P g) (o:Nat) {v:Value} (hv:w.cell? ⟨g,o,none⟩=some v):w'.cell? ⟨g,o,none⟩=some v:=
 (World.cell?_of_block (w:=w) (a:=⟨g,o,none⟩) (h g hg).2).trans hv
mutual
theorem zbi.stays {w w':World} {P P':Nat→Prop} {g off:Nat} (s:zc9 P P' w w') (hg:P g):(v:Val)→zbi w P g off v→zbi w' P' g off v
 | .mk k b n t x l,h=>by
   unfold zbi at h ⊢
   obtain ⟨h0,h1,h2,h3,h4,hf,L,h5,hl⟩:=h
   exact ⟨s.cell hg _ h0,s.cell hg _ h1,s.cell hg _ h2,s.cell hg _ h3,s.cell hg _ h4,hf,L,s.cell hg _ h5,zay.stays s l hl⟩
theorem zay.stays {w w':World} {P P':Nat→Prop} {L:Value} (s:zc9 P P' w w'):(l:List Val)→zay w P L l→zay w' P' L l
 | [],h=>by
   unfold zay at h ⊢
   exact h
 | v::r,h=>by
   unfold zay at h ⊢
   obtain ⟨g,off,cap,e,hg,hv,hr⟩:=h
   exact ⟨g,off,cap,e,(s g hg).1,zbi.stays s hg v hv,zb2.stays s hg r hr⟩
theorem zb2.stays {w w':World} {P P':Nat→Prop} {g off:Nat} (s:zc9 P P' w w') (hg:P g):(l:List Val)→zb2 w P g off l→zb2 w' P' g off l
 | [],_=>by unfold zb2;trivial
 | v::r,h=>by
   unfold zb2 at h ⊢
   exact ⟨zbi.stays s hg v h.1,zb2.stays s hg r h.2⟩
end
def zbu (w:World) (P:Nat→Prop):List Value→List Val→Prop
 | xs,[]=>xs=[]
 | xs,.mk k b n t x q::r=>∃ L ys,xs=.int .i64 k::.bool b::.int .i64 n::.string t::.string x::L::ys∧Fine n t x q.length∧zay w P L q∧zbu w P ys r
theorem zbu.append {w:World} {P:Nat→Prop}:{xs ys:List Value}→(l r:List Val)→zbu w P xs l→zbu w P ys r→zbu w P (xs++ys) (l++r)
 | _,_,[],_,h,g=>by
   unfold zbu at h
   subst h
   exact g
 | _,_,.mk k b n t x q::l,r,h,g=>by
   unfold zbu at h
   obtain ⟨L,zs,rfl,hf,hq,hr⟩:=h
   show zbu w P _ (.mk k b n t x q::(l++r))
   unfold zbu
   exact ⟨L,_,rfl,hf,hq,zbu.append l r hr g⟩
theorem zbu.stays {w w':World} {P P':Nat→Prop} (s:zc9 P P' w w'):{xs:List Value}→(l:List Val)→zbu w P xs l→zbu w' P' xs l
 | _,[],h=>by unfold zbu at h ⊢;exact h
 | _,.mk k b n t x q::l,h=>by
   unfold zbu at h ⊢
   obtain ⟨L,zs,rfl,hf,hq,hr⟩:=h
   exact ⟨L,zs,rfl,hf,zay.stays s q hq,zbu.stays s l hr⟩
theorem zbu.one {w:World} {P:Nat→Prop} {k:Int} {b:Bool} {n:Int} {t x:ByteArray} {q:List Val} {L:Value} (hf:Fine n t x q.length) (hq:zay w P L q):zbu w P [.int .i64 k,.bool b,.int .i64 n,.string t,.string x,L] [.mk k b n t x q]:=by
 unfold zbu
 exact ⟨L,[],rfl,hf,hq,by unfold zbu;rfl⟩
theorem zbu.holds {w:World} {P:Nat→Prop} {g:Nat}:{xs:List Value}→(l:List Val)→(off:Nat)→zbu w P xs l→(∀ (j:Nat) u,xs[j]?=some u→w.cell? ⟨g,off+j,none⟩=some u)→zb2 w P g off l
 | _,[],_,_,_=>by unfold zb2;trivial
 | _,.mk k b n t x q::l,off,h,hc=>by
   unfold zbu at h
   obtain ⟨L,zs,rfl,hf,hq,hr⟩:=h
   unfold zb2 zbi
   refine ⟨⟨hc 0 _ rfl,hc 1 _ rfl,hc 2 _ rfl,hc 3 _ rfl,hc 4 _ rfl,hf,L,hc 5 _ rfl,hq⟩,zbu.holds l (off+6) hr fun j u hj=>?_⟩
   have:=hc (j+6) u hj
   rw [show off+6+j=off+(j+6) by omega]
   exact this
theorem zl9 {w:World} {base:Nat} {P P':Nat→Prop} {V:Value} {xs:List Value} {l:List Val} (h:w.ownsRow base 60 6 V l.length xs) (c:zbu w P xs l) (s:∀ g,P g→P' g) (hP:∀ g,V.ownBlock=some g→P' g):zay w P' V l:=by
 have c':zbu w P' xs l:=c.stays (fun g hg=>⟨s g hg,rfl⟩) l
 rcases h.2 with ⟨rfl,hn⟩ | ⟨g,cap,cur,rfl,hb,hg,hcap,_,hsz,htk⟩
 ·obtain rfl:=List.length_eq_zero_iff.1 hn
  unfold zay
  exact ⟨none,0,rfl⟩
 ·have hh:zb2 w P' g 0 l:=c'.holds l 0 fun j u hj=>by
   have e:cur[j]?=some u:=by
    rw [← htk,List.getElem?_take] at hj
    split at hj
    ·rw [← Array.getElem?_toList];exact hj
    ·cases hj
   rw [Nat.zero_add]
   exact zac hg j e
  cases l with
  | nil=>
    unfold zay
    exact ⟨_,cap,rfl⟩
  | cons v r=>
    unfold zb2 at hh
    unfold zay
    exact ⟨g,0,cap,rfl,hP g rfl,hh.1,hh.2⟩
end Go.Proofs.YtcfmenkigolnoaaGreatDoor

/- GI -/
namespace Go.Proofs.YtcfmenkigolnoaaGreatDoor
open Go.RowKit
theorem zcl (w:World) (r:Option Nat):w.grownBy w r:=⟨rfl,rfl,rfl,Nat.le_refl _,fun _ _ _=>rfl⟩
theorem zsf {α:Type} [Inhabited α] {w:World} {base g cap q m:Nat} {e:TypeId} {cur:Array Value} (enc:α→Value) (ts:List α) (hm:m≤ts.length) (hbase:base≤g) (hb:w.heap[g]?=some (.cells cur e (0,0))) (h1:ts.length≤cap) (h2:cap≤maxLen) (h3:cur.size=cap*1):
 (Go.Sort.putRow enc (Go.Sort.ahead w q) g 0 ts.toArray).ownsRow base e 1 (.slice (some ⟨g,0,none⟩) m cap) m ((ts.take m).map enc)∧w.grownBy (Go.Sort.putRow enc (Go.Sort.ahead w q) g 0 ts.toArray) (some g):=by
 refine ⟨⟨by simp;omega,.inr ⟨g,cap,Go.Sort.putCells enc 0 ts.toArray cur,rfl,hbase,?_,by omega,h2,by simp [Go.Sort.putCells,h3],?_⟩⟩,⟨rfl,rfl,rfl,by simp,fun k hk hne=>?_⟩⟩
 ·simp [Go.Sort.putRow,Go.Sort.mapBlock,Go.Sort.ahead,Array.getElem?_modify,hb,Go.Sort.onCells]
 ·apply List.ext_getElem?
  intro j
  by_cases hj:j < m
  ·rw [List.getElem?_take_of_lt (by omega),Array.getElem?_toList]
   simp [Go.Sort.putCells,hj,show j < cur.size by omega,show j < ts.length by omega]
  ·rw [List.getElem?_take_eq_none (by omega),List.getElem?_eq_none (by simp;omega)]
 ·have:g≠k:=fun e=>hne (by rw [e])
  simp [Go.Sort.putRow,Go.Sort.mapBlock,Go.Sort.ahead,Array.getElem?_modify,this]
def zb3 (w:World) (v:Value) (zs:List Int):Prop:=
 ∃ p cap,v=.slice p zs.length cap∧(zs≠[]→∃ g off,p=some ⟨g,off,none⟩∧∀ j,j < zs.length→w.cell? ⟨g,off+j,none⟩=some (.int .i64 (zs.getD j 0)))
theorem zb3.below {w w':World} {v:Value} {zs:List Int} (h:zb3 w v zs) (b:Below w.heap.size w w'):zb3 w' v zs:=by
 obtain ⟨p,cap,rfl,h⟩:=h
 refine ⟨p,cap,rfl,fun hne=>?_⟩
 obtain ⟨g,off,rfl,hc⟩:=h hne
 refine ⟨g,off,rfl,fun j hj=>?_⟩
 rw [b.cell (World.block_lt_of_cell? w _ (hc j hj)),hc j hj]
theorem zbe {w:World} {base:Nat} {e:TypeId} {v:Value} {zs:List Int} (h:w.ownsRow base e 1 v zs.length (zs.map (Value.int .i64))):zb3 w v zs:=by
 rcases h.2 with ⟨rfl,h0⟩ | ⟨g,cap,cur,rfl,hb,hg,h1,h2,h3,h4⟩
 ·obtain rfl:=List.length_eq_zero_iff.1 h0
  exact ⟨none,0,rfl,fun h=>absurd rfl h⟩
 ·refine ⟨_,cap,rfl,fun _=>⟨g,0,rfl,fun j hj=>?_⟩⟩
  rw [Nat.zero_add,h.cellAt j (by omega)]
  simp [hj]
theorem znr (v:Value) (zs:List Int) (w:World) (h:zb3 w v zs) (hn:zs.length≤2097152):
 Calls Tryz.prog 96 #[v] w fun e w'=>∃ v',e=.returned v'∧w'.ownsRow w.heap.size 2 1 v' zs.length (zs.map (Value.int .i64))∧Below w.heap.size w w':=by
 obtain ⟨p,cap,rfl,h⟩:=h
 cases p with
 | none=>
   have:zs=[]:=by
    cases zs with
    | nil=>rfl
    | cons z l=>obtain ⟨g,off,e,_⟩:=h (by simp);cases e
   subst this
   refine (AnyG.slices_Clone_int_nil Tryz.cloneI 0 cap w).mono ?_
   rintro e w' ⟨rfl,rfl⟩
   exact ⟨_,rfl,World.ownsRow_nil _ _ _ _,Below.refl _ _⟩
 | some a=>
   by_cases h0:zs=[]
   ·subst h0
    refine (AnyG.slices_Clone_int_zero Tryz.cloneI a cap w).mono ?_
    rintro e w' ⟨v',rfl,ho,_,hb⟩
    exact ⟨v',rfl,ho,hb⟩
   ·obtain ⟨g,off,e,hc⟩:=h h0
    cases e
    refine (AnyG.slices_Clone_int Tryz.cloneI g off zs.length cap zs w (Nat.le_refl _) (by omega) hc).mono ?_
    rintro e w' ⟨v',rfl,ho,_,hb⟩
    rw [List.take_length] at ho
    exact ⟨v',rfl,ho,hb⟩
theorem zpy (v:Value) (zs:List Int) (base:Nat) (w:World) (h:w.ownsRow base 2 1 v zs.length (zs.map (Value.int .i64))) (hn:zs.length≤2097152):
 Calls Tryz.prog 97 #[v] w fun e w'=>e=.returned (.tuple #[])∧w'.ownsRow base 2 1 v zs.length ((zs.mergeSort leI).map (Value.int .i64))∧w.grownBy w' v.ownBlock:=by
 rcases h.2 with ⟨rfl,h0⟩ | ⟨g,cap,cur,rfl,hb,hg,h1,h2,h3,h4⟩
 ·obtain rfl:=List.length_eq_zero_iff.1 h0
  refine (AnyM.slices_Sort_int_none Tryz.sortI none 0 w).mono ?_
  rintro e w' ⟨rfl,rfl⟩
  exact ⟨rfl,by simpa using h,zcl _ _⟩
 ·by_cases h0:zs=[]
  ·subst h0
   refine (AnyM.slices_Sort_int_none Tryz.sortI (some ⟨g,0,none⟩) cap w).mono ?_
   rintro e w' ⟨rfl,rfl⟩
   exact ⟨rfl,by simpa using h,zcl _ _⟩
  ·have hH:Go.Sort.Holds encZ w g 0 zs.toArray:=holds_of_block_i hg (by simpa using h4)
   refine (AnyM.slices_Sort_int Tryz.sortI g 0 cap zs w hH (zaa hg) (by omega)).mono ?_
   rintro e w' ⟨rfl,n,os,rfl⟩
   refine ⟨rfl,?_,grownBy_sorted_i _⟩
   exact ownsRow_sorted_i (ss:=zs) (by simp) hb hg h1 h2 h3
theorem zpz (v:Value) (zs:List Int) (base:Nat) (w:World) (h:w.ownsRow base 2 1 v zs.length (zs.map (Value.int .i64))) (hn:zs.length≤2097152):
 Calls Tryz.prog 98 #[v] w fun e w'=>∃ v',e=.returned v'∧w'.ownsRow base 2 1 v' (Lib.compact zs).length ((Lib.compact zs).map (Value.int .i64))∧w.grownBy w' v.ownBlock:=by
 have empty:∀ (p:Option Addr) (cap:Nat),Calls Tryz.prog 98 #[.slice p 0 cap] w fun e w'=>e=.returned (.slice p 0 cap)∧w'=w:=fun p cap=>AnyG.slices_Compact_int_empty Tryz.compI p cap w
 rcases h.2 with ⟨rfl,h0⟩ | ⟨g,cap,cur,rfl,hb,hg,h1,h2,h3,h4⟩
 ·obtain rfl:=List.length_eq_zero_iff.1 h0
  refine (empty none 0).mono ?_
  rintro e w' ⟨rfl,rfl⟩
  exact ⟨_,rfl,by simpa [Lib.compact,Lib.compactUpTo] using h,zcl _ _⟩
 ·by_cases h0:zs=[]
  ·subst h0
   refine (empty _ cap).mono ?_
   rintro e w' ⟨rfl,rfl⟩
   exact ⟨_,rfl,by simpa [Lib.compact,Lib.compactUpTo] using h,zcl _ _⟩
  ·have hH:Go.Sort.Holds encZ w g 0 zs.toArray:=holds_of_block_i hg (by simpa using h4)
   have hl:=(zec zs).length_le
   refine (AnyG.slices_Compact_int Tryz.compI g 0 cap zs w hH (by omega) h1).mono ?_
   rintro e w' ⟨rfl,q,rfl⟩
   have hts:(Lib.compact zs++List.replicate (zs.length - (Lib.compact zs).length) 0).length=zs.length:=by simp;omega
   obtain ⟨r1,r2⟩:=zsf (q:=q) encZ (Lib.compact zs++List.replicate (zs.length - (Lib.compact zs).length) 0) (m:=(Lib.compact zs).length) (by simp) hb hg (by rw [hts];exact h1) h2 h3
   rw [List.take_left] at r1
   exact ⟨_,rfl,r1,r2⟩
theorem zbc {w:World} {base n size:Nat} {e:TypeId} {v:Value} {xs:List Value} (h:w.ownsRow base e size v n xs):∃ p cap,v=.slice p n cap:=by
 rcases h.2 with ⟨rfl,rfl⟩ | ⟨g,cap,cur,rfl,_⟩
 ·exact ⟨_,_,rfl⟩
 ·exact ⟨_,_,rfl⟩
theorem zov {w:World} {base n size:Nat} {e:TypeId} {v:Value} {xs:List Value} (h:w.ownsRow base e size v n xs) (j:Nat) (hj:v.ownBlock=some j):base≤j:=(h.lt j hj).1
set_option maxHeartbeats 1600000 in
set_option maxRecDepth 20000 in
theorem zma (v:Value) (zs:List Int) (w:World) (h:zb3 w v zs) (hn:zs.length≤2097152):
 Calls Tryz.prog 71 #[v] w fun e w'=>∃ v',e=.returned v'∧w'.ownsRow w.heap.size 2 1 v' (setL leI zs).length ((setL leI zs).map (Value.int .i64))∧Below w.heap.size w w':=by
 have c1:=znr v zs w h hn
 have HC:=Lib.hid c1
 have HS:=Lib.hid (fun v' w' h=>zpy v' zs w.heap.size w' h hn)
 have HD:=Lib.hid (fun v' w' h=>zpz v' (zs.mergeSort leI) w.heap.size w' h (by simpa using hn))
 clear c1 h
 go_enter Tryz.func71,Tryz.ntmps71
 go_wp2_with (first
  |(go_at_call 96;(with_reducible refine HC.out.mono ?_);rintro e w1 ⟨v1,rfl,ho1,hb1⟩)
  |(go_at_call 97;(with_reducible refine (HS.out v1 w1 ho1).mono ?_);rintro e w2 ⟨rfl,ho2,hg2⟩)
  |(go_at_call 98;(with_reducible refine (HD.out v1 w2 (by simpa using ho2)).mono ?_);rintro e w3 ⟨v3,rfl,ho3,hg3⟩))
 go_ret
 exact ⟨v3,rfl,ho3,(hb1.grown hg2 hb1.size (zov ho1)).grown hg3 (Nat.le_trans hb1.size hg2.size) (zov ho2)⟩
theorem zhp:∀ a b c:Int,leI a b=true→leI b c=true→leI a c=true:=fun a b c h1 h2=>by simp only [leI,decide_eq_true_eq] at *;omega
theorem zix:∀ a b:Int,(leI a b || leI b a)=true:=fun a b=>by simp only [leI,Bool.or_eq_true,decide_eq_true_eq];omega
theorem zow:∀ a b:Int,leI a b=true→leI b a=true→a=b:=fun a b h1 h2=>by simp only [leI,decide_eq_true_eq] at *;omega
set_option maxHeartbeats 1600000 in
set_option maxRecDepth 20000 in
theorem zgj (v:Value) (zs:List Int) (w:World) (h:zb3 w v zs) (hn:zs.length≤2097152):
 Calls Tryz.prog 70 #[v] w fun e w'=>e=.returned (.bool (decide zs.Nodup))∧Below w.heap.size w w':=by
 have c1:=zma v zs w h hn
 obtain ⟨p,cap,rfl,_⟩:=h
 have hd:decide ((setL leI zs).length=zs.length)=decide zs.Nodup:=decide_eq_decide.2 (zoq zhp zix zow zs)
 obtain ⟨b,hb⟩:∃ b:Bool,b=decide zs.Nodup:=⟨_,rfl⟩
 have hlz:=zfi (le:=leI) zs
 rw [← hb] at hd ⊢
 obtain ⟨n,hnz⟩:∃ n,n=zs.length:=⟨_,rfl⟩
 obtain ⟨m,hms⟩:∃ m,m=(setL leI zs).length:=⟨_,rfl⟩
 rw [← hnz,← hms] at hd hlz
 rw [← hnz] at hn
 rw [← hnz,← hms] at c1
 have HC:=Lib.hid c1
 rw [← hnz]
 clear c1 hb hnz hms
 go_enter Tryz.func70,Tryz.ntmps70
 go_wp2_with (first
  |(go_at_call 71;(with_reducible refine HC.out.mono ?_);rintro e w1 ⟨v1,rfl,ho1,hb1⟩;obtain ⟨p1,c1,rfl⟩:=zbc ho1))
 go_ret
 refine ⟨?_,hb1⟩
 rw [← hd]
 by_cases e:m=n
 ·simp [e]
 ·simp [e]
  omega
set_option maxHeartbeats 2000000 in
set_option maxRecDepth 1000000 in
theorem zns (a:Option Addr) (c:Nat) (x:Int) (w:World):Calls Tryz.prog 101 #[.slice a 0 c,.int .i64 x] w fun e w'=>e=.returned (.tuple #[.int .i64 0,.bool false])∧w'=w:=by
 go_enter Tryz.func101,Tryz.ntmps101
 go_wp2
 go_loopg [7,8] 0 (fun _ s7 s8 wr=>s7=.int .i64 0∧s8=.int .i64 0∧wr=w)
 case atStart=>exact ⟨rfl,rfl,rfl⟩
 case round=>
  obtain ⟨rfl,rfl,rfl⟩:=hrel
  go_wp2
  go_ret2
  exact ⟨rfl,rfl⟩
set_option maxHeartbeats 1600000 in
set_option maxRecDepth 20000 in
theorem zg1 (v:Value) (zs:List Int) (x:Int) (w:World) (h:zb3 w v zs) (hs:zs.Pairwise (·≤·)) (hn:zs.length≤2097152):
 Calls Tryz.prog 76 #[v,.int .i64 x] w fun e w'=>e=.returned (.bool (zs.contains x))∧∃ q,w'=w.drewN q:=by
 obtain ⟨r,hr⟩:∃ r,r=zs.contains x:=⟨_,rfl⟩
 have c1:Calls Tryz.prog 101 #[v,.int .i64 x] w fun e w'=>∃ k,e=.returned (.tuple #[.int .i64 k,.bool r])∧∃ q,w'=w.drewN q:=by
  obtain ⟨p,cap,rfl,h⟩:=h
  by_cases h0:zs=[]
  ·subst h0
   rw [hr]
   refine (zns p cap x w).mono ?_
   rintro e w' ⟨rfl,rfl⟩
   exact ⟨0,rfl,0,rfl⟩
  ·obtain ⟨g,off,rfl,hc⟩:=h h0
   refine (AnyG.slices_BinarySearch_int Tryz.findI g off zs.length cap zs x w (Nat.le_refl _) (by omega) hc (by rw [List.take_length];exact hs)).mono ?_
   rintro e w' ⟨rfl,q,rfl⟩
   rw [List.take_length,hr]
   exact ⟨_,rfl,q,rfl⟩
 rw [← hr]
 have HC:=Lib.hid c1
 clear c1 hr h
 go_enter Tryz.func76,Tryz.ntmps76
 go_wp2_with (first
  |(go_at_call 101;(with_reducible refine HC.out.mono ?_);rintro e w1 ⟨k,rfl,q,rfl⟩))
 go_ret
 exact ⟨rfl,q,rfl⟩
end Go.Proofs.YtcfmenkigolnoaaGreatDoor

/- GX -/
namespace Go.Proofs
open Go.RowKit Go.Maps Go.Sort Go.Shelf
theorem Tryz.sortsI (m:Nat):AnyZI.SortsIn Tryz.prog Tryz.sorted_ren Fence.wide m:=
 ⟨fun blk off cap ss W hH hblk hsz=>callsIn_wide.2 (AnyM.slices_Sort_int Tryz.sortI blk off cap ss W hH hblk hsz),
  fun p cap W=>callsIn_wide.2 (AnyM.slices_Sort_int_none Tryz.sortI p cap W)⟩
namespace YtcfmenkigolnoaaGreatDoor
theorem keysNAt (bn:Nat) (w:World):Calls Tryz.prog 80 #[.map (some bn)] w fun e w'=>e=.returned (.func (.func 106) #[] #[.pointer (some ⟨w.heap.size,0,none⟩)])∧w'=w.alloc (.cells #[.map (some bn)] 73):=
 (callsIn_wide (n:=6)).1 (AnyZI.keys_in Tryz.keysN Fence.wide 6 trivial rfl (some bn) w)
theorem keysEAt (bn:Nat) (w:World):Calls Tryz.prog 82 #[.map (some bn)] w fun e w'=>e=.returned (.func (.func 107) #[] #[.pointer (some ⟨w.heap.size,0,none⟩)])∧w'=w.alloc (.cells #[.map (some bn)] 74):=
 (callsIn_wide (n:=6)).1 (AnyZI.keys_in Tryz.keysE Fence.wide 6 trivial rfl (some bn) w)
theorem law2:Keyed Tryz.prog 2:=int_keyed Tryz.underlying2
theorem law9:Keyed Tryz.prog 9:=string_keyed Tryz.underlying9
theorem HMap.size {w:World} {P:Program} {k:TypeId} {b n:Nat} {f:Lit→Option Value} (h:HMap w P k b n f):∃ D:DataW Value,w.ownsMap P k zfh b n D∧Maps.size D≤n∧∀ kl,WideAt.IsKeyLit kl→Maps.has D kl=(f kl).isSome:=by
 obtain ⟨D,h,r⟩:=h
 exact ⟨D,h,h.size_le,fun kl hk=>(r kl hk).1⟩
theorem zhq {w:World} {b n:Nat} {D:DataW Value} (h:w.ownsMap Tryz.prog 2 zfh b n D) (ids:List Int) (hnd:ids.Nodup) (hm:∀ x,x∈ids↔Maps.has D (.int .i64 x)=true):ids.Perm (intKeys D):=by
 obtain ⟨es,hD,hpw,_⟩:=h.entries law2
 obtain ⟨es',hD',hko⟩:=h.keysOf
 obtain rfl:es=es':=by rw [hD] at hD';simpa using hD'
 subst hD
 exact perm_intKeys hpw (fun p hp=>by obtain ⟨v,hv⟩:=hko p hp;obtain ⟨x,_,hx,_⟩:=Maps.keyOf_i64 Tryz.underlying2 hv;exact ⟨x,hx⟩) hnd hm
set_option maxHeartbeats 1000000 in
theorem zsg (b n:Nat) (f:Lit→Option Value) (ids:List Int) (w:World) (h:HMap w Tryz.prog 2 b n f) (hnd:ids.Nodup) (hm:∀ x,x∈ids↔(f (.int .i64 x)).isSome=true) (hn:n≤2097152):
 Calls Tryz.prog 79 #[.func (.func 106) #[] #[.pointer (some ⟨w.heap.size,0,none⟩)]] (w.alloc (.cells #[.map (some b)] 73)) fun e w'=>∃ v,e=.returned v∧
  w'.ownsRow (w.heap.size+1) 2 1 v (ids.mergeSort leI).length ((ids.mergeSort leI).map (Value.int .i64))∧Below (w.heap.size+1) (w.alloc (.cells #[.map (some b)] 73)) w':=by
 obtain ⟨D,hown,hsz,hh⟩:=h.size
 have hbl:=hown.lt
 have hperm:=zhq hown ids hnd fun x=>by rw [hm x,hh (.int .i64 x) trivial]
 have hseq:SeqGives Fence.wide 2 Tryz.prog 106 #[.pointer (some ⟨w.heap.size,0,none⟩)] encZ (fun ss=>ss.Perm (intKeys D)) (Maps.size D) (w.alloc (.cells #[.map (some b)] 73)):=
  AnyZI.keys_gives (ρ:=Tryz.keysN_ren) { Tryz.keysN with } Fence.wide _ trivial rfl (by omega) w.heap.size b n D _ (by simp) (by simp) (by
   obtain ⟨es,clock,hb,Ft,hs,hD⟩:=hown
   exact ⟨es,clock,(Below.heap_alloc _ _ b hbl).trans hb,Ft,hs,hD⟩)
 have cS:=AnyZI.sorted_in Tryz.sorted Fence.wide 5 trivial trivial trivial trivial rfl (by omega) (Tryz.sortsI _) (enters_of Tryz.func97 (by kernel_rfl) rfl) 106 #[.pointer (some ⟨w.heap.size,0,none⟩)] trivial (enters_of Tryz.func106 (by kernel_rfl) rfl) _ _ (by unfold maxLen;omega) (by omega) _ hseq
 change CallsIn _ _ Tryz.prog 79 _ _ _ at cS
 refine ((callsIn_wide (n:=5)).1 cS).mono ?_
 rintro e w' ⟨v,ss,rfl,hS,hrow,_,hb⟩
 have es:ss.mergeSort leI=ids.mergeSort leI:=mergeSort_of_perm_i (hS.trans hperm.symm)
 have ez:(w.alloc (.cells #[.map (some b)] 73)).heap.size=w.heap.size+1:=by simp
 refine ⟨v,rfl,?_,by rw [← ez];exact hb⟩
 rw [← es,List.length_mergeSort]
 rw [ez] at hrow
 exact hrow
set_option maxHeartbeats 1000000 in
theorem zsh (b n:Nat) (f:Lit→Option Value) (ids:List Int) (w:World) (h:HMap w Tryz.prog 2 b n f) (hnd:ids.Nodup) (hm:∀ x,x∈ids↔(f (.int .i64 x)).isSome=true) (hn:n≤2097152):
 Calls Tryz.prog 79 #[.func (.func 107) #[] #[.pointer (some ⟨w.heap.size,0,none⟩)]] (w.alloc (.cells #[.map (some b)] 74)) fun e w'=>∃ v,e=.returned v∧
  w'.ownsRow (w.heap.size+1) 2 1 v (ids.mergeSort leI).length ((ids.mergeSort leI).map (Value.int .i64))∧Below (w.heap.size+1) (w.alloc (.cells #[.map (some b)] 74)) w':=by
 obtain ⟨D,hown,hsz,hh⟩:=h.size
 have hbl:=hown.lt
 have hperm:=zhq hown ids hnd fun x=>by rw [hm x,hh (.int .i64 x) trivial]
 have hseq:SeqGives Fence.wide 2 Tryz.prog 107 #[.pointer (some ⟨w.heap.size,0,none⟩)] encZ (fun ss=>ss.Perm (intKeys D)) (Maps.size D) (w.alloc (.cells #[.map (some b)] 74)):=
  AnyZI.keys_gives (ρ:=Tryz.keysE_ren) { Tryz.keysE with } Fence.wide _ trivial rfl (by omega) w.heap.size b n D _ (by simp) (by simp) (by
   obtain ⟨es,clock,hb,Ft,hs,hD⟩:=hown
   exact ⟨es,clock,(Below.heap_alloc _ _ b hbl).trans hb,Ft,hs,hD⟩)
 have cS:=AnyZI.sorted_in Tryz.sorted Fence.wide 5 trivial trivial trivial trivial rfl (by omega) (Tryz.sortsI _) (enters_of Tryz.func97 (by kernel_rfl) rfl) 107 #[.pointer (some ⟨w.heap.size,0,none⟩)] trivial (enters_of Tryz.func107 (by kernel_rfl) rfl) _ _ (by unfold maxLen;omega) (by omega) _ hseq
 change CallsIn _ _ Tryz.prog 79 _ _ _ at cS
 refine ((callsIn_wide (n:=5)).1 cS).mono ?_
 rintro e w' ⟨v,ss,rfl,hS,hrow,_,hb⟩
 have es:ss.mergeSort leI=ids.mergeSort leI:=mergeSort_of_perm_i (hS.trans hperm.symm)
 have ez:(w.alloc (.cells #[.map (some b)] 74)).heap.size=w.heap.size+1:=by simp
 refine ⟨v,rfl,?_,by rw [← ez];exact hb⟩
 rw [← es,List.length_mergeSort]
 rw [ez] at hrow
 exact hrow
theorem zdc {P:Program} {o:Oper} {a:Act} {w:World} {K:Act→World→Prop} {Q:Exit→Act→World→Prop} {f:Lit→Option Value} (m x v:Operand) (t:TypeId) (hop:o.op=Op.mapUpdate t m x v) (k e:TypeId) (KP:Go.Maps.Keyed P k) (ht:P.underlying t=some (.map k e)) (b n:Nat)
 (hm:a.eval m=.map (some b)) (hown:HMap w P k b n f) (hn:n < maxLen) (key val:Value) (kl:Lit) (hx:a.eval x=key) (hv:a.eval v=val) (hkey:keyOf P k key=some kl) (hl:WideAt.IsKeyLit kl)
 (hK:∀ w',HMap w' P k b (n+1) (updH f kl val)→w.grownBy w' (some b)→K (a.put o.dst undef) w'):o.wp P a w K Q:=by
 obtain ⟨w',hrun,r1,r2⟩:=hown.update KP ht hn hkey hl val
 unfold Oper.wp
 simp [execOp,hop,hm,hx,hv,hrun,Result.andThen]
 exact hK w' r1 r2
end YtcfmenkigolnoaaGreatDoor
end Go.Proofs

/- GT -/
namespace Go.Proofs.YtcfmenkigolnoaaGreatDoor
open Go.RowKit
def bl (b:ByteArray):List UInt8:=b.data.toList
def ofL (l:List UInt8):ByteArray:=⟨l.toArray⟩
theorem zhr (b:ByteArray):ofL (bl b)=b:=by cases b;rfl
theorem zox (l:List UInt8):bl (ofL l)=l:=by simp [bl,ofL]
theorem zoy {a b:ByteArray} (h:bl a=bl b):a=b:=by rw [← zhr a,h,zhr]
def leT (a b:ByteArray):Bool:=leB (bl a) (bl b)
theorem zgk:∀ a b c:List UInt8,leB a b=true→leB b c=true→leB a c=true:=fun a b c h1 h2=>by simp only [leB,decide_eq_true_eq] at *;exact List.le_trans h1 h2
theorem ziy:∀ a b:List UInt8,(leB a b || leB b a)=true:=fun a b=>by simp only [leB,Bool.or_eq_true,decide_eq_true_eq];exact List.le_total a b
theorem ziz:∀ a b:List UInt8,leB a b=true→leB b a=true→a=b:=fun a b h1 h2=>by simp only [leB,decide_eq_true_eq] at *;exact List.le_antisymm h1 h2
def sortS (ss:List ByteArray):List ByteArray:=((ss.map bl).mergeSort leB).map ofL
def setS (ss:List ByteArray):List ByteArray:=(setL leB (ss.map bl)).map ofL
theorem zdr (ss:List ByteArray):(sortS ss).length=ss.length:=by simp [sortS]
theorem zmb (ss:List ByteArray) (x:ByteArray):x∈sortS ss↔x∈ss:=by
 unfold sortS
 rw [List.mem_map]
 constructor
 ·rintro ⟨l,hl,rfl⟩
  rw [List.mem_mergeSort,List.mem_map] at hl
  obtain ⟨b,hb,rfl⟩:=hl
  rwa [zhr]
 ·intro h
  exact ⟨bl x,List.mem_mergeSort.2 (List.mem_map_of_mem h),zhr x⟩
theorem zfm (ss:List ByteArray) (x:ByteArray):x∈setS ss↔x∈ss:=by
 unfold setS
 rw [List.mem_map]
 constructor
 ·rintro ⟨l,hl,rfl⟩
  rw [(zd3 zgk ziy ziz _).1,List.mem_map] at hl
  obtain ⟨b,hb,rfl⟩:=hl
  rwa [zhr]
 ·intro h
  exact ⟨bl x,((zd3 zgk ziy ziz _).1 _).2 (List.mem_map_of_mem h),zhr x⟩
theorem znt (l:List (List UInt8)):(l.map ofL).map Value.string=l.map encStr:=by rw [List.map_map];rfl
theorem map_bl (ss:List ByteArray):ss.map Value.string=(ss.map bl).map encStr:=Go.Joins.strings_enc ss
def zcu (w:World) (v:Value) (ss:List ByteArray):Prop:=
 ∃ p cap,v=.slice p ss.length cap∧(ss≠[]→∃ g off,p=some ⟨g,off,none⟩∧∀ j,j < ss.length→w.cell? ⟨g,off+j,none⟩=some (.string (ss.getD j ByteArray.empty)))
theorem zcu.below {w w':World} {v:Value} {zs:List ByteArray} (h:zcu w v zs) (b:Below w.heap.size w w'):zcu w' v zs:=by
 obtain ⟨p,cap,rfl,h⟩:=h
 refine ⟨p,cap,rfl,fun hne=>?_⟩
 obtain ⟨g,off,rfl,hc⟩:=h hne
 refine ⟨g,off,rfl,fun j hj=>?_⟩
 rw [b.cell (World.block_lt_of_cell? w _ (hc j hj)),hc j hj]
theorem zhs {w:World} {base:Nat} {e:TypeId} {v:Value} {zs:List ByteArray} (h:w.ownsRow base e 1 v zs.length (zs.map Value.string)):zcu w v zs:=by
 rcases h.2 with ⟨rfl,h0⟩ | ⟨g,cap,cur,rfl,hb,hg,h1,h2,h3,h4⟩
 ·obtain rfl:=List.length_eq_zero_iff.1 h0
  exact ⟨none,0,rfl,fun h=>absurd rfl h⟩
 ·refine ⟨_,cap,rfl,fun _=>⟨g,0,rfl,fun j hj=>?_⟩⟩
  rw [Nat.zero_add,h.cellAt j (by omega)]
  simp [hj]
theorem znu (v:Value) (zs:List ByteArray) (w:World) (h:zcu w v zs) (hn:zs.length≤2097152):
 Calls Tryz.prog 89 #[v] w fun e w'=>∃ v',e=.returned v'∧w'.ownsRow w.heap.size 9 1 v' zs.length (zs.map Value.string)∧Below w.heap.size w w':=by
 obtain ⟨p,cap,rfl,h⟩:=h
 cases p with
 | none=>
   have:zs=[]:=by
    cases zs with
    | nil=>rfl
    | cons z l=>obtain ⟨g,off,e,_⟩:=h (by simp);cases e
   subst this
   refine (AnyG.slices_Clone_string_nil Tryz.cloneS 0 cap w).mono ?_
   rintro e w' ⟨rfl,rfl⟩
   exact ⟨_,rfl,World.ownsRow_nil _ _ _ _,Below.refl _ _⟩
 | some a=>
   by_cases h0:zs=[]
   ·subst h0
    refine (AnyG.slices_Clone_string_zero Tryz.cloneS a cap w).mono ?_
    rintro e w' ⟨v',rfl,ho,_,hb⟩
    exact ⟨v',rfl,ho,hb⟩
   ·obtain ⟨g,off,e,hc⟩:=h h0
    cases e
    refine (AnyG.slices_Clone_string Tryz.cloneS g off zs.length cap zs w (Nat.le_refl _) (by omega) hc).mono ?_
    rintro e w' ⟨v',rfl,ho,_,hb⟩
    rw [List.take_length] at ho
    exact ⟨v',rfl,ho,hb⟩
theorem zi0 (v:Value) (zs:List ByteArray) (base:Nat) (w:World) (h:w.ownsRow base 9 1 v zs.length (zs.map Value.string)) (hn:zs.length≤2097152):
 Calls Tryz.prog 90 #[v] w fun e w'=>e=.returned (.tuple #[])∧w'.ownsRow base 9 1 v zs.length ((sortS zs).map Value.string)∧w.grownBy w' v.ownBlock:=by
 rcases h.2 with ⟨rfl,h0⟩ | ⟨g,cap,cur,rfl,hb,hg,h1,h2,h3,h4⟩
 ·obtain rfl:=List.length_eq_zero_iff.1 h0
  refine (AnyM.slices_Sort_string_none Tryz.sortS none 0 w).mono ?_
  rintro e w' ⟨rfl,rfl⟩
  exact ⟨rfl,by simpa [sortS] using h,zcl _ _⟩
 ·by_cases h0:zs=[]
  ·subst h0
   refine (AnyM.slices_Sort_string_none Tryz.sortS (some ⟨g,0,none⟩) cap w).mono ?_
   rintro e w' ⟨rfl,rfl⟩
   exact ⟨rfl,by simpa [sortS] using h,zcl _ _⟩
  ·have hl:(zs.map bl).length=zs.length:=by simp
   have hH:Go.Sort.Holds encStr w g 0 (zs.map bl).toArray:=holds_of_block hg (by rw [hl,← map_bl];simpa using h4)
   have c:=AnyM.slices_Sort_string Tryz.sortS g 0 cap (zs.map bl) w hH (zaa hg) (by omega)
   rw [hl] at c
   refine c.mono ?_
   rintro e w' ⟨rfl,n,os,rfl⟩
   refine ⟨rfl,?_,grownBy_sorted _⟩
   have r:=ownsRow_sorted (n:=n) (os:=os) (ss:=zs.map bl) (ts:=(zs.map bl).mergeSort leB) (by simp) hb hg (by rw [hl];exact h1) h2 h3
   rw [hl] at r
   unfold sortS
   rw [znt]
   exact r
theorem zp0 (v:Value) (zs:List (List UInt8)) (base:Nat) (w:World) (h:w.ownsRow base 9 1 v zs.length (zs.map encStr)) (hn:zs.length≤2097152):
 Calls Tryz.prog 91 #[v] w fun e w'=>∃ v',e=.returned v'∧w'.ownsRow base 9 1 v' (Lib.compact zs).length ((Lib.compact zs).map encStr)∧w.grownBy w' v.ownBlock:=by
 have empty:∀ (p:Option Addr) (cap:Nat),Calls Tryz.prog 91 #[.slice p 0 cap] w fun e w'=>e=.returned (.slice p 0 cap)∧w'=w:=fun p cap=>AnyG.slices_Compact_string_empty Tryz.compS p cap w
 rcases h.2 with ⟨rfl,h0⟩ | ⟨g,cap,cur,rfl,hb,hg,h1,h2,h3,h4⟩
 ·obtain rfl:=List.length_eq_zero_iff.1 h0
  refine (empty none 0).mono ?_
  rintro e w' ⟨rfl,rfl⟩
  exact ⟨_,rfl,by simpa [Lib.compact,Lib.compactUpTo] using h,zcl _ _⟩
 ·by_cases h0:zs=[]
  ·subst h0
   refine (empty _ cap).mono ?_
   rintro e w' ⟨rfl,rfl⟩
   exact ⟨_,rfl,by simpa [Lib.compact,Lib.compactUpTo] using h,zcl _ _⟩
  ·have hH:Go.Sort.Holds encStr w g 0 zs.toArray:=holds_of_block hg (by simpa using h4)
   have hl:=(zec zs).length_le
   refine (AnyG.slices_Compact_string Tryz.compS g 0 cap zs w hH (by omega) h1).mono ?_
   rintro e w' ⟨rfl,q,rfl⟩
   have hts:(Lib.compact zs++List.replicate (zs.length - (Lib.compact zs).length) []).length=zs.length:=by simp;omega
   obtain ⟨r1,r2⟩:=zsf (q:=q) encStr (Lib.compact zs++List.replicate (zs.length - (Lib.compact zs).length) []) (m:=(Lib.compact zs).length) (by simp) hb hg (by rw [hts];exact h1) h2 h3
   rw [List.take_left] at r1
   exact ⟨_,rfl,r1,r2⟩
set_option maxHeartbeats 1600000 in
set_option maxRecDepth 20000 in
theorem zht (v:Value) (zs:List ByteArray) (w:World) (h:zcu w v zs) (hn:zs.length≤2097152):
 Calls Tryz.prog 53 #[v] w fun e w'=>∃ v',e=.returned v'∧w'.ownsRow w.heap.size 9 1 v' (setS zs).length ((setS zs).map Value.string)∧Below w.heap.size w w':=by
 have c1:=znu v zs w h hn
 have HC:=Lib.hid c1
 have HS:=Lib.hid (fun v' w' h=>zi0 v' zs w.heap.size w' h hn)
 have HD:=Lib.hid (fun v' w' h=>zp0 v' ((zs.map bl).mergeSort leB) w.heap.size w' h (by simpa using hn))
 have e1:((zs.map bl).mergeSort leB).length=zs.length:=by simp
 have e2:((zs.map bl).mergeSort leB).map encStr=(sortS zs).map Value.string:=by unfold sortS;rw [znt]
 have e3:(setS zs).length=(Lib.compact ((zs.map bl).mergeSort leB)).length:=by simp [setS,setL]
 have e4:(setS zs).map Value.string=(Lib.compact ((zs.map bl).mergeSort leB)).map encStr:=by unfold setS;rw [znt];rfl
 rw [e3,e4]
 have HE:=Lib.hid (And.intro e1 e2)
 clear c1 h e1 e2 e3 e4
 go_enter Tryz.func53,Tryz.ntmps53
 go_wp2_with (first
  |(go_at_call 89;(with_reducible refine HC.out.mono ?_);rintro e w1 ⟨v1,rfl,ho1,hb1⟩)
  |(go_at_call 90;(with_reducible refine (HS.out v1 w1 ho1).mono ?_);rintro e w2 ⟨rfl,ho2,hg2⟩)
  |(go_at_call 91;(with_reducible refine (HD.out v1 w2 (by rw [HE.out.1,HE.out.2];exact ho2)).mono ?_);rintro e w3 ⟨v3,rfl,ho3,hg3⟩))
 go_ret
 exact ⟨v3,rfl,ho3,(hb1.grown hg2 hb1.size (zov ho1)).grown hg3 (Nat.le_trans hb1.size hg2.size) (zov ho2)⟩
theorem zvb (zs:List ByteArray):(setS zs).length=zs.length↔(zs.map bl).Nodup:=by
 have:=zoq zgk ziy ziz (zs.map bl)
 simpa [setS] using this
set_option maxHeartbeats 1600000 in
set_option maxRecDepth 20000 in
theorem zmc (v:Value) (zs:List ByteArray) (w:World) (h:zcu w v zs) (hn:zs.length≤2097152):
 Calls Tryz.prog 117 #[v] w fun e w'=>e=.returned (.bool (decide (zs.map bl).Nodup))∧Below w.heap.size w w':=by
 have c1:=zht v zs w h hn
 obtain ⟨p,cap,rfl,_⟩:=h
 have hd:decide ((setS zs).length=zs.length)=decide (zs.map bl).Nodup:=decide_eq_decide.2 (zvb zs)
 obtain ⟨b,hb⟩:∃ b:Bool,b=decide (zs.map bl).Nodup:=⟨_,rfl⟩
 have hlz:(setS zs).length≤zs.length:=by
  have:=zfi (le:=leB) (zs.map bl)
  simpa [setS] using this
 rw [← hb] at hd ⊢
 obtain ⟨n,hnz⟩:∃ n,n=zs.length:=⟨_,rfl⟩
 obtain ⟨m,hms⟩:∃ m,m=(setS zs).length:=⟨_,rfl⟩
 rw [← hnz,← hms] at hd hlz
 rw [← hnz] at hn
 rw [← hnz,← hms] at c1
 have HC:=Lib.hid c1
 rw [← hnz]
 clear c1 hb hnz hms
 go_enter Tryz.func117,Tryz.ntmps117
 go_wp2_with (first
  |(go_at_call 53;(with_reducible refine HC.out.mono ?_);rintro e w1 ⟨v1,rfl,ho1,hb1⟩;obtain ⟨p1,c1,rfl⟩:=zbc ho1))
 go_ret
 refine ⟨?_,hb1⟩
 rw [← hd]
 by_cases e:m=n
 ·simp [e]
 ·simp [e]
  omega
end Go.Proofs.YtcfmenkigolnoaaGreatDoor

/- GE -/
namespace Go.Proofs.YtcfmenkigolnoaaGreatDoor
open Go.RowKit
structure Elem (α:Type) where
 k:Nat
 rel:World→(Nat→Prop)→List Value→α→Prop
 len:∀ {w P xs a},rel w P xs a→xs.length=k
 one:∀ {w P xs a},rel w P xs a→∀ u∈xs,u.oneCell'=true
 stays:∀ {w w' P P' xs a},zc9 P P' w w'→rel w P xs a→rel w' P' xs a
section
variable {α:Type} {E:Elem α} {w w':World} {P P':Nat→Prop}
def RowE (E:Elem α) (w:World) (P:Nat→Prop):List Value→List α→Prop
 | xs,[]=>xs=[]
 | xs,a::l=>∃ c ys,xs=c++ys∧E.rel w P c a∧RowE E w P ys l
def zak (E:Elem α) (w:World) (P:Nat→Prop) (v:Value) (l:List α):Prop:=
 ∃ p cap,v=.slice p l.length cap∧(l≠[]→∃ g off xs,p=some ⟨g,off,none⟩∧P g∧w.rangeAt g off xs∧RowE E w P xs l)
theorem RowE.nil:RowE E w P [] []:=by unfold RowE;rfl
theorem RowE.append:{xs ys:List Value}→(l r:List α)→RowE E w P xs l→RowE E w P ys r→RowE E w P (xs++ys) (l++r)
 | _,_,[],_,h,g=>by
   unfold RowE at h
   subst h
   exact g
 | _,_,a::l,r,h,g=>by
   unfold RowE at h
   obtain ⟨c,zs,rfl,hc,hr⟩:=h
   show RowE E w P _ (a::(l++r))
   unfold RowE
   exact ⟨c,_,List.append_assoc _ _ _,hc,RowE.append l r hr g⟩
theorem RowE.single {c:List Value} {a:α} (h:E.rel w P c a):RowE E w P c [a]:=by
 unfold RowE
 exact ⟨c,[],(List.append_nil c).symm,h,RowE.nil⟩
theorem RowE.len:{xs:List Value}→(l:List α)→RowE E w P xs l→xs.length=l.length*E.k
 | _,[],h=>by
   unfold RowE at h
   subst h
   simp
 | _,a::l,h=>by
   unfold RowE at h
   obtain ⟨c,zs,rfl,hc,hr⟩:=h
   rw [List.length_append,E.len hc,RowE.len l hr,List.length_cons,Nat.add_mul]
   omega
theorem RowE.one:{xs:List Value}→(l:List α)→RowE E w P xs l→∀ u∈xs,u.oneCell'=true
 | _,[],h,u,hu=>by
   unfold RowE at h
   subst h
   cases hu
 | _,a::l,h,u,hu=>by
   unfold RowE at h
   obtain ⟨c,zs,rfl,hc,hr⟩:=h
   rcases List.mem_append.1 hu with hu | hu
   ·exact E.one hc u hu
   ·exact RowE.one l hr u hu
theorem RowE.stays (s:zc9 P P' w w'):{xs:List Value}→(l:List α)→RowE E w P xs l→RowE E w' P' xs l
 | _,[],h=>by unfold RowE at h ⊢;exact h
 | _,a::l,h=>by
   unfold RowE at h ⊢
   obtain ⟨c,zs,rfl,hc,hr⟩:=h
   exact ⟨c,zs,rfl,E.stays s hc,RowE.stays s l hr⟩
theorem RowE.at_:{xs:List Value}→(l:List α)→RowE E w P xs l→∀ i (hi:i < l.length),∃ c,E.rel w P c l[i]∧∀ j u,c[j]?=some u→xs[i*E.k+j]?=some u
 | _,[],_,i,hi=>absurd hi (by simp)
 | _,a::l,h,i,hi=>by
   unfold RowE at h
   obtain ⟨c,zs,rfl,hc,hr⟩:=h
   cases i with
   | zero=>
     refine ⟨c,hc,fun j u hu=>?_⟩
     have hj:j < c.length:=(List.getElem?_eq_some_iff.1 hu).1
     rw [Nat.zero_mul,Nat.zero_add,List.getElem?_append_left hj,hu]
   | succ i=>
     obtain ⟨d,hd,hx⟩:=RowE.at_ l hr i (by simpa using hi)
     refine ⟨d,hd,fun j u hu=>?_⟩
     have hk:=E.len hc
     rw [List.getElem?_append_right (by rw [hk,Nat.add_mul];omega),hk,show (i+1)*E.k+j - E.k=i*E.k+j by rw [Nat.add_mul];omega]
     exact hx j u hu
theorem zak.stays (s:zc9 P P' w w') {v:Value} {l:List α} (h:zak E w P v l):zak E w' P' v l:=by
 obtain ⟨p,cap,rfl,h⟩:=h
 refine ⟨p,cap,rfl,fun hne=>?_⟩
 obtain ⟨g,off,xs,rfl,hg,hr,he⟩:=h hne
 exact ⟨g,off,xs,rfl,(s g hg).1,fun j v hv=>s.cell hg _ (hr j v hv),he.stays s⟩
theorem zak.at_ {v:Value} {l:List α} (h:zak E w P v l) (i:Nat) (hi:i < l.length):∃ g off cap c,v=.slice (some ⟨g,off,none⟩) l.length cap∧P g∧E.rel w P c l[i]∧w.rangeAt g (off+i*E.k) c:=by
 obtain ⟨p,cap,rfl,h⟩:=h
 obtain ⟨g,off,xs,rfl,hg,hr,he⟩:=h (by intro e;subst e;simp at hi)
 obtain ⟨c,hc,hx⟩:=he.at_ l i hi
 refine ⟨g,off,cap,c,rfl,hg,hc,fun j u hu=>?_⟩
 rw [Nat.add_assoc]
 exact hr _ _ (hx j u hu)
theorem zak.slice {v:Value} {l:List α} (h:zak E w P v l):∃ p cap,v=.slice p l.length cap:=by
 obtain ⟨p,cap,rfl,_⟩:=h
 exact ⟨p,cap,rfl⟩
theorem zak.nil (p:Option Addr) (cap:Nat):zak E w P (.slice p 0 cap) []:=⟨p,cap,rfl,fun h=>absurd rfl h⟩
theorem zbm {base:Nat} {e:TypeId} {v:Value} {xs:List Value} {l:List α} (h:w.ownsRow base e E.k v l.length xs) (c:RowE E w P xs l) (s:∀ g,P g→P' g) (hP:∀ g,v.ownBlock=some g→P' g):zak E w P' v l:=by
 rcases h.2 with ⟨rfl,hn⟩ | ⟨g,cap,cur,rfl,hb,hg,h1,h2,h3,h4⟩
 ·obtain rfl:=List.length_eq_zero_iff.1 hn
  exact zak.nil _ _
 ·refine ⟨_,cap,rfl,fun _=>⟨g,0,xs,rfl,hP g rfl,fun j u hu=>?_,c.stays (fun g hg=>⟨s g hg,rfl⟩) l⟩⟩
  have hj:j < l.length*E.k:=by
   have:=(List.getElem?_eq_some_iff.1 hu).1
   rw [h.1] at this
   exact this
  rw [Nat.zero_add,h.cellAt j hj,hu]
end
def New (w w':World):Nat→Prop:=fun g=>w.heap.size≤g∧g < w'.heap.size
def Old (w:World):Nat→Prop:=fun g=>g < w.heap.size
theorem zad {w w':World} (b:Below w.heap.size w w'):zc9 (Old w) (Old w') w w':=fun g hg=>⟨Nat.lt_of_lt_of_le hg b.size,b.block g hg⟩
theorem zbd {P:Program} {ops:Array Oper} {rest:List Oper} {o:Oper} {a:Act} {w:World} {Q:Exit→Act→World→Prop} (hg:o.guard=none) (t e:TypeId) (x:Operand) (ho:o.op=.buildSlice t 1 #[(0,x)])
 (v:Value) (cs:List Value) (hx:a.eval x=v) (hv:v.cells=cs.toArray) (ie:TypeInfo) (z:Value) (k:Nat) (hk:cs.length=k) (k0:0 < k) (k1:k≤1000)
 (hu:P.underlying t=some (.slice e)) (hie:P.info? e=some ie) (hz:ie.zero=some z) (hsz:ie.size=k)
 (h:wpList P ops Q rest (a.put o.dst (.slice (some ⟨w.heap.size,0,none⟩) 1 1)) (w.alloc (.cells cs.toArray e))):wpList P ops Q (o::rest) a w:=by
 refine wpList_buildSlice hg t e 1 _ ho cs.toArray ie z hu hie hz (by rw [hsz];omega) (by rw [hsz];omega) ?_ h
 have f:=Great.fill_whole k0 [v] ((Array.range (1*ie.size)).map (z.cells[· % z.cells.size]!)) (fun u hu=>by simp at hu;subst hu;rw [hv];simpa using hk) (by simp [hsz])
 rw [hsz] at f ⊢
 simpa [hx,hv] using f
theorem zbp (w:World) (cs:List Value) (t:TypeId):∀ j u,cs[j]?=some u→(w.alloc (.cells cs.toArray t)).cell? ((⟨w.heap.size,0,none⟩:Addr).add j)=some u:=by
 intro j u hj
 rw [Addr.add_mid,Nat.zero_add]
 exact zac (zae w _ rfl) j (by simpa using hj)
end Go.Proofs.YtcfmenkigolnoaaGreatDoor
