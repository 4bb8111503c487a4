/- Texts of one kind, one behind the other: each says ahead of itself what it shows. -/
import Derived.Test.YteclpnfckjfibaaGreatDoorDad
import Derived.Maps.AppendAt
import Derived.Shelf.Strconv.Clone
import Derived.WalkKit
import Derived.OwnWalk
import Derived.Deep.LoopGhost
import Derived.Deep.MidRow
import Derived.Great.BuildSlice
import Derived.Shelf.Spec.SlicesGrow
/- LA -/
namespace Go.Proofs.YteclpnfckjfibaaGreatDoor
open Go.RowKit
mutual
def zbb (w:World) (P:Nat→Prop) (g off:Nat):Val→Prop
 | .mk k b n t x l=>w.cell? ⟨g,off,none⟩=some (.int .i64 k)∧w.cell? ⟨g,off+1,none⟩=some (.bool b)∧w.cell? ⟨g,off+2,none⟩=some (.int .i64 n)∧
   w.cell? ⟨g,off+3,none⟩=some (.string t)∧w.cell? ⟨g,off+4,none⟩=some (.string x)∧Fine n t x l.length∧
   ∃ L,w.cell? ⟨g,off+5,none⟩=some L∧zbe w P L l
def zbe (w:World) (P:Nat→Prop) (L:Value):List Val→Prop
 | []=>∃ p cap,L=.slice p 0 cap
 | v::r=>∃ g off cap,L=.slice (some ⟨g,off,none⟩) (r.length+1) cap∧P g∧zbb w P g off v∧zb5 w P g (off+6) r
def zb5 (w:World) (P:Nat→Prop) (g off:Nat):List Val→Prop
 | []=>True
 | v::r=>zbb w P g off v∧zb5 w P g (off+6) r
end
mutual
theorem zbb.held {w:World} {P:Nat→Prop} {g off:Nat}:(v:Val)→zbb w P g off v→za7 w g off v
 | .mk k b n t x l,h=>by
   unfold zbb at h
   unfold za7
   obtain ⟨h0,h1,h2,h3,h4,hf,L,h5,hl⟩:=h
   exact ⟨h0,h1,h2,h3,h4,hf,L,h5,zbe.held l hl⟩
theorem zbe.held {w:World} {P:Nat→Prop} {L:Value}:(l:List Val)→zbe w P L l→Held w L l
 | [],h=>by
   unfold zbe at h
   unfold Held
   exact h
 | v::r,h=>by
   unfold zbe at h
   unfold Held
   obtain ⟨g,off,cap,e,_,hv,hr⟩:=h
   exact ⟨g,off,cap,e,zbb.held v hv,zb5.held r hr⟩
theorem zb5.held {w:World} {P:Nat→Prop} {g off:Nat}:(l:List Val)→zb5 w P g off l→zbp w g off l
 | [],_=>by unfold zbp;trivial
 | v::r,h=>by
   unfold zb5 at h
   unfold zbp
   exact ⟨zbb.held v h.1,zb5.held r h.2⟩
end
def zel (P P':Nat→Prop) (w w':World):Prop:=∀ g,P g→P' g∧w'.heap[g]?=w.heap[g]?
theorem zel.cell {P P':Nat→Prop} {w w':World} (h:zel P P' w w') {g:Nat} (hg:P g) (o:Nat) {v:Value} (hv:w.cell? ⟨g,o,none⟩=some v):w'.cell? ⟨g,o,none⟩=some v:=
 (World.cell?_of_block (w:=w) (a:=⟨g,o,none⟩) (h g hg).2).trans hv
mutual
theorem zbb.stays {w w':World} {P P':Nat→Prop} {g off:Nat} (s:zel P P' w w') (hg:P g):(v:Val)→zbb w P g off v→zbb w' P' g off v
 | .mk k b n t x l,h=>by
   unfold zbb at h ⊢
   obtain ⟨h0,h1,h2,h3,h4,hf,L,h5,hl⟩:=h
   exact ⟨s.cell hg _ h0,s.cell hg _ h1,s.cell hg _ h2,s.cell hg _ h3,s.cell hg _ h4,hf,L,s.cell hg _ h5,zbe.stays s l hl⟩
theorem zbe.stays {w w':World} {P P':Nat→Prop} {L:Value} (s:zel P P' w w'):(l:List Val)→zbe w P L l→zbe w' P' L l
 | [],h=>by
   unfold zbe at h ⊢
   exact h
 | v::r,h=>by
   unfold zbe at h ⊢
   obtain ⟨g,off,cap,e,hg,hv,hr⟩:=h
   exact ⟨g,off,cap,e,(s g hg).1,zbb.stays s hg v hv,zb5.stays s hg r hr⟩
theorem zb5.stays {w w':World} {P P':Nat→Prop} {g off:Nat} (s:zel P P' w w') (hg:P g):(l:List Val)→zb5 w P g off l→zb5 w' P' g off l
 | [],_=>by unfold zb5;trivial
 | v::r,h=>by
   unfold zb5 at h ⊢
   exact ⟨zbb.stays s hg v h.1,zb5.stays s hg r h.2⟩
end
def zee (w:World) (P:Nat→Prop):List Value→List Val→Prop
 | xs,[]=>xs=[]
 | xs,.mk k b n t x q::r=>∃ L ys,xs=.int .i64 k::.bool b::.int .i64 n::.string t::.string x::L::ys∧Fine n t x q.length∧zbe w P L q∧zee w P ys r
theorem zee.stays {w w':World} {P P':Nat→Prop} (s:zel P P' w w'):{xs:List Value}→(l:List Val)→zee w P xs l→zee w' P' xs l
 | _,[],h=>by unfold zee at h ⊢;exact h
 | _,.mk k b n t x q::l,h=>by
   unfold zee at h ⊢
   obtain ⟨L,zs,rfl,hf,hq,hr⟩:=h
   exact ⟨L,zs,rfl,hf,zbe.stays s q hq,zee.stays s l hr⟩
theorem zee.one {w:World} {P:Nat→Prop} {k:Int} {b:Bool} {n:Int} {t x:ByteArray} {q:List Val} {L:Value} (hf:Fine n t x q.length) (hq:zbe w P L q):zee w P [.int .i64 k,.bool b,.int .i64 n,.string t,.string x,L] [.mk k b n t x q]:=by
 unfold zee
 exact ⟨L,[],rfl,hf,hq,by unfold zee;rfl⟩
theorem zee.holds {w:World} {P:Nat→Prop} {g:Nat}:{xs:List Value}→(l:List Val)→(off:Nat)→zee w P xs l→(∀ (j:Nat) u,xs[j]?=some u→w.cell? ⟨g,off+j,none⟩=some u)→zb5 w P g off l
 | _,[],_,_,_=>by unfold zb5;trivial
 | _,.mk k b n t x q::l,off,h,hc=>by
   unfold zee at h
   obtain ⟨L,zs,rfl,hf,hq,hr⟩:=h
   unfold zb5 zbb
   refine ⟨⟨hc 0 _ rfl,hc 1 _ rfl,hc 2 _ rfl,hc 3 _ rfl,hc 4 _ rfl,hf,L,hc 5 _ rfl,hq⟩,zee.holds l (off+6) hr fun j u hj=>?_⟩
   have:=hc (j+6) u hj
   rw [show off+6+j=off+(j+6) by omega]
   exact this
end Go.Proofs.YteclpnfckjfibaaGreatDoor

/- LB -/
namespace Go.Proofs
open Go.Shelf
def Tryz.laysM316_ren:Go.Shelf.Ren:=⟨fun | 316=>168 | n=>n,fun | 9=>9 | 3=>3 | 4=>4 | 37=>101 | 0=>0 | 127=>218 | 5=>5 | n=>n,fun | n=>n⟩
theorem Tryz.laysM316:Go.Proofs.LaysM.n316 Tryz.prog Tryz.laysM316_ren:={
 mixed:=by kernel_rfl
 f316:=Tryz.func168.trans (congrArg some (by kernel_rfl))
 t0:=Tryz.underlying0
 a0:=Tryz.isAgg0
 z0:=Tryz.sizeOf0
 v0:=Tryz.zeroValue0
 t3:=Tryz.underlying3
 a3:=Tryz.isAgg3
 z3:=Tryz.sizeOf3
 v3:=Tryz.zeroValue3
 t4:=Tryz.underlying4
 a4:=Tryz.isAgg4
 z4:=Tryz.sizeOf4
 v4:=Tryz.zeroValue4
 t9:=Tryz.underlying9
 a9:=Tryz.isAgg9
 z9:=Tryz.sizeOf9
 v9:=Tryz.zeroValue9
 t37:=Tryz.underlying101
 a37:=Tryz.isAgg101
 z37:=Tryz.sizeOf101
 v37:=Tryz.zeroValue101
 t127:=Tryz.underlying218
 a127:=Tryz.isAgg218
 z127:=Tryz.sizeOf218
 v127:=Tryz.zeroValue218
 t5:=Tryz.underlying5
 a5:=Tryz.isAgg5
 z5:=Tryz.sizeOf5
 v5:=Tryz.zeroValue5
 i0:=by kernel_rfl
 i3:=by kernel_rfl
 i4:=by kernel_rfl
 i5:=by kernel_rfl
 i9:=by kernel_rfl
 i37:=by kernel_rfl
 i127:=by kernel_rfl }
namespace YteclpnfckjfibaaGreatDoor
open Go.RowKit
theorem slClone (s:ByteArray) (w:World) (h2:s.size≤281474976710656):Calls Tryz.prog 168 #[.string s] w fun e w'=>e=.returned (.string s)∧Below w.heap.size w w':=Any.stringslite_Clone Tryz.laysM316 s w h2
theorem zsw (s:ByteArray) (w:World) (h2:s.size≤281474976710656):
 Calls Tryz.prog 111 #[.string s] w fun e w'=>e=.returned (.string s)∧Below w.heap.size w w':=by
 go_enter Tryz.func111,Tryz.ntmps111
 go_wp2_with (go_at_call 168;(with_reducible refine (slClone s _ h2).mono ?_);rintro e w' ⟨rfl,hb⟩)
 go_ret
 exact ⟨rfl,hb⟩
end YteclpnfckjfibaaGreatDoor
end Go.Proofs

/- LC -/
namespace Go.Proofs.YteclpnfckjfibaaGreatDoor
open Go.RowKit
structure Acc (w:World) (l:List Val) (A:Value) (wr:World):Prop where
 own:∃ xs,wr.ownsRow w.heap.size 48 6 A l.length xs∧zee wr (fun g=>w.heap.size≤g∧g < wr.heap.size∧A.ownBlock≠some g) xs l
 bel:Below w.heap.size w wr
theorem za6 {w w':World} {base:Nat} {e:TypeId} {size:Nat} {v:Value} {n:Nat} {xs:List Value} (h:w.ownsRow base e size v n xs) (b:Below w.heap.size w w'):w'.ownsRow base e size v n xs:=by
 refine ⟨h.1,?_⟩
 rcases h.2 with h0 | ⟨g,cap,cur,e1,h1,h2,h3⟩
 ·exact .inl h0
 ·exact .inr ⟨g,cap,cur,e1,h1,(b.block g (zaa h2)).trans h2,h3⟩
end Go.Proofs.YteclpnfckjfibaaGreatDoor

/- HA -/
namespace Go.Proofs.YteclpnfckjfibaaGreatDoor
open Go.RowKit
theorem zhy {fn:Func} {p:Tmp} (h:fn.results=#[.cell p 48]) (tmps:Array Value) {w:World} {g:Nat} {k:Int} {b:Bool} {n:Int} {t x:ByteArray} {pp:Option Addr} {len cap:Nat}
 (hp:tmps.getD p undef=.pointer (some ⟨g,0,none⟩)) (hg:Six w g k b n t x pp len cap):(results fn tmps).run Tryz.prog w=.ok (.agg #[.int .i64 k,.bool b,.int .i64 n,.string t,.string x,.slice pp len cap]) w:=by
 have hp':tmps[p]?.getD undef=.pointer (some ⟨g,0,none⟩):=by simpa using hp
 have hl:=run_loadVar_row (P:=Tryz.prog) w g 48 48 _ (0,0) _ hg Tryz.underlying48 rfl zmb
 simp [results,h,hp',asAddr,hl]
end Go.Proofs.YteclpnfckjfibaaGreatDoor

/- HB -/
namespace Go.Proofs.YteclpnfckjfibaaGreatDoor
open Go.RowKit
theorem zvs {w w':World} {g:Nat} (h:w'.heap[g]?=w.heap[g]?) {o:Nat} {cs:List Value} (r:w.rangeAt g o cs):w'.rangeAt g o cs:=fun j v hv=>(World.cell?_of_block (a:=⟨g,o+j,none⟩) h).trans (r j v hv)
theorem zvt {w w':World} {g:Nat} (h:w'.heap[g]?=w.heap[g]?) {o n:Nat} (r:w.there g o n):w'.there g o n:=fun j hj=>
 ⟨by rw [World.cell?_of_block (a:=⟨g,o+j,none⟩) h];exact (r j hj).1,by rw [World.frozen?_of_block (a:=⟨g,o+j,none⟩) h];exact (r j hj).2⟩
mutual
def OneT (w:World) (g off s e:Nat):Val→Prop
 | .mk k b n t x l=>∃ L,w.rangeAt g off [.int .i64 k,.bool b,.int .i64 n,.string t,.string x,L]∧w.there g off 6∧Fine n t x l.length∧zhz w s e L l
def zhz (w:World) (lo hi:Nat) (L:Value):List Val→Prop
 | []=>∃ p cap,L=.slice p 0 cap
 | v::r=>∃ g off cap s e,L=.slice (some ⟨g,off,none⟩) (r.length+1) cap∧lo≤g∧g < hi∧lo≤s∧s≤e∧e≤hi∧¬ (s≤g∧g < e)∧OneT w g off s e v∧zea w g (off+6) e hi r
def zea (w:World) (g off lo hi:Nat):List Val→Prop
 | []=>True
 | v::r=>∃ s e,lo≤s∧s≤e∧e≤hi∧¬ (s≤g∧g < e)∧OneT w g off s e v∧zea w g (off+6) e hi r
end
mutual
theorem OneT.held {w:World} {g off s e:Nat}:(v:Val)→OneT w g off s e v→za7 w g off v
 | .mk k b n t x l,h=>by
   unfold OneT at h
   unfold za7
   obtain ⟨L,r,_,hf,hl⟩:=h
   exact ⟨r 0 _ rfl,r 1 _ rfl,r 2 _ rfl,r 3 _ rfl,r 4 _ rfl,hf,L,r 5 _ rfl,zhz.held l hl⟩
theorem zhz.held {w:World} {lo hi:Nat} {L:Value}:(l:List Val)→zhz w lo hi L l→Held w L l
 | [],h=>by
   unfold zhz at h
   unfold Held
   exact h
 | v::r,h=>by
   unfold zhz at h
   unfold Held
   obtain ⟨g,off,cap,s,e,rfl,_,_,_,_,_,_,hv,hr⟩:=h
   exact ⟨g,off,cap,rfl,OneT.held v hv,zea.held r hr⟩
theorem zea.held {w:World} {g off lo hi:Nat}:(l:List Val)→zea w g off lo hi l→zbp w g off l
 | [],_=>by unfold zbp;trivial
 | v::r,h=>by
   unfold zea at h
   unfold zbp
   obtain ⟨s,e,_,_,_,_,hv,hr⟩:=h
   exact ⟨OneT.held v hv,zea.held r hr⟩
end
structure Keep (w w':World) (g off lo hi:Nat):Prop where
 rng:∀ o cs,off≤o→w.rangeAt g o cs→w'.rangeAt g o cs
 thr:∀ o n,off≤o→w.there g o n→w'.there g o n
 blk:∀ i,lo≤i→i < hi→i≠g→w'.heap[i]?=w.heap[i]?
theorem Keep.more {w w':World} {g off lo hi off2 lo2 hi2:Nat} (h:Keep w w' g off lo hi) (h1:off≤off2) (h2:lo≤lo2) (h3:hi2≤hi):Keep w w' g off2 lo2 hi2:=
 ⟨fun o cs ho=>h.rng o cs (by omega),fun o n ho=>h.thr o n (by omega),fun i a b c=>h.blk i (by omega) (by omega) c⟩
theorem Keep.heap {w w':World} {g off lo hi:Nat} (hg:w'.heap[g]?=w.heap[g]?) (h:∀ i,lo≤i→i < hi→w'.heap[i]?=w.heap[i]?):Keep w w' g off lo hi:=
 ⟨fun _ _ _ r=>zvs hg r,fun _ _ _ r=>zvt hg r,fun i a b _=>h i a b⟩
mutual
theorem OneT.keep {w w':World} {g off s e:Nat} (h:Keep w w' g off s e) (hn:¬ (s≤g∧g < e)):(v:Val)→OneT w g off s e v→OneT w' g off s e v
 | .mk k b n t x l,hv=>by
   unfold OneT at hv ⊢
   obtain ⟨L,r,th,hf,hl⟩:=hv
   exact ⟨L,h.rng _ _ (Nat.le_refl _) r,h.thr _ _ (Nat.le_refl _) th,hf,zhz.stays (fun i a b=>h.blk i a b (fun q=>hn ⟨q ▸ a,q ▸ b⟩)) l hl⟩
theorem zhz.stays {w w':World} {lo hi:Nat} {L:Value} (h:∀ i,lo≤i→i < hi→w'.heap[i]?=w.heap[i]?):(l:List Val)→zhz w lo hi L l→zhz w' lo hi L l
 | [],hl=>by
   unfold zhz at hl ⊢
   exact hl
 | v::r,hl=>by
   unfold zhz at hl ⊢
   obtain ⟨g,off,cap,s,e,rfl,h1,h2,h3,h4,h5,h6,hv,hr⟩:=hl
   have k:Keep w w' g off lo hi:=Keep.heap (h g h1 h2) h
   exact ⟨g,off,cap,s,e,rfl,h1,h2,h3,h4,h5,h6,OneT.keep (k.more (Nat.le_refl _) h3 h5) h6 v hv,zea.keep (k.more (by omega) (by omega) (Nat.le_refl _)) r hr⟩
theorem zea.keep {w w':World} {g off lo hi:Nat} (h:Keep w w' g off lo hi):(l:List Val)→zea w g off lo hi l→zea w' g off lo hi l
 | [],_=>by unfold zea;trivial
 | v::r,hl=>by
   unfold zea at hl ⊢
   obtain ⟨s,e,h3,h4,h5,h6,hv,hr⟩:=hl
   exact ⟨s,e,h3,h4,h5,h6,OneT.keep (h.more (Nat.le_refl _) h3 h5) h6 v hv,zea.keep (h.more (by omega) (by omega) (Nat.le_refl _)) r hr⟩
end
theorem zea.high {w:World} {g:Nat}:(l:List Val)→(off lo hi hi2:Nat)→hi≤hi2→zea w g off lo hi l→zea w g off lo hi2 l
 | [],_,_,_,_,_,_=>by unfold zea;trivial
 | v::r,off,lo,hi,hi2,h,hl=>by
   unfold zea at hl ⊢
   obtain ⟨s,e,h3,h4,h5,h6,hv,hr⟩:=hl
   exact ⟨s,e,h3,h4,by omega,h6,hv,zea.high r _ _ _ _ h hr⟩
theorem zhz.mk {w:World} {lo hi:Nat} {g off cap:Nat} {l:List Val} (h1:lo≤g) (h2:g < hi) (h:zea w g off lo hi l):zhz w lo hi (.slice (some ⟨g,off,none⟩) l.length cap) l:=by
 cases l with
 | nil=>unfold zhz;exact ⟨_,_,rfl⟩
 | cons v r=>
   unfold zea at h
   unfold zhz
   obtain ⟨s,e,h3,h4,h5,h6,hv,hr⟩:=h
   exact ⟨g,off,cap,s,e,rfl,h1,h2,h3,h4,h5,h6,hv,hr⟩
def zdy (w:World) (own:Option Nat) (lo hi:Nat):List Value→List Val→Prop
 | xs,[]=>xs=[]
 | xs,.mk k b n t x q::r=>∃ L ys s e,xs=.int .i64 k::.bool b::.int .i64 n::.string t::.string x::L::ys∧Fine n t x q.length∧lo≤s∧s≤e∧e≤hi∧(∀ g,own=some g→¬ (s≤g∧g < e))∧zhz w s e L q∧zdy w own e hi ys r
theorem zdy.stays {w w':World} {own:Option Nat} {hi:Nat}:(l:List Val)→(lo:Nat)→{xs:List Value}→(∀ i,lo≤i→i < hi→own≠some i→w'.heap[i]?=w.heap[i]?)→zdy w own lo hi xs l→zdy w' own lo hi xs l
 | [],_,_,_,h=>by unfold zdy at h ⊢;exact h
 | .mk k b n t x q::l,lo,_,hs,h=>by
   unfold zdy at h ⊢
   obtain ⟨L,ys,s,e,rfl,hf,g1,g2,g3,g4,hq,hr⟩:=h
   exact ⟨L,ys,s,e,rfl,hf,g1,g2,g3,g4,hq.stays (fun i a b=>hs i (by omega) (by omega) (fun o=>g4 i o ⟨a,b⟩)) q,zdy.stays l e (fun i a b=>hs i (by omega) b) hr⟩
theorem zdy.high {w:World} {own:Option Nat} {hi hi2:Nat} (h2:hi≤hi2):(l:List Val)→(lo:Nat)→{xs:List Value}→zdy w own lo hi xs l→zdy w own lo hi2 xs l
 | [],_,_,h=>by unfold zdy at h ⊢;exact h
 | .mk k b n t x q::l,lo,_,h=>by
   unfold zdy at h ⊢
   obtain ⟨L,ys,s,e,rfl,hf,g1,g2,g3,g4,hq,hr⟩:=h
   exact ⟨L,ys,s,e,rfl,hf,g1,g2,by omega,g4,hq,zdy.high h2 l e hr⟩
theorem zdy.rest {w:World} {g hi:Nat}:(l:List Val)→(off lo:Nat)→{xs:List Value}→zdy w (some g) lo hi xs l→w.rangeAt g off xs→w.there g off (l.length*6)→zea w g off lo hi l
 | [],_,_,_,_,_,_=>by unfold zea;trivial
 | .mk k b n t x q::l,off,lo,_,h,hr,ht=>by
   unfold zdy at h
   obtain ⟨L,ys,s,e,rfl,hf,g1,g2,g3,g4,hq,hl⟩:=h
   unfold zea
   refine ⟨s,e,g1,g2,g3,g4 g rfl,?_,zdy.rest l (off+6) e hl (fun j v hv=>?_) (fun j hj=>?_)⟩
   ·unfold OneT
    refine ⟨L,fun j v hv=>hr j v ?_,fun j hj=>ht j (by simp only [List.length_cons];omega),hf,hq⟩
    match j,hv with
    | 0,hv=>exact hv
    | 1,hv=>exact hv
    | 2,hv=>exact hv
    | 3,hv=>exact hv
    | 4,hv=>exact hv
    | 5,hv=>exact hv
    | j+6,hv=>simp at hv
   ·have:=hr (j+6) v hv
    rwa [show off+(j+6)=off+6+j by omega] at this
   ·have:=ht (j+6) (by simp only [List.length_cons];omega)
    rwa [show off+(j+6)=off+6+j by omega] at this
end Go.Proofs.YteclpnfckjfibaaGreatDoor

/- HC -/
namespace Go.Proofs.YteclpnfckjfibaaGreatDoor
open Go.RowKit
structure AccT (w:World) (l:List Val) (A:Value) (wr:World):Prop where
 own:∃ xs hi,wr.ownsRow w.heap.size 48 6 A l.length xs∧zdy wr A.ownBlock w.heap.size hi xs l∧w.heap.size≤hi∧hi≤wr.heap.size
 bel:Below w.heap.size w wr
end Go.Proofs.YteclpnfckjfibaaGreatDoor

/- RE -/
namespace Go.Proofs.YteclpnfckjfibaaGreatDoor
open Go.RowKit
theorem zls (w:World) (r:Option Nat):w.grownBy w r:=⟨rfl,rfl,rfl,Nat.le_refl _,fun _ _ _=>rfl⟩
theorem zat {w:World} {base n size:Nat} {e:TypeId} {v:Value} {xs:List Value} (h:w.ownsRow base e size v n xs):∃ p cap,v=.slice p n cap:=by
 rcases h.2 with ⟨rfl,rfl⟩ | ⟨g,cap,cur,rfl,_⟩
 ·exact ⟨_,_,rfl⟩
 ·exact ⟨_,_,rfl⟩
theorem z3p {w:World} {base n size:Nat} {e:TypeId} {v:Value} {xs:List Value} (h:w.ownsRow base e size v n xs) (j:Nat) (hj:v.ownBlock=some j):base≤j:=(h.lt j hj).1
structure Elem (α:Type) where
 k:Nat
 rel:World→(Nat→Prop)→List Value→α→Prop
 len:∀ {w P xs a},rel w P xs a→xs.length=k
 one:∀ {w P xs a},rel w P xs a→∀ u∈xs,u.oneCell'=true
 stays:∀ {w w' P P' xs a},zel P P' w w'→rel w P xs a→rel w' P' xs a
section
variable {α:Type} {E:Elem α} {w w':World} {P P':Nat→Prop}
def RowE (E:Elem α) (w:World) (P:Nat→Prop):List Value→List α→Prop
 | xs,[]=>xs=[]
 | xs,a::l=>∃ c ys,xs=c++ys∧E.rel w P c a∧RowE E w P ys l
def zai (E:Elem α) (w:World) (P:Nat→Prop) (v:Value) (l:List α):Prop:=
 ∃ p cap,v=.slice p l.length cap∧(l≠[]→∃ g off xs,p=some ⟨g,off,none⟩∧P g∧w.rangeAt g off xs∧RowE E w P xs l)
theorem RowE.nil:RowE E w P [] []:=by unfold RowE;rfl
theorem RowE.append:{xs ys:List Value}→(l r:List α)→RowE E w P xs l→RowE E w P ys r→RowE E w P (xs++ys) (l++r)
 | _,_,[],_,h,g=>by
   unfold RowE at h
   subst h
   exact g
 | _,_,a::l,r,h,g=>by
   unfold RowE at h
   obtain ⟨c,zs,rfl,hc,hr⟩:=h
   show RowE E w P _ (a::(l++r))
   unfold RowE
   exact ⟨c,_,List.append_assoc _ _ _,hc,RowE.append l r hr g⟩
theorem RowE.single {c:List Value} {a:α} (h:E.rel w P c a):RowE E w P c [a]:=by
 unfold RowE
 exact ⟨c,[],(List.append_nil c).symm,h,RowE.nil⟩
theorem RowE.len:{xs:List Value}→(l:List α)→RowE E w P xs l→xs.length=l.length*E.k
 | _,[],h=>by
   unfold RowE at h
   subst h
   simp
 | _,a::l,h=>by
   unfold RowE at h
   obtain ⟨c,zs,rfl,hc,hr⟩:=h
   rw [List.length_append,E.len hc,RowE.len l hr,List.length_cons,Nat.add_mul]
   omega
theorem RowE.one:{xs:List Value}→(l:List α)→RowE E w P xs l→∀ u∈xs,u.oneCell'=true
 | _,[],h,u,hu=>by
   unfold RowE at h
   subst h
   cases hu
 | _,a::l,h,u,hu=>by
   unfold RowE at h
   obtain ⟨c,zs,rfl,hc,hr⟩:=h
   rcases List.mem_append.1 hu with hu | hu
   ·exact E.one hc u hu
   ·exact RowE.one l hr u hu
theorem RowE.stays (s:zel P P' w w'):{xs:List Value}→(l:List α)→RowE E w P xs l→RowE E w' P' xs l
 | _,[],h=>by unfold RowE at h ⊢;exact h
 | _,a::l,h=>by
   unfold RowE at h ⊢
   obtain ⟨c,zs,rfl,hc,hr⟩:=h
   exact ⟨c,zs,rfl,E.stays s hc,RowE.stays s l hr⟩
theorem RowE.at_:{xs:List Value}→(l:List α)→RowE E w P xs l→∀ i (hi:i < l.length),∃ c,E.rel w P c l[i]∧∀ j u,c[j]?=some u→xs[i*E.k+j]?=some u
 | _,[],_,i,hi=>absurd hi (by simp)
 | _,a::l,h,i,hi=>by
   unfold RowE at h
   obtain ⟨c,zs,rfl,hc,hr⟩:=h
   cases i with
   | zero=>
     refine ⟨c,hc,fun j u hu=>?_⟩
     have hj:j < c.length:=(List.getElem?_eq_some_iff.1 hu).1
     rw [Nat.zero_mul,Nat.zero_add,List.getElem?_append_left hj,hu]
   | succ i=>
     obtain ⟨d,hd,hx⟩:=RowE.at_ l hr i (by simpa using hi)
     refine ⟨d,hd,fun j u hu=>?_⟩
     have hk:=E.len hc
     rw [List.getElem?_append_right (by rw [hk,Nat.add_mul];omega),hk,show (i+1)*E.k+j - E.k=i*E.k+j by rw [Nat.add_mul];omega]
     exact hx j u hu
theorem zai.stays (s:zel P P' w w') {v:Value} {l:List α} (h:zai E w P v l):zai E w' P' v l:=by
 obtain ⟨p,cap,rfl,h⟩:=h
 refine ⟨p,cap,rfl,fun hne=>?_⟩
 obtain ⟨g,off,xs,rfl,hg,hr,he⟩:=h hne
 exact ⟨g,off,xs,rfl,(s g hg).1,fun j v hv=>s.cell hg _ (hr j v hv),he.stays s⟩
theorem zai.at_ {v:Value} {l:List α} (h:zai E w P v l) (i:Nat) (hi:i < l.length):∃ g off cap c,v=.slice (some ⟨g,off,none⟩) l.length cap∧P g∧E.rel w P c l[i]∧w.rangeAt g (off+i*E.k) c:=by
 obtain ⟨p,cap,rfl,h⟩:=h
 obtain ⟨g,off,xs,rfl,hg,hr,he⟩:=h (by intro e;subst e;simp at hi)
 obtain ⟨c,hc,hx⟩:=he.at_ l i hi
 refine ⟨g,off,cap,c,rfl,hg,hc,fun j u hu=>?_⟩
 rw [Nat.add_assoc]
 exact hr _ _ (hx j u hu)
theorem zai.slice {v:Value} {l:List α} (h:zai E w P v l):∃ p cap,v=.slice p l.length cap:=by
 obtain ⟨p,cap,rfl,_⟩:=h
 exact ⟨p,cap,rfl⟩
theorem zai.nil (p:Option Addr) (cap:Nat):zai E w P (.slice p 0 cap) []:=⟨p,cap,rfl,fun h=>absurd rfl h⟩
theorem zbm {base:Nat} {e:TypeId} {v:Value} {xs:List Value} {l:List α} (h:w.ownsRow base e E.k v l.length xs) (c:RowE E w P xs l) (s:∀ g,P g→P' g) (hP:∀ g,v.ownBlock=some g→P' g):zai E w P' v l:=by
 rcases h.2 with ⟨rfl,hn⟩ | ⟨g,cap,cur,rfl,hb,hg,h1,h2,h3,h4⟩
 ·obtain rfl:=List.length_eq_zero_iff.1 hn
  exact zai.nil _ _
 ·refine ⟨_,cap,rfl,fun _=>⟨g,0,xs,rfl,hP g rfl,fun j u hu=>?_,c.stays (fun g hg=>⟨s g hg,rfl⟩) l⟩⟩
  have hj:j < l.length*E.k:=by
   have:=(List.getElem?_eq_some_iff.1 hu).1
   rw [h.1] at this
   exact this
  rw [Nat.zero_add,h.cellAt j hj,hu]
end
def New (w w':World):Nat→Prop:=fun g=>w.heap.size≤g∧g < w'.heap.size
def Old (w:World):Nat→Prop:=fun g=>g < w.heap.size
theorem zae {w w':World} (b:Below w.heap.size w w'):zel (Old w) (Old w') w w':=fun g hg=>⟨Nat.lt_of_lt_of_le hg b.size,b.block g hg⟩
theorem zbu {P:Program} {ops:Array Oper} {rest:List Oper} {o:Oper} {a:Act} {w:World} {Q:Exit→Act→World→Prop} (hg:o.guard=none) (t e:TypeId) (x:Operand) (ho:o.op=.buildSlice t 1 #[(0,x)])
 (v:Value) (cs:List Value) (hx:a.eval x=v) (hv:v.cells=cs.toArray) (ie:TypeInfo) (z:Value) (k:Nat) (hk:cs.length=k) (k0:0 < k) (k1:k≤1000)
 (hu:P.underlying t=some (.slice e)) (hie:P.info? e=some ie) (hz:ie.zero=some z) (hsz:ie.size=k)
 (h:wpList P ops Q rest (a.put o.dst (.slice (some ⟨w.heap.size,0,none⟩) 1 1)) (w.alloc (.cells cs.toArray e))):wpList P ops Q (o::rest) a w:=by
 refine wpList_buildSlice hg t e 1 _ ho cs.toArray ie z hu hie hz (by rw [hsz];omega) (by rw [hsz];omega) ?_ h
 have f:=Great.fill_whole k0 [v] ((Array.range (1*ie.size)).map (z.cells[· % z.cells.size]!)) (fun u hu=>by simp at hu;subst hu;rw [hv];simpa using hk) (by simp [hsz])
 rw [hsz] at f ⊢
 simpa [hx,hv] using f
theorem zb3 (w:World) (cs:List Value) (t:TypeId):∀ j u,cs[j]?=some u→(w.alloc (.cells cs.toArray t)).cell? ((⟨w.heap.size,0,none⟩:Addr).add j)=some u:=by
 intro j u hj
 rw [Addr.add_mid,Nat.zero_add]
 exact zad (zaf w _ rfl) j (by simpa using hj)
def intE:Elem Int where
 k:=1
 rel:=fun _ _ xs z=>xs=[.int .i64 z]∧(Lit.int .i64 z).wf=true
 len:=fun h=>by rw [h.1];rfl
 one:=fun h u hu=>by rw [h.1] at hu;simp at hu;subst hu;rfl
 stays:=fun _ h=>h
def zaz:Elem ByteArray where
 k:=1
 rel:=fun _ _ xs t=>xs=[.string t]∧t.size≤2097152
 len:=fun h=>by rw [h.1];rfl
 one:=fun h u hu=>by rw [h.1] at hu;simp at hu;subst hu;rfl
 stays:=fun _ h=>h
def zdp (w:World) (P:Nat→Prop) (xs:List Value):Val→Prop
 | .mk k b n t x q=>∃ L,xs=[.int .i64 k,.bool b,.int .i64 n,.string t,.string x,L]∧Fine n t x q.length∧zbe w P L q
def valE:Elem Val where
 k:=6
 rel:=zdp
 len:=fun {w P xs a} h=>by
  obtain ⟨k,b,n,t,x,q⟩:=a
  obtain ⟨L,rfl,_⟩:=h
  rfl
 one:=fun {w P xs a} h u hu=>by
  obtain ⟨k,b,n,t,x,q⟩:=a
  obtain ⟨L,rfl,_,hq⟩:=h
  obtain ⟨p,cap,rfl⟩:=zb4 (zbe.held q hq)
  simp only [List.mem_cons,List.mem_nil_iff,or_false] at hu
  rcases hu with rfl | rfl | rfl | rfl | rfl | rfl <;> rfl
 stays:=fun {w w' P P' xs a} s h=>by
  obtain ⟨k,b,n,t,x,q⟩:=a
  obtain ⟨L,rfl,hf,hq⟩:=h
  exact ⟨L,rfl,hf,zbe.stays s q hq⟩
def capK (v:Value):Prop:=(∀ p n c,v=.slice p n c→n≤c)∧∀ n c,v=.slice none n c→c=0
def rowE:Elem (List Val) where
 k:=1
 rel:=fun w P xs r=>∃ v,xs=[v]∧zai valE w P v r∧capK v∧r.length≤2097152
 len:=fun h=>by obtain ⟨v,rfl,_⟩:=h;rfl
 one:=fun h u hu=>by
  obtain ⟨v,rfl,hs,_⟩:=h
  obtain ⟨p,c,rfl⟩:=hs.slice
  simp at hu;subst hu;rfl
 stays:=fun s h=>by obtain ⟨v,rfl,hs,hc,hl⟩:=h;exact ⟨v,rfl,hs.stays s,hc,hl⟩
structure TabL where
 vars:List ByteArray
 rows:List (List Val)
def tabE:Elem TabL where
 k:=2
 rel:=fun w P xs t=>∃ v r,xs=[v,r]∧zai zaz w P v t.vars∧zai rowE w P r t.rows∧capK v∧capK r∧t.vars.length≤2097152∧t.rows.length≤2097152
 len:=fun h=>by obtain ⟨v,r,rfl,_⟩:=h;rfl
 one:=fun h u hu=>by
  obtain ⟨v,r,rfl,hs,hr,_⟩:=h
  obtain ⟨p,c,rfl⟩:=hs.slice
  obtain ⟨p2,c2,rfl⟩:=hr.slice
  simp only [List.mem_cons,List.mem_nil_iff,or_false] at hu
  rcases hu with rfl | rfl <;> rfl
 stays:=fun s h=>by obtain ⟨v,r,rfl,hs,hr,hc⟩:=h;exact ⟨v,r,rfl,hs.stays s,hr.stays s,hc⟩
def Inn (w:World) (A:Value) (wr:World):Nat→Prop:=fun g=>w.heap.size≤g∧g < wr.heap.size∧A.ownBlock≠some g
structure AccE {β:Type} (E:Elem β) (D:TypeId) (w:World) (bs:List β) (A:Value) (wr:World):Prop where
 own:∃ xs,wr.ownsRow w.heap.size D E.k A bs.length xs∧RowE E wr (Inn w A wr) xs bs
 bel:Below w.heap.size w wr
theorem AccE.next {β:Type} {E:Elem β} {D:TypeId} {w wr wX w3 w5:World} {A A2:Value} {xs c:List Value} {bs:List β} {b:β} {o:Obj} (hown:wr.ownsRow w.heap.size D E.k A bs.length xs) (hrow:RowE E wr (Inn w A wr) xs bs) (hbel:Below w.heap.size w wr)
 (bX:Below wr.heap.size wr wX) (b3:Below wX.heap.size wX w3) (hc:E.rel w3 (New wX w3) c b) (hown':w5.ownsRow w.heap.size D E.k A2 (bs.length+1) (xs++c)) (hg:(w3.alloc o).grownBy w5 A.ownBlock)
 (hloc:A2.ownBlock=A.ownBlock∨A2.ownBlock=some (w3.alloc o).heap.size):AccE E D w (bs++[b]) A2 w5:=by
 have s0:=hbel.size
 have sX:=bX.size
 have s3:=b3.size
 have s4:(w3.alloc o).heap.size=w3.heap.size+1:=by simp
 have s5:=hg.size
 have off:∀ g,g < w3.heap.size→A.ownBlock≠some g→A2.ownBlock≠some g∧w5.heap[g]?=w3.heap[g]?:=by
  intro g hlt hne
  refine ⟨?_,(hg.block g (by omega) (fun e=>hne e.symm)).trans (Below.heap_alloc _ _ _ hlt)⟩
  rcases hloc with e | e
  ·rw [e];exact hne
  ·rw [e];intro q;cases q;omega
 refine ⟨⟨xs++c,by simpa using hown',RowE.append bs [b] (hrow.stays (fun g hgg=>?_)) (RowE.single (E.stays (fun g hgg=>?_) hc))⟩,?_⟩
 ·obtain ⟨h1,h2,h3⟩:=hgg
  obtain ⟨o1,o2⟩:=off g (by omega) h3
  exact ⟨⟨h1,by omega,o1⟩,o2.trans ((b3.block g (by omega)).trans (bX.block g h2))⟩
 ·obtain ⟨h1,h2⟩:=hgg
  have hne:A.ownBlock≠some g:=fun e=>by have:=(hown.lt g e).2;omega
  obtain ⟨o1,o2⟩:=off g h2 hne
  exact ⟨⟨by omega,by omega,o1⟩,o2⟩
 ·have b4:Below w.heap.size w (w3.alloc o):=((hbel.trans (bX.mono s0)).trans (b3.mono (by omega))).alloc (by omega) _
  exact b4.grown hg (by omega) (fun g e=>(hown.lt g e).1)
def za1 {β:Type} (E:Elem β) (D:TypeId) (w:World) (bs:List β) (e:Ending) (w':World):Prop:=
 ∃ V xs,e=.returned V∧w'.ownsRow w.heap.size D E.k V bs.length xs∧RowE E w' (Inn w V w') xs bs∧Below w.heap.size w w'
def zbs {β:Type} (E:Elem β) (b:β) (w:World) (e:Ending) (w':World):Prop:=
 ∃ u c,e=.returned u∧u.cells=c.toArray∧E.rel w' (New w w') c b∧Below w.heap.size w w'
theorem zar {P:Program} {ops:Array Oper} {rest:List Oper} {o:Oper} {a:Act} {w:World} {Q:Exit→Act→World→Prop} (x y:Operand) (g:Nat) (t ty:TypeId) (old:Array Value) (cs:List Value) (k:Nat) (hg:w.heap[g]?=some (.cells old t (0,0)))
 (hk:cs.length=k) (hgd:o.guard=none) (ho:o.op=.store ty x y) (hx:a.eval x=.pointer (some ⟨g,0,none⟩)) (hy:a.eval y=.agg cs.toArray) (hi:(P.info? ty).map (·.size)=some k) (hold:old.size=k) (h1:∀ u∈cs,u.oneCell'=true)
 (h:∀ w',Only g w w'→w'.heap[g]?=some (.cells cs.toArray t (0,0))→wpList P ops Q rest (a.put o.dst undef) w'):wpList P ops Q (o::rest) a w:=
 wpList_plain hgd fun _ hK=>by
  unfold Oper.wp execOp
  simp only [ho,hx,hy,Instr.storeAt,Instr.sureAddr,Sem.run_bind,Sem.run_pure,Result.andThen_ok,run_storeVar_row (P:=P) w g t ty old cs.toArray hg (by rw [hi];simp [hk]) (by simp [hk,hold]) (all_oneCell_toArray h1)]
  exact hK _ _ (h _ (Only.setRow w _) (zdd hg))
theorem za3 {P:Program} {ops:Array Oper} {rest:List Oper} {o:Oper} {a:Act} {w:World} {Q:Exit→Act→World→Prop} (y:Operand) (g off:Nat) (ty:TypeId) (cs:List Value) (k:Nat) (d:TypeDesc) (hr:w.rangeAt g off cs) (hk:cs.length=k)
 (hu:P.underlying ty=some d) (hd:d.isRow=true) (hi:(P.info? ty).map (·.size)=some k) (hgd:o.guard=none) (ho:o.op=.load ty y) (hx:a.eval y=.pointer (some ⟨g,off,none⟩))
 (h:wpList P ops Q rest (a.put o.dst (.agg cs.toArray)) w):wpList P ops Q (o::rest) a w:=
 wpList_load_mid hgd ty y ho g off hx cs d hr hu hd (by rw [hi,hk]) h
theorem zah {P:Program} {ops:Array Oper} {rest:List Oper} {o:Oper} {a:Act} {w:World} {Q:Exit→Act→World→Prop} (y:Operand) (g:Nat) (t ty:TypeId) (cs:List Value) (k:Nat) (d:TypeDesc) (hg:w.heap[g]?=some (.cells cs.toArray t (0,0))) (hk:cs.length=k)
 (hu:P.underlying ty=some d) (hd:(match d with | .struct _ | .array _ _=>true | _=>false)=true) (hi:(P.info? ty).map (·.size)=some k) (hgd:o.guard=none) (ho:o.op=.load ty y) (hx:a.eval y=.pointer (some ⟨g,0,none⟩))
 (h:wpList P ops Q rest (a.put o.dst (.agg cs.toArray)) w):wpList P ops Q (o::rest) a w:=
 wpList_load_row hgd ty y ho g hx t cs.toArray (0,0) d hg hu hd (by rw [hi];simp [hk]) h
theorem zem:(Tryz.prog.info? 3).map (fun i=>(i.zero,i.size,i.bytes))=some (some (.int .i64 0),1,8):=by kernel_rfl
theorem zei:(Tryz.prog.info? 9).map (fun i=>(i.zero,i.size,i.bytes))=some (some (.string ⟨#[]⟩),1,16):=by kernel_rfl
theorem zap:(Tryz.prog.info? 48).map (·.size)=some 6:=by kernel_rfl
theorem zh0:(Tryz.prog.info? 48).map (fun i=>(i.zero,i.size,i.bytes))=some (some (.agg #[.int .i64 0,.bool false,.int .i64 0,.string ⟨#[]⟩,.string ⟨#[]⟩,.slice none 0 0]),6,80):=by kernel_rfl
theorem zen:(Tryz.prog.info? 43).map (fun i=>(i.zero,i.size,i.bytes))=some (some (.slice none 0 0),1,24):=by kernel_rfl
theorem zb0 {w:World} {base n size:Nat} {e:TypeId} {v:Value} {xs:List Value} (h:w.ownsRow base e size v n xs):capK v:=by
 rcases h.2 with ⟨rfl,rfl⟩ | ⟨g,cap,cur,rfl,_,_,h1,_⟩
 ·exact ⟨fun p m c hv=>by cases hv;exact Nat.le_refl _,fun m c hv=>by cases hv;rfl⟩
 ·exact ⟨fun p m c hv=>by cases hv;exact h1,fun m c hv=>by cases hv⟩
theorem zp9:capK (.slice none 0 0):=⟨fun p n c h=>by cases h;exact Nat.le_refl _,fun n c h=>by cases h;rfl⟩
end Go.Proofs.YteclpnfckjfibaaGreatDoor

/- RG -/
namespace Go.Proofs
open Go.Shelf
def Tryz.grow167_ren:Go.Shelf.Ren:=⟨fun | 4=>167 | n=>n,fun | 22=>22 | 25=>9 | n=>n,fun | n=>n⟩
theorem Tryz.grow167:Go.Proofs.Lays8.n4 Tryz.prog Tryz.grow167_ren:={
 mixed:=by kernel_rfl
 f4:=⟨Tryz.f167.name,by decide,Tryz.func167.trans (congrArg some (by kernel_rfl))⟩
 t0:=Tryz.underlying0
 a0:=Tryz.isAgg0
 z0:=Tryz.sizeOf0
 v0:=Tryz.zeroValue0
 t3:=Tryz.underlying3
 a3:=Tryz.isAgg3
 z3:=Tryz.sizeOf3
 v3:=Tryz.zeroValue3
 t4:=Tryz.underlying4
 a4:=Tryz.isAgg4
 z4:=Tryz.sizeOf4
 v4:=Tryz.zeroValue4
 t9:=Tryz.underlying9
 a9:=Tryz.isAgg9
 z9:=Tryz.sizeOf9
 v9:=Tryz.zeroValue9
 t20:=Tryz.underlying20
 a20:=Tryz.isAgg20
 z20:=Tryz.sizeOf20
 v20:=Tryz.zeroValue20
 t22:=Tryz.underlying22
 a22:=Tryz.isAgg22
 z22:=Tryz.sizeOf22
 v22:=Tryz.zeroValue22 }
def Tryz.grow132_ren:Go.Shelf.Ren:=⟨fun | 4=>132 | n=>n,fun | 22=>23 | 25=>43 | n=>n,fun | n=>n⟩
theorem Tryz.grow132:Go.Proofs.Lays8.n4 Tryz.prog Tryz.grow132_ren:={
 mixed:=by kernel_rfl
 f4:=⟨Tryz.f132.name,by decide,Tryz.func132.trans (congrArg some (by kernel_rfl))⟩
 t0:=Tryz.underlying0
 a0:=Tryz.isAgg0
 z0:=Tryz.sizeOf0
 v0:=Tryz.zeroValue0
 t3:=Tryz.underlying3
 a3:=Tryz.isAgg3
 z3:=Tryz.sizeOf3
 v3:=Tryz.zeroValue3
 t4:=Tryz.underlying4
 a4:=Tryz.isAgg4
 z4:=Tryz.sizeOf4
 v4:=Tryz.zeroValue4
 t9:=Tryz.underlying9
 a9:=Tryz.isAgg9
 z9:=Tryz.sizeOf9
 v9:=Tryz.zeroValue9
 t20:=Tryz.underlying20
 a20:=Tryz.isAgg20
 z20:=Tryz.sizeOf20
 v20:=Tryz.zeroValue20
 t22:=Tryz.underlying23
 a22:=Tryz.isAgg23
 z22:=Tryz.sizeOf23
 v22:=Tryz.zeroValue23 }
def Tryz.grow171_ren:Go.Shelf.Ren:=⟨fun | 4=>171 | n=>n,fun | 22=>43 | 25=>48 | n=>n,fun | n=>n⟩
theorem Tryz.grow171:Go.Proofs.Lays8.n4 Tryz.prog Tryz.grow171_ren:={
 mixed:=by kernel_rfl
 f4:=⟨Tryz.f171.name,by decide,Tryz.func171.trans (congrArg some (by kernel_rfl))⟩
 t0:=Tryz.underlying0
 a0:=Tryz.isAgg0
 z0:=Tryz.sizeOf0
 v0:=Tryz.zeroValue0
 t3:=Tryz.underlying3
 a3:=Tryz.isAgg3
 z3:=Tryz.sizeOf3
 v3:=Tryz.zeroValue3
 t4:=Tryz.underlying4
 a4:=Tryz.isAgg4
 z4:=Tryz.sizeOf4
 v4:=Tryz.zeroValue4
 t9:=Tryz.underlying9
 a9:=Tryz.isAgg9
 z9:=Tryz.sizeOf9
 v9:=Tryz.zeroValue9
 t20:=Tryz.underlying20
 a20:=Tryz.isAgg20
 z20:=Tryz.sizeOf20
 v20:=Tryz.zeroValue20
 t22:=Tryz.underlying43
 a22:=Tryz.isAgg43
 z22:=Tryz.sizeOf43
 v22:=Tryz.zeroValue43 }
def Tryz.grow172_ren:Go.Shelf.Ren:=⟨fun | 4=>172 | n=>n,fun | 22=>132 | 25=>9 | n=>n,fun | n=>n⟩
theorem Tryz.grow172:Go.Proofs.Lays8.n4 Tryz.prog Tryz.grow172_ren:={
 mixed:=by kernel_rfl
 f4:=⟨Tryz.f172.name,by decide,Tryz.func172.trans (congrArg some (by kernel_rfl))⟩
 t0:=Tryz.underlying0
 a0:=Tryz.isAgg0
 z0:=Tryz.sizeOf0
 v0:=Tryz.zeroValue0
 t3:=Tryz.underlying3
 a3:=Tryz.isAgg3
 z3:=Tryz.sizeOf3
 v3:=Tryz.zeroValue3
 t4:=Tryz.underlying4
 a4:=Tryz.isAgg4
 z4:=Tryz.sizeOf4
 v4:=Tryz.zeroValue4
 t9:=Tryz.underlying9
 a9:=Tryz.isAgg9
 z9:=Tryz.sizeOf9
 v9:=Tryz.zeroValue9
 t20:=Tryz.underlying20
 a20:=Tryz.isAgg20
 z20:=Tryz.sizeOf20
 v20:=Tryz.zeroValue20
 t22:=Tryz.underlying132
 a22:=Tryz.isAgg132
 z22:=Tryz.sizeOf132
 v22:=Tryz.zeroValue132 }
def Tryz.grow173_ren:Go.Shelf.Ren:=⟨fun | 4=>173 | n=>n,fun | 22=>84 | 25=>138 | n=>n,fun | n=>n⟩
theorem Tryz.grow173:Go.Proofs.Lays8.n4 Tryz.prog Tryz.grow173_ren:={
 mixed:=by kernel_rfl
 f4:=⟨Tryz.f173.name,by decide,Tryz.func173.trans (congrArg some (by kernel_rfl))⟩
 t0:=Tryz.underlying0
 a0:=Tryz.isAgg0
 z0:=Tryz.sizeOf0
 v0:=Tryz.zeroValue0
 t3:=Tryz.underlying3
 a3:=Tryz.isAgg3
 z3:=Tryz.sizeOf3
 v3:=Tryz.zeroValue3
 t4:=Tryz.underlying4
 a4:=Tryz.isAgg4
 z4:=Tryz.sizeOf4
 v4:=Tryz.zeroValue4
 t9:=Tryz.underlying9
 a9:=Tryz.isAgg9
 z9:=Tryz.sizeOf9
 v9:=Tryz.zeroValue9
 t20:=Tryz.underlying20
 a20:=Tryz.isAgg20
 z20:=Tryz.sizeOf20
 v20:=Tryz.zeroValue20
 t22:=Tryz.underlying84
 a22:=Tryz.isAgg84
 z22:=Tryz.sizeOf84
 v22:=Tryz.zeroValue84 }
def Tryz.grow210_ren:Go.Shelf.Ren:=⟨fun | 4=>210 | n=>n,fun | 22=>26 | 25=>3 | n=>n,fun | n=>n⟩
theorem Tryz.grow210:Go.Proofs.Lays8.n4 Tryz.prog Tryz.grow210_ren:={
 mixed:=by kernel_rfl
 f4:=⟨Tryz.f210.name,by decide,Tryz.func210.trans (congrArg some (by kernel_rfl))⟩
 t0:=Tryz.underlying0
 a0:=Tryz.isAgg0
 z0:=Tryz.sizeOf0
 v0:=Tryz.zeroValue0
 t3:=Tryz.underlying3
 a3:=Tryz.isAgg3
 z3:=Tryz.sizeOf3
 v3:=Tryz.zeroValue3
 t4:=Tryz.underlying4
 a4:=Tryz.isAgg4
 z4:=Tryz.sizeOf4
 v4:=Tryz.zeroValue4
 t9:=Tryz.underlying9
 a9:=Tryz.isAgg9
 z9:=Tryz.sizeOf9
 v9:=Tryz.zeroValue9
 t20:=Tryz.underlying20
 a20:=Tryz.isAgg20
 z20:=Tryz.sizeOf20
 v20:=Tryz.zeroValue20
 t22:=Tryz.underlying26
 a22:=Tryz.isAgg26
 z22:=Tryz.sizeOf26
 v22:=Tryz.zeroValue26 }
def Tryz.grow211_ren:Go.Shelf.Ren:=⟨fun | 4=>211 | n=>n,fun | 22=>188 | 25=>3 | n=>n,fun | n=>n⟩
theorem Tryz.grow211:Go.Proofs.Lays8.n4 Tryz.prog Tryz.grow211_ren:={
 mixed:=by kernel_rfl
 f4:=⟨Tryz.f211.name,by decide,Tryz.func211.trans (congrArg some (by kernel_rfl))⟩
 t0:=Tryz.underlying0
 a0:=Tryz.isAgg0
 z0:=Tryz.sizeOf0
 v0:=Tryz.zeroValue0
 t3:=Tryz.underlying3
 a3:=Tryz.isAgg3
 z3:=Tryz.sizeOf3
 v3:=Tryz.zeroValue3
 t4:=Tryz.underlying4
 a4:=Tryz.isAgg4
 z4:=Tryz.sizeOf4
 v4:=Tryz.zeroValue4
 t9:=Tryz.underlying9
 a9:=Tryz.isAgg9
 z9:=Tryz.sizeOf9
 v9:=Tryz.zeroValue9
 t20:=Tryz.underlying20
 a20:=Tryz.isAgg20
 z20:=Tryz.sizeOf20
 v20:=Tryz.zeroValue20
 t22:=Tryz.underlying188
 a22:=Tryz.isAgg188
 z22:=Tryz.sizeOf188
 v22:=Tryz.zeroValue188 }
namespace YteclpnfckjfibaaGreatDoor
open Go.RowKit
def srcE:Elem (Int × Int) where
 k:=2
 rel:=fun _ _ xs s=>xs=[.int .i64 s.1,.int .i64 s.2]∧(Lit.int .i64 s.1).wf=true∧(Lit.int .i64 s.2).wf=true
 len:=fun h=>by rw [h.1];rfl
 one:=fun h u hu=>by
  rw [h.1] at hu
  simp only [List.mem_cons,List.mem_nil_iff,or_false] at hu
  rcases hu with rfl | rfl <;> rfl
 stays:=fun _ h=>h
theorem zh1:(Tryz.prog.info? 138).map (·.size)=some 2:=by kernel_rfl
theorem zq3:(Tryz.prog.info? 138).map (fun i=>(i.zero,i.size,i.bytes))=some (some (.agg #[.int .i64 0,.int .i64 0]),2,16):=by kernel_rfl
theorem zsx {ρ:Ren} (L:Lays8.n4 Tryz.prog ρ) {i0:TypeInfo} {z:Value} (k b:Nat) (hi:Tryz.prog.info? (ρ.t 25)=some i0) (hz:i0.zero=some z) (hs:i0.size=k) (hb:i0.bytes=b) (k0:0 < k) (hb2:b≤4096) (zc:z.cells.size=k) (n:Nat) (hn:n≤67108864) (w:World):
 Calls Tryz.prog (ρ.f 4) #[.slice none 0 0,.int .i64 n] w fun e w'=>∃ v,e=.returned v∧w'.ownsRow w.heap.size (ρ.t 25) k v 0 []∧Below w.heap.size w w':=by
 by_cases h0:n=0
 ·subst h0
  refine (Any8.slices_Grow_room L none 0 0 0 w (Nat.le_refl _) (by omega) (by omega) (by omega)).mono ?_
  rintro e w' ⟨rfl,rfl⟩
  exact ⟨_,rfl,World.ownsRow_nil _ _ _ _,Below.refl _ _⟩
 ·have h1:(0+n)*i0.bytes≤140737488355328:=by
   rw [hb,Nat.zero_add]
   exact Nat.le_trans (Nat.mul_le_mul hn hb2) (by decide)
  refine (Any8.slices_Grow_grow L i0 z hi hz (by omega) none 0 0 n [] w (Nat.le_refl _) (by omega) h1 (by omega) (by simp) (fun _=>rfl) (fun a h=>by cases h)).mono ?_
  rintro e w' ⟨rfl,rfl⟩
  have hg:=grownCap_ge w (0+n) 0 (ρ.t 25)
  refine ⟨_,rfl,⟨by simp,.inr ⟨w.heap.size,_,_,rfl,Nat.le_refl _,zaf _ _ rfl,Nat.zero_le _,grownCap_le_maxLen w (0+n) 0 (ρ.t 25) (by unfold maxLen;omega),?_,by simp⟩⟩,?_⟩
  ·simp only [Array.size_append,size_zeroCells,zc]
   simp only [List.size_toArray,List.length_nil,Nat.zero_add,Nat.sub_zero]
   rw [← Nat.add_mul]
   rw [Nat.zero_add] at hg
   rw [Nat.add_sub_cancel' hg]
  ·exact ((Below.refl _ _).drew).alloc (Nat.le_refl _) _
theorem zxy (n:Nat) (hn:n≤67108864) (w:World):Calls Tryz.prog 167 #[.slice none 0 0,.int .i64 n] w fun e w'=>∃ v,e=.returned v∧w'.ownsRow w.heap.size 9 1 v 0 []∧Below w.heap.size w w':=by
 obtain ⟨i0,hi,hz0,hz1,hz2⟩:=info_parts zei
 exact zsx Tryz.grow167 1 16 hi hz0 hz1 hz2 (by omega) (by omega) rfl n hn w
theorem znq (n:Nat) (hn:n≤67108864) (w:World):Calls Tryz.prog 132 #[.slice none 0 0,.int .i64 n] w fun e w'=>∃ v,e=.returned v∧w'.ownsRow w.heap.size 43 1 v 0 []∧Below w.heap.size w w':=by
 obtain ⟨i0,hi,hz0,hz1,hz2⟩:=info_parts zen
 exact zsx Tryz.grow132 1 24 hi hz0 hz1 hz2 (by omega) (by omega) rfl n hn w
theorem zku (n:Nat) (hn:n≤67108864) (w:World):Calls Tryz.prog 171 #[.slice none 0 0,.int .i64 n] w fun e w'=>∃ v,e=.returned v∧w'.ownsRow w.heap.size 48 6 v 0 []∧Below w.heap.size w w':=by
 obtain ⟨i0,hi,hz0,hz1,hz2⟩:=info_parts zh0
 exact zsx Tryz.grow171 6 80 hi hz0 hz1 hz2 (by omega) (by omega) rfl n hn w
theorem zxz (n:Nat) (hn:n≤67108864) (w:World):Calls Tryz.prog 172 #[.slice none 0 0,.int .i64 n] w fun e w'=>∃ v,e=.returned v∧w'.ownsRow w.heap.size 9 1 v 0 []∧Below w.heap.size w w':=by
 obtain ⟨i0,hi,hz0,hz1,hz2⟩:=info_parts zei
 exact zsx Tryz.grow172 1 16 hi hz0 hz1 hz2 (by omega) (by omega) rfl n hn w
theorem zx0 (n:Nat) (hn:n≤67108864) (w:World):Calls Tryz.prog 173 #[.slice none 0 0,.int .i64 n] w fun e w'=>∃ v,e=.returned v∧w'.ownsRow w.heap.size 138 2 v 0 []∧Below w.heap.size w w':=by
 obtain ⟨i0,hi,hz0,hz1,hz2⟩:=info_parts zq3
 exact zsx Tryz.grow173 2 16 hi hz0 hz1 hz2 (by omega) (by omega) rfl n hn w
theorem zx1 (n:Nat) (hn:n≤67108864) (w:World):Calls Tryz.prog 210 #[.slice none 0 0,.int .i64 n] w fun e w'=>∃ v,e=.returned v∧w'.ownsRow w.heap.size 3 1 v 0 []∧Below w.heap.size w w':=by
 obtain ⟨i0,hi,hz0,hz1,hz2⟩:=info_parts zem
 exact zsx Tryz.grow210 1 8 hi hz0 hz1 hz2 (by omega) (by omega) rfl n hn w
theorem zx2 (n:Nat) (hn:n≤67108864) (w:World):Calls Tryz.prog 211 #[.slice none 0 0,.int .i64 n] w fun e w'=>∃ v,e=.returned v∧w'.ownsRow w.heap.size 3 1 v 0 []∧Below w.heap.size w w':=by
 obtain ⟨i0,hi,hz0,hz1,hz2⟩:=info_parts zem
 exact zsx Tryz.grow211 1 8 hi hz0 hz1 hz2 (by omega) (by omega) rfl n hn w
theorem AccE.startOwn {β:Type} (E:Elem β) (D:TypeId) {w w':World} {v:Value} (h:w'.ownsRow w.heap.size D E.k v 0 []) (b:Below w.heap.size w w'):AccE E D w [] v w':=
 ⟨⟨[],h,RowE.nil⟩,b⟩
set_option maxHeartbeats 3200000 in
set_option maxRecDepth 20000 in
theorem z3q (tell:Val→Val) (l:List Val) (v:Value) (w:World) (h:zai valE w (Old w) v l) (hn:l.length≤2097152)
 (each:∀ x∈l,∀ W c,Below w.heap.size w W→valE.rel W (Old W) c x→Calls Tryz.prog 116 #[.agg c.toArray] W (zbs valE (tell x) W)):
 Calls Tryz.prog 162 #[v,.func (.func 116) #[] #[]] w (za1 valE 48 w (l.map tell)):=by
 obtain ⟨n,hln⟩:∃ n,n=l.length:=⟨_,rfl⟩
 obtain ⟨p,cap,rfl⟩:=h.slice
 rw [← hln] at hn
 obtain ⟨i0,hi,hz0,hz1,hz2⟩:=info_parts zh0
 have hgrow:=zku n (by omega) w
 have HL:=Lib.hid hln
 have HH:=Lib.hid h
 have HE:=Lib.hid each
 have HG:=Lib.hid hgrow
 rw [← hln]
 clear h hln each hgrow
 go_enter Tryz.func162,Tryz.ntmps162
 go_wp2_with (first
  |(go_at_call 171;(with_reducible refine HG.out.mono ?_);rintro e w1 ⟨v1,rfl,ho1,hb1⟩))
 have ACC0:=Lib.hid (AccE.startOwn valE 48 ho1 hb1)
 clear ho1 hb1
 go_loopg [5,13] n (fun gg s5 s13 wr=>∃ j:Nat,j+gg=n∧s13=.int .i64 j∧Hid (AccE valE 48 w ((l.take j).map tell) s5 wr))
 case atStart=>exact ⟨0,by omega,rfl,ACC0⟩
 case round=>
  clear ACC0
  obtain ⟨j,hjg,rfl,HA⟩:=hrel
  by_cases hlt:(j:Int) < n
  ·have hj1:j < l.length:=by have:=HL.out;omega
   have hbel:=HA.out.bel
   obtain ⟨g,off,cap',c,e0,hg,hrl,hra⟩:=(HH.out.stays (zae hbel)).at_ j hj1
   injection e0 with e1 e2 e3
   subst e1
   replace hra:wr.rangeAt g (off+j*6) c:=hra
   have hlen:c.length=6:=valE.len hrl
   have hjl:((l.take j).map tell).length=j:=by rw [List.length_map,List.length_take];omega
   have etk:(l.take (j+1)).map tell=(l.take j).map tell++[tell l[j]]:=by rw [List.take_succ_eq_append_getElem hj1,List.map_append];rfl
   have hbs:=hbel.size
   have hone:=valE.one hrl
   have HR:=Lib.hid (And.intro hrl hra)
   have HK:=Lib.hid (And.intro hjl etk)
   clear hrl hra hjl etk e2 e3 hbel
   go_upto_region 5 with (first
    |((with_reducible refine za3 (.tmp 15) g (off+j*6) 48 c 6 _ HR.out.2 hlen Tryz.underlying48 rfl zap ?_ ?_ ?_ ?_);rfl;rfl;rfl)
    |((with_reducible refine zar (.tmp 7) (.tmp 16) wr.heap.size 48 48 _ c 6 (zaf _ _ rfl) hlen ?_ ?_ ?_ ?_ zap rfl hone ?_);rfl;rfl;rfl;rfl;intro wX oX hX))
   have bX:Below wr.heap.size wr wX:=zam (zav wr _) oX (Nat.le_refl _) (by simp)
   have bWX:Below w.heap.size w wX:=HA.out.bel.trans (bX.mono hbs)
   have hcall:=HE.out l[j] (List.getElem_mem hj1) wX c bWX (valE.stays (zae bX) HR.out.1)
   have HX:=Lib.hid (And.intro bX bWX)
   clear oX bX bWX
   go_wp2_with (first
    |((with_reducible refine zah (.tmp 7) wr.heap.size 48 48 c 6 _ hX hlen Tryz.underlying48 rfl zap ?_ ?_ ?_ ?_);rfl;rfl;rfl)
    |(go_at_call 116;(with_reducible refine hcall.mono ?_);rintro e w3 ⟨u2,c',rfl,hu,hc',b3⟩
      obtain ⟨⟨xs,hown,hrow⟩,hbel⟩:=HA.out
      replace hown:wr.ownsRow w.heap.size 48 6 _ _ xs:=hown
      have hown3:=za6 (za6 hown HX.out.1) b3
      have hlen':c'.length=6:=valE.len hc'
      have hone':=valE.one hc'
      have hsX:=HX.out.1.size
      have hs3:=b3.size
      have HY:=Lib.hid (And.intro hown (And.intro hrow (And.intro hbel (And.intro b3 hc'))))
      clear hown hrow hbel b3 hc' HA hcall)
    |((with_reducible refine zbu ?_ 43 48 (.tmp 20) ?_ u2 c' ?_ hu i0 _ 6 hlen' (by omega) (by omega) Tryz.underlying43 hi hz0 hz1 ?_);rfl;rfl;rfl)
    |(at_builtin;refine wpList_append_own_at _ rfl _ _ 43 rfl w.heap.size 48 i0 (.agg #[.int .i64 0,.bool false,.int .i64 0,.string ⟨#[]⟩,.string ⟨#[]⟩,.slice none 0 0]) 6 80 Tryz.underlying43 hi hz0 hz1 hz2 rfl (by decide) _ _ _ rfl (hown3.alloc _) ⟨w3.heap.size,0,none⟩ 1 1 c' rfl (by rw [hlen']) (zb3 _ _ _) hone' ?_ ?_ ?_ ?_))
   all_goals (try (first |(rw [HK.out.1];unfold maxLen;omega) |(rw [HK.out.1];omega) |(simp;omega)))
   intro v' w5 hown' hgrow _ hloc
   have e9:min j l.length=j:=by omega
   rw [e9] at hown'
   have e10:=hown'
   rw [← HK.out.1] at e10
   have acc:AccE valE 48 w ((l.take (j+1)).map tell) v' w5:=by
    rw [HK.out.2]
    exact AccE.next HY.out.1 HY.out.2.1 HY.out.2.2.1 HX.out.1 HY.out.2.2.2.1 HY.out.2.2.2.2 e10 hgrow (by simpa using hloc)
   have ACC:=Lib.hid acc
   clear acc hown' hgrow hloc hown3 HY HX
   go_wp2_with fail
   go_roundg (gk - 1)
   case measure=>omega
   case rel=>exact ⟨j+1,by omega,by go_num,ACC⟩
  ·have e:l.take j=l:=by rw [List.take_of_length_le];have:=HL.out;omega
   have hA:=HA.out
   rw [e] at hA
   obtain ⟨⟨xs,hown,hrow⟩,hbel⟩:=hA
   have HX:=Lib.hid (And.intro hown (And.intro hrow hbel))
   clear hown hrow hbel HA
   go_wp2_with fail
   go_ret
   exact ⟨_,xs,rfl,HX.out.1,HX.out.2.1,HX.out.2.2⟩
set_option maxHeartbeats 3200000 in
set_option maxRecDepth 20000 in
theorem map110 (tell:ByteArray→ByteArray) (l:List ByteArray) (v:Value) (w:World) (h:zai zaz w (Old w) v l) (hn:l.length≤2097152)
 (each:∀ x∈l,∀ W c,Below w.heap.size w W→zaz.rel W (Old W) c x→Calls Tryz.prog 111 #[.string x] W (zbs zaz (tell x) W)):
 Calls Tryz.prog 110 #[v,.func (.func 111) #[] #[]] w (za1 zaz 9 w (l.map tell)):=by
 obtain ⟨n,hln⟩:∃ n,n=l.length:=⟨_,rfl⟩
 obtain ⟨p,cap,rfl⟩:=h.slice
 rw [← hln] at hn
 obtain ⟨i0,hi,hz0,hz1,hz2⟩:=info_parts zei
 have hgrow:=zxy n (by omega) w
 have HL:=Lib.hid hln
 have HH:=Lib.hid h
 have HE:=Lib.hid each
 have HG:=Lib.hid hgrow
 rw [← hln]
 clear h hln each hgrow
 go_enter Tryz.func110,Tryz.ntmps110
 go_wp2_with (first
  |(go_at_call 167;(with_reducible refine HG.out.mono ?_);rintro e w1 ⟨v1,rfl,ho1,hb1⟩))
 have ACC0:=Lib.hid (AccE.startOwn zaz 9 ho1 hb1)
 clear ho1 hb1
 go_loopg [5,13] n (fun gg s5 s13 wr=>∃ j:Nat,j+gg=n∧s13=.int .i64 j∧Hid (AccE zaz 9 w ((l.take j).map tell) s5 wr))
 case atStart=>exact ⟨0,by omega,rfl,ACC0⟩
 case round=>
  clear ACC0
  obtain ⟨j,hjg,rfl,HA⟩:=hrel
  by_cases hlt:(j:Int) < n
  ·have hj1:j < l.length:=by have:=HL.out;omega
   have hbel:=HA.out.bel
   obtain ⟨g,off,cap',c,e0,hg,hrl,hra⟩:=(HH.out.stays (zae hbel)).at_ j hj1
   injection e0 with e1 e2 e3
   subst e1
   replace hra:wr.rangeAt g (off+j*1) c:=hra
   have hlen:c.length=1:=zaz.len hrl
   have hjl:((l.take j).map tell).length=j:=by rw [List.length_map,List.length_take];omega
   have etk:(l.take (j+1)).map tell=(l.take j).map tell++[tell l[j]]:=by rw [List.take_succ_eq_append_getElem hj1,List.map_append];rfl
   have hbs:=hbel.size
   obtain ⟨rfl,hwf⟩:=hrl
   have c0:wr.cell? ⟨g,off+j,none⟩=some (.string l[j]):=by
    have:=hra 0 _ rfl
    simpa using this
   have bX:Below wr.heap.size wr wr:=Below.refl _ _
   have hcall:=HE.out l[j] (List.getElem_mem hj1) wr _ hbel ⟨rfl,hwf⟩
   have HX:=Lib.hid (And.intro bX hbel)
   have HK:=Lib.hid (And.intro hjl etk)
   clear hra hjl etk e2 e3 hbel bX
   go_wp2_with (first
    |(go_at_call 111;(with_reducible refine hcall.mono ?_);rintro e w3 ⟨u2,c',rfl,hu,hc',b3⟩
      obtain ⟨⟨xs,hown,hrow⟩,hbel⟩:=HA.out
      replace hown:wr.ownsRow w.heap.size 9 1 _ _ xs:=hown
      have hown3:=za6 (za6 hown HX.out.1) b3
      have hlen':c'.length=1:=zaz.len hc'
      have hone':=zaz.one hc'
      have hsX:=HX.out.1.size
      have hs3:=b3.size
      have HY:=Lib.hid (And.intro hown (And.intro hrow (And.intro hbel (And.intro b3 hc'))))
      clear hown hrow hbel b3 hc' HA hcall)
    |((with_reducible refine zbu ?_ 22 9 (.tmp 20) ?_ u2 c' ?_ hu i0 _ 1 hlen' (by omega) (by omega) Tryz.underlying22 hi hz0 hz1 ?_);rfl;rfl;rfl)
    |(at_builtin;refine wpList_append_own_at _ rfl _ _ 22 rfl w.heap.size 9 i0 (.string ⟨#[]⟩) 1 16 Tryz.underlying22 hi hz0 hz1 hz2 rfl (by decide) _ _ _ rfl (hown3.alloc _) ⟨w3.heap.size,0,none⟩ 1 1 c' rfl (by rw [hlen']) (zb3 _ _ _) hone' ?_ ?_ ?_ ?_))
   all_goals (try (first |(rw [HK.out.1];unfold maxLen;omega) |(rw [HK.out.1];omega) |(simp;omega)))
   intro v' w5 hown' hgrow _ hloc
   have e9:min j l.length=j:=by omega
   rw [e9] at hown'
   have e10:=hown'
   rw [← HK.out.1] at e10
   have acc:AccE zaz 9 w ((l.take (j+1)).map tell) v' w5:=by
    rw [HK.out.2]
    exact AccE.next HY.out.1 HY.out.2.1 HY.out.2.2.1 HX.out.1 HY.out.2.2.2.1 HY.out.2.2.2.2 e10 hgrow (by simpa using hloc)
   have ACC:=Lib.hid acc
   clear acc hown' hgrow hloc hown3 HY HX
   go_wp2_with fail
   go_roundg (gk - 1)
   case measure=>omega
   case rel=>exact ⟨j+1,by omega,by go_num,ACC⟩
  ·have e:l.take j=l:=by rw [List.take_of_length_le];have:=HL.out;omega
   have hA:=HA.out
   rw [e] at hA
   obtain ⟨⟨xs,hown,hrow⟩,hbel⟩:=hA
   have HX:=Lib.hid (And.intro hown (And.intro hrow hbel))
   clear hown hrow hbel HA
   go_wp2_with fail
   go_ret
   exact ⟨_,xs,rfl,HX.out.1,HX.out.2.1,HX.out.2.2⟩
set_option maxHeartbeats 3200000 in
set_option maxRecDepth 20000 in
theorem map103 (tell:(List Val)→(List Val)) (l:List (List Val)) (v:Value) (w:World) (h:zai rowE w (Old w) v l) (hn:l.length≤2097152)
 (each:∀ x∈l,∀ W u,Below w.heap.size w W→rowE.rel W (Old W) [u] x→Calls Tryz.prog 104 #[u] W (zbs rowE (tell x) W)):
 Calls Tryz.prog 103 #[v,.func (.func 104) #[] #[]] w (za1 rowE 43 w (l.map tell)):=by
 obtain ⟨n,hln⟩:∃ n,n=l.length:=⟨_,rfl⟩
 obtain ⟨p,cap,rfl⟩:=h.slice
 rw [← hln] at hn
 obtain ⟨i0,hi,hz0,hz1,hz2⟩:=info_parts zen
 have hgrow:=znq n (by omega) w
 have HL:=Lib.hid hln
 have HH:=Lib.hid h
 have HE:=Lib.hid each
 have HG:=Lib.hid hgrow
 rw [← hln]
 clear h hln each hgrow
 go_enter Tryz.func103,Tryz.ntmps103
 go_wp2_with (first
  |(go_at_call 132;(with_reducible refine HG.out.mono ?_);rintro e w1 ⟨v1,rfl,ho1,hb1⟩))
 have ACC0:=Lib.hid (AccE.startOwn rowE 43 ho1 hb1)
 clear ho1 hb1
 go_loopg [5,13] n (fun gg s5 s13 wr=>∃ j:Nat,j+gg=n∧s13=.int .i64 j∧Hid (AccE rowE 43 w ((l.take j).map tell) s5 wr))
 case atStart=>exact ⟨0,by omega,rfl,ACC0⟩
 case round=>
  clear ACC0
  obtain ⟨j,hjg,rfl,HA⟩:=hrel
  by_cases hlt:(j:Int) < n
  ·have hj1:j < l.length:=by have:=HL.out;omega
   have hbel:=HA.out.bel
   obtain ⟨g,off,cap',c,e0,hg,hrl,hra⟩:=(HH.out.stays (zae hbel)).at_ j hj1
   injection e0 with e1 e2 e3
   subst e1
   replace hra:wr.rangeAt g (off+j*1) c:=hra
   have hlen:c.length=1:=rowE.len hrl
   have hjl:((l.take j).map tell).length=j:=by rw [List.length_map,List.length_take];omega
   have etk:(l.take (j+1)).map tell=(l.take j).map tell++[tell l[j]]:=by rw [List.take_succ_eq_append_getElem hj1,List.map_append];rfl
   have hbs:=hbel.size
   obtain ⟨u,rfl⟩:∃ u,c=[u]:=by obtain ⟨v,rfl,_⟩:=id hrl;exact ⟨v,rfl⟩
   have c0:wr.cell? ⟨g,off+j,none⟩=some u:=by
    have:=hra 0 _ rfl
    simpa using this
   have bX:Below wr.heap.size wr wr:=Below.refl _ _
   have hcall:=HE.out l[j] (List.getElem_mem hj1) wr u hbel hrl
   have HX:=Lib.hid (And.intro bX hbel)
   have HK:=Lib.hid (And.intro hjl etk)
   clear hra hjl etk e2 e3 hbel bX
   go_wp2_with (first
    |(go_at_call 104;(with_reducible refine hcall.mono ?_);rintro e w3 ⟨u2,c',rfl,hu,hc',b3⟩
      obtain ⟨⟨xs,hown,hrow⟩,hbel⟩:=HA.out
      replace hown:wr.ownsRow w.heap.size 43 1 _ _ xs:=hown
      have hown3:=za6 (za6 hown HX.out.1) b3
      have hlen':c'.length=1:=rowE.len hc'
      have hone':=rowE.one hc'
      have hsX:=HX.out.1.size
      have hs3:=b3.size
      have HY:=Lib.hid (And.intro hown (And.intro hrow (And.intro hbel (And.intro b3 hc'))))
      clear hown hrow hbel b3 hc' HA hcall)
    |((with_reducible refine zbu ?_ 23 43 (.tmp 20) ?_ u2 c' ?_ hu i0 _ 1 hlen' (by omega) (by omega) Tryz.underlying23 hi hz0 hz1 ?_);rfl;rfl;rfl)
    |(at_builtin;refine wpList_append_own_at _ rfl _ _ 23 rfl w.heap.size 43 i0 (.slice none 0 0) 1 24 Tryz.underlying23 hi hz0 hz1 hz2 rfl (by decide) _ _ _ rfl (hown3.alloc _) ⟨w3.heap.size,0,none⟩ 1 1 c' rfl (by rw [hlen']) (zb3 _ _ _) hone' ?_ ?_ ?_ ?_))
   all_goals (try (first |(rw [HK.out.1];unfold maxLen;omega) |(rw [HK.out.1];omega) |(simp;omega)))
   intro v' w5 hown' hgrow _ hloc
   have e9:min j l.length=j:=by omega
   rw [e9] at hown'
   have e10:=hown'
   rw [← HK.out.1] at e10
   have acc:AccE rowE 43 w ((l.take (j+1)).map tell) v' w5:=by
    rw [HK.out.2]
    exact AccE.next HY.out.1 HY.out.2.1 HY.out.2.2.1 HX.out.1 HY.out.2.2.2.1 HY.out.2.2.2.2 e10 hgrow (by simpa using hloc)
   have ACC:=Lib.hid acc
   clear acc hown' hgrow hloc hown3 HY HX
   go_wp2_with fail
   go_roundg (gk - 1)
   case measure=>omega
   case rel=>exact ⟨j+1,by omega,by go_num,ACC⟩
  ·have e:l.take j=l:=by rw [List.take_of_length_le];have:=HL.out;omega
   have hA:=HA.out
   rw [e] at hA
   obtain ⟨⟨xs,hown,hrow⟩,hbel⟩:=hA
   have HX:=Lib.hid (And.intro hown (And.intro hrow hbel))
   clear hown hrow hbel HA
   go_wp2_with fail
   go_ret
   exact ⟨_,xs,rfl,HX.out.1,HX.out.2.1,HX.out.2.2⟩
set_option maxHeartbeats 3200000 in
set_option maxRecDepth 20000 in
theorem map103p (B:Value) (tell:(List Val)→(List Val)) (l:List (List Val)) (v:Value) (w:World) (h:zai rowE w (Old w) v l) (hn:l.length≤2097152)
 (each:∀ x∈l,∀ W u,Below w.heap.size w W→rowE.rel W (Old W) [u] x→Calls Tryz.prog 113 #[u,B] W (zbs rowE (tell x) W)):
 Calls Tryz.prog 103 #[v,.func (.func 113) #[] #[B]] w (za1 rowE 43 w (l.map tell)):=by
 obtain ⟨n,hln⟩:∃ n,n=l.length:=⟨_,rfl⟩
 obtain ⟨p,cap,rfl⟩:=h.slice
 rw [← hln] at hn
 obtain ⟨i0,hi,hz0,hz1,hz2⟩:=info_parts zen
 have hgrow:=znq n (by omega) w
 have HL:=Lib.hid hln
 have HH:=Lib.hid h
 have HE:=Lib.hid each
 have HG:=Lib.hid hgrow
 rw [← hln]
 clear h hln each hgrow
 go_enter Tryz.func103,Tryz.ntmps103
 go_wp2_with (first
  |(go_at_call 132;(with_reducible refine HG.out.mono ?_);rintro e w1 ⟨v1,rfl,ho1,hb1⟩))
 have ACC0:=Lib.hid (AccE.startOwn rowE 43 ho1 hb1)
 clear ho1 hb1
 go_loopg [5,13] n (fun gg s5 s13 wr=>∃ j:Nat,j+gg=n∧s13=.int .i64 j∧Hid (AccE rowE 43 w ((l.take j).map tell) s5 wr))
 case atStart=>exact ⟨0,by omega,rfl,ACC0⟩
 case round=>
  clear ACC0
  obtain ⟨j,hjg,rfl,HA⟩:=hrel
  by_cases hlt:(j:Int) < n
  ·have hj1:j < l.length:=by have:=HL.out;omega
   have hbel:=HA.out.bel
   obtain ⟨g,off,cap',c,e0,hg,hrl,hra⟩:=(HH.out.stays (zae hbel)).at_ j hj1
   injection e0 with e1 e2 e3
   subst e1
   replace hra:wr.rangeAt g (off+j*1) c:=hra
   have hlen:c.length=1:=rowE.len hrl
   have hjl:((l.take j).map tell).length=j:=by rw [List.length_map,List.length_take];omega
   have etk:(l.take (j+1)).map tell=(l.take j).map tell++[tell l[j]]:=by rw [List.take_succ_eq_append_getElem hj1,List.map_append];rfl
   have hbs:=hbel.size
   obtain ⟨u,rfl⟩:∃ u,c=[u]:=by obtain ⟨v,rfl,_⟩:=id hrl;exact ⟨v,rfl⟩
   have c0:wr.cell? ⟨g,off+j,none⟩=some u:=by
    have:=hra 0 _ rfl
    simpa using this
   have bX:Below wr.heap.size wr wr:=Below.refl _ _
   have hcall:=HE.out l[j] (List.getElem_mem hj1) wr u hbel hrl
   have HX:=Lib.hid (And.intro bX hbel)
   have HK:=Lib.hid (And.intro hjl etk)
   clear hra hjl etk e2 e3 hbel bX
   go_wp2_with (first
    |(go_at_call 113;(with_reducible refine hcall.mono ?_);rintro e w3 ⟨u2,c',rfl,hu,hc',b3⟩
      obtain ⟨⟨xs,hown,hrow⟩,hbel⟩:=HA.out
      replace hown:wr.ownsRow w.heap.size 43 1 _ _ xs:=hown
      have hown3:=za6 (za6 hown HX.out.1) b3
      have hlen':c'.length=1:=rowE.len hc'
      have hone':=rowE.one hc'
      have hsX:=HX.out.1.size
      have hs3:=b3.size
      have HY:=Lib.hid (And.intro hown (And.intro hrow (And.intro hbel (And.intro b3 hc'))))
      clear hown hrow hbel b3 hc' HA hcall)
    |((with_reducible refine zbu ?_ 23 43 (.tmp 20) ?_ u2 c' ?_ hu i0 _ 1 hlen' (by omega) (by omega) Tryz.underlying23 hi hz0 hz1 ?_);rfl;rfl;rfl)
    |(at_builtin;refine wpList_append_own_at _ rfl _ _ 23 rfl w.heap.size 43 i0 (.slice none 0 0) 1 24 Tryz.underlying23 hi hz0 hz1 hz2 rfl (by decide) _ _ _ rfl (hown3.alloc _) ⟨w3.heap.size,0,none⟩ 1 1 c' rfl (by rw [hlen']) (zb3 _ _ _) hone' ?_ ?_ ?_ ?_))
   all_goals (try (first |(rw [HK.out.1];unfold maxLen;omega) |(rw [HK.out.1];omega) |(simp;omega)))
   intro v' w5 hown' hgrow _ hloc
   have e9:min j l.length=j:=by omega
   rw [e9] at hown'
   have e10:=hown'
   rw [← HK.out.1] at e10
   have acc:AccE rowE 43 w ((l.take (j+1)).map tell) v' w5:=by
    rw [HK.out.2]
    exact AccE.next HY.out.1 HY.out.2.1 HY.out.2.2.1 HX.out.1 HY.out.2.2.2.1 HY.out.2.2.2.2 e10 hgrow (by simpa using hloc)
   have ACC:=Lib.hid acc
   clear acc hown' hgrow hloc hown3 HY HX
   go_wp2_with fail
   go_roundg (gk - 1)
   case measure=>omega
   case rel=>exact ⟨j+1,by omega,by go_num,ACC⟩
  ·have e:l.take j=l:=by rw [List.take_of_length_le];have:=HL.out;omega
   have hA:=HA.out
   rw [e] at hA
   obtain ⟨⟨xs,hown,hrow⟩,hbel⟩:=hA
   have HX:=Lib.hid (And.intro hown (And.intro hrow hbel))
   clear hown hrow hbel HA
   go_wp2_with fail
   go_ret
   exact ⟨_,xs,rfl,HX.out.1,HX.out.2.1,HX.out.2.2⟩
set_option maxHeartbeats 3200000 in
set_option maxRecDepth 20000 in
theorem map169 (B:Value) (tell:ByteArray→Int) (l:List ByteArray) (v:Value) (w:World) (h:zai zaz w (Old w) v l) (hn:l.length≤2097152)
 (each:∀ x∈l,∀ W c,Below w.heap.size w W→zaz.rel W (Old W) c x→Calls Tryz.prog 170 #[.string x,B] W (zbs intE (tell x) W)):
 Calls Tryz.prog 169 #[v,.func (.func 170) #[] #[B]] w (za1 intE 3 w (l.map tell)):=by
 obtain ⟨n,hln⟩:∃ n,n=l.length:=⟨_,rfl⟩
 obtain ⟨p,cap,rfl⟩:=h.slice
 rw [← hln] at hn
 obtain ⟨i0,hi,hz0,hz1,hz2⟩:=info_parts zem
 have hgrow:=zx1 n (by omega) w
 have HL:=Lib.hid hln
 have HH:=Lib.hid h
 have HE:=Lib.hid each
 have HG:=Lib.hid hgrow
 rw [← hln]
 clear h hln each hgrow
 go_enter Tryz.func169,Tryz.ntmps169
 go_wp2_with (first
  |(go_at_call 210;(with_reducible refine HG.out.mono ?_);rintro e w1 ⟨v1,rfl,ho1,hb1⟩))
 have ACC0:=Lib.hid (AccE.startOwn intE 3 ho1 hb1)
 clear ho1 hb1
 go_loopg [5,13] n (fun gg s5 s13 wr=>∃ j:Nat,j+gg=n∧s13=.int .i64 j∧Hid (AccE intE 3 w ((l.take j).map tell) s5 wr))
 case atStart=>exact ⟨0,by omega,rfl,ACC0⟩
 case round=>
  clear ACC0
  obtain ⟨j,hjg,rfl,HA⟩:=hrel
  by_cases hlt:(j:Int) < n
  ·have hj1:j < l.length:=by have:=HL.out;omega
   have hbel:=HA.out.bel
   obtain ⟨g,off,cap',c,e0,hg,hrl,hra⟩:=(HH.out.stays (zae hbel)).at_ j hj1
   injection e0 with e1 e2 e3
   subst e1
   replace hra:wr.rangeAt g (off+j*1) c:=hra
   have hlen:c.length=1:=zaz.len hrl
   have hjl:((l.take j).map tell).length=j:=by rw [List.length_map,List.length_take];omega
   have etk:(l.take (j+1)).map tell=(l.take j).map tell++[tell l[j]]:=by rw [List.take_succ_eq_append_getElem hj1,List.map_append];rfl
   have hbs:=hbel.size
   obtain ⟨rfl,hwf⟩:=hrl
   have c0:wr.cell? ⟨g,off+j,none⟩=some (.string l[j]):=by
    have:=hra 0 _ rfl
    simpa using this
   have bX:Below wr.heap.size wr wr:=Below.refl _ _
   have hcall:=HE.out l[j] (List.getElem_mem hj1) wr _ hbel ⟨rfl,hwf⟩
   have HX:=Lib.hid (And.intro bX hbel)
   have HK:=Lib.hid (And.intro hjl etk)
   clear hra hjl etk e2 e3 hbel bX
   go_wp2_with (first
    |(go_at_call 170;(with_reducible refine hcall.mono ?_);rintro e w3 ⟨u2,c',rfl,hu,hc',b3⟩
      obtain ⟨⟨xs,hown,hrow⟩,hbel⟩:=HA.out
      replace hown:wr.ownsRow w.heap.size 3 1 _ _ xs:=hown
      have hown3:=za6 (za6 hown HX.out.1) b3
      have hlen':c'.length=1:=intE.len hc'
      have hone':=intE.one hc'
      have hsX:=HX.out.1.size
      have hs3:=b3.size
      have HY:=Lib.hid (And.intro hown (And.intro hrow (And.intro hbel (And.intro b3 hc'))))
      clear hown hrow hbel b3 hc' HA hcall)
    |((with_reducible refine zbu ?_ 26 3 (.tmp 20) ?_ u2 c' ?_ hu i0 _ 1 hlen' (by omega) (by omega) Tryz.underlying26 hi hz0 hz1 ?_);rfl;rfl;rfl)
    |(at_builtin;refine wpList_append_own_at _ rfl _ _ 26 rfl w.heap.size 3 i0 (.int .i64 0) 1 8 Tryz.underlying26 hi hz0 hz1 hz2 rfl (by decide) _ _ _ rfl (hown3.alloc _) ⟨w3.heap.size,0,none⟩ 1 1 c' rfl (by rw [hlen']) (zb3 _ _ _) hone' ?_ ?_ ?_ ?_))
   all_goals (try (first |(rw [HK.out.1];unfold maxLen;omega) |(rw [HK.out.1];omega) |(simp;omega)))
   intro v' w5 hown' hgrow _ hloc
   have e9:min j l.length=j:=by omega
   rw [e9] at hown'
   have e10:=hown'
   rw [← HK.out.1] at e10
   have acc:AccE intE 3 w ((l.take (j+1)).map tell) v' w5:=by
    rw [HK.out.2]
    exact AccE.next HY.out.1 HY.out.2.1 HY.out.2.2.1 HX.out.1 HY.out.2.2.2.1 HY.out.2.2.2.2 e10 hgrow (by simpa using hloc)
   have ACC:=Lib.hid acc
   clear acc hown' hgrow hloc hown3 HY HX
   go_wp2_with fail
   go_roundg (gk - 1)
   case measure=>omega
   case rel=>exact ⟨j+1,by omega,by go_num,ACC⟩
  ·have e:l.take j=l:=by rw [List.take_of_length_le];have:=HL.out;omega
   have hA:=HA.out
   rw [e] at hA
   obtain ⟨⟨xs,hown,hrow⟩,hbel⟩:=hA
   have HX:=Lib.hid (And.intro hown (And.intro hrow hbel))
   clear hown hrow hbel HA
   go_wp2_with fail
   go_ret
   exact ⟨_,xs,rfl,HX.out.1,HX.out.2.1,HX.out.2.2⟩
set_option maxHeartbeats 3200000 in
set_option maxRecDepth 20000 in
theorem map122 (B B2:Value) (tell:ByteArray→(Int × Int)) (l:List ByteArray) (v:Value) (w:World) (h:zai zaz w (Old w) v l) (hn:l.length≤2097152)
 (each:∀ x∈l,∀ W c,Below w.heap.size w W→zaz.rel W (Old W) c x→Calls Tryz.prog 123 #[.string x,B,B2] W (zbs srcE (tell x) W)):
 Calls Tryz.prog 122 #[v,.func (.func 123) #[] #[B,B2]] w (za1 srcE 138 w (l.map tell)):=by
 obtain ⟨n,hln⟩:∃ n,n=l.length:=⟨_,rfl⟩
 obtain ⟨p,cap,rfl⟩:=h.slice
 rw [← hln] at hn
 obtain ⟨i0,hi,hz0,hz1,hz2⟩:=info_parts zq3
 have hgrow:=zx0 n (by omega) w
 have HL:=Lib.hid hln
 have HH:=Lib.hid h
 have HE:=Lib.hid each
 have HG:=Lib.hid hgrow
 rw [← hln]
 clear h hln each hgrow
 go_enter Tryz.func122,Tryz.ntmps122
 go_wp2_with (first
  |(go_at_call 173;(with_reducible refine HG.out.mono ?_);rintro e w1 ⟨v1,rfl,ho1,hb1⟩))
 have ACC0:=Lib.hid (AccE.startOwn srcE 138 ho1 hb1)
 clear ho1 hb1
 go_loopg [5,13] n (fun gg s5 s13 wr=>∃ j:Nat,j+gg=n∧s13=.int .i64 j∧Hid (AccE srcE 138 w ((l.take j).map tell) s5 wr))
 case atStart=>exact ⟨0,by omega,rfl,ACC0⟩
 case round=>
  clear ACC0
  obtain ⟨j,hjg,rfl,HA⟩:=hrel
  by_cases hlt:(j:Int) < n
  ·have hj1:j < l.length:=by have:=HL.out;omega
   have hbel:=HA.out.bel
   obtain ⟨g,off,cap',c,e0,hg,hrl,hra⟩:=(HH.out.stays (zae hbel)).at_ j hj1
   injection e0 with e1 e2 e3
   subst e1
   replace hra:wr.rangeAt g (off+j*1) c:=hra
   have hlen:c.length=1:=zaz.len hrl
   have hjl:((l.take j).map tell).length=j:=by rw [List.length_map,List.length_take];omega
   have etk:(l.take (j+1)).map tell=(l.take j).map tell++[tell l[j]]:=by rw [List.take_succ_eq_append_getElem hj1,List.map_append];rfl
   have hbs:=hbel.size
   obtain ⟨rfl,hwf⟩:=hrl
   have c0:wr.cell? ⟨g,off+j,none⟩=some (.string l[j]):=by
    have:=hra 0 _ rfl
    simpa using this
   have bX:Below wr.heap.size wr wr:=Below.refl _ _
   have hcall:=HE.out l[j] (List.getElem_mem hj1) wr _ hbel ⟨rfl,hwf⟩
   have HX:=Lib.hid (And.intro bX hbel)
   have HK:=Lib.hid (And.intro hjl etk)
   clear hra hjl etk e2 e3 hbel bX
   go_wp2_with (first
    |(go_at_call 123;(with_reducible refine hcall.mono ?_);rintro e w3 ⟨u2,c',rfl,hu,hc',b3⟩
      obtain ⟨⟨xs,hown,hrow⟩,hbel⟩:=HA.out
      replace hown:wr.ownsRow w.heap.size 138 2 _ _ xs:=hown
      have hown3:=za6 (za6 hown HX.out.1) b3
      have hlen':c'.length=2:=srcE.len hc'
      have hone':=srcE.one hc'
      have hsX:=HX.out.1.size
      have hs3:=b3.size
      have HY:=Lib.hid (And.intro hown (And.intro hrow (And.intro hbel (And.intro b3 hc'))))
      clear hown hrow hbel b3 hc' HA hcall)
    |((with_reducible refine zbu ?_ 84 138 (.tmp 20) ?_ u2 c' ?_ hu i0 _ 2 hlen' (by omega) (by omega) Tryz.underlying84 hi hz0 hz1 ?_);rfl;rfl;rfl)
    |(at_builtin;refine wpList_append_own_at _ rfl _ _ 84 rfl w.heap.size 138 i0 (.agg #[.int .i64 0,.int .i64 0]) 2 16 Tryz.underlying84 hi hz0 hz1 hz2 rfl (by decide) _ _ _ rfl (hown3.alloc _) ⟨w3.heap.size,0,none⟩ 1 1 c' rfl (by rw [hlen']) (zb3 _ _ _) hone' ?_ ?_ ?_ ?_))
   all_goals (try (first |(rw [HK.out.1];unfold maxLen;omega) |(rw [HK.out.1];omega) |(simp;omega)))
   intro v' w5 hown' hgrow _ hloc
   have e9:min j l.length=j:=by omega
   rw [e9] at hown'
   have e10:=hown'
   rw [← HK.out.1] at e10
   have acc:AccE srcE 138 w ((l.take (j+1)).map tell) v' w5:=by
    rw [HK.out.2]
    exact AccE.next HY.out.1 HY.out.2.1 HY.out.2.2.1 HX.out.1 HY.out.2.2.2.1 HY.out.2.2.2.2 e10 hgrow (by simpa using hloc)
   have ACC:=Lib.hid acc
   clear acc hown' hgrow hloc hown3 HY HX
   go_wp2_with fail
   go_roundg (gk - 1)
   case measure=>omega
   case rel=>exact ⟨j+1,by omega,by go_num,ACC⟩
  ·have e:l.take j=l:=by rw [List.take_of_length_le];have:=HL.out;omega
   have hA:=HA.out
   rw [e] at hA
   obtain ⟨⟨xs,hown,hrow⟩,hbel⟩:=hA
   have HX:=Lib.hid (And.intro hown (And.intro hrow hbel))
   clear hown hrow hbel HA
   go_wp2_with fail
   go_ret
   exact ⟨_,xs,rfl,HX.out.1,HX.out.2.1,HX.out.2.2⟩
set_option maxHeartbeats 3200000 in
set_option maxRecDepth 20000 in
theorem map114p (B:Value) (tell:Int→Val) (l:List Int) (v:Value) (w:World) (h:zai intE w (Old w) v l) (hn:l.length≤2097152)
 (each:∀ x∈l,∀ W c,Below w.heap.size w W→intE.rel W (Old W) c x→Calls Tryz.prog 115 #[.int .i64 x,B] W (zbs valE (tell x) W)):
 Calls Tryz.prog 114 #[v,.func (.func 115) #[] #[B]] w (za1 valE 48 w (l.map tell)):=by
 obtain ⟨n,hln⟩:∃ n,n=l.length:=⟨_,rfl⟩
 obtain ⟨p,cap,rfl⟩:=h.slice
 rw [← hln] at hn
 obtain ⟨i0,hi,hz0,hz1,hz2⟩:=info_parts zh0
 have hgrow:=zku n (by omega) w
 have HL:=Lib.hid hln
 have HH:=Lib.hid h
 have HE:=Lib.hid each
 have HG:=Lib.hid hgrow
 rw [← hln]
 clear h hln each hgrow
 go_enter Tryz.func114,Tryz.ntmps114
 go_wp2_with (first
  |(go_at_call 171;(with_reducible refine HG.out.mono ?_);rintro e w1 ⟨v1,rfl,ho1,hb1⟩))
 have ACC0:=Lib.hid (AccE.startOwn valE 48 ho1 hb1)
 clear ho1 hb1
 go_loopg [5,13] n (fun gg s5 s13 wr=>∃ j:Nat,j+gg=n∧s13=.int .i64 j∧Hid (AccE valE 48 w ((l.take j).map tell) s5 wr))
 case atStart=>exact ⟨0,by omega,rfl,ACC0⟩
 case round=>
  clear ACC0
  obtain ⟨j,hjg,rfl,HA⟩:=hrel
  by_cases hlt:(j:Int) < n
  ·have hj1:j < l.length:=by have:=HL.out;omega
   have hbel:=HA.out.bel
   obtain ⟨g,off,cap',c,e0,hg,hrl,hra⟩:=(HH.out.stays (zae hbel)).at_ j hj1
   injection e0 with e1 e2 e3
   subst e1
   replace hra:wr.rangeAt g (off+j*1) c:=hra
   have hlen:c.length=1:=intE.len hrl
   have hjl:((l.take j).map tell).length=j:=by rw [List.length_map,List.length_take];omega
   have etk:(l.take (j+1)).map tell=(l.take j).map tell++[tell l[j]]:=by rw [List.take_succ_eq_append_getElem hj1,List.map_append];rfl
   have hbs:=hbel.size
   obtain ⟨rfl,hwf⟩:=hrl
   have c0:wr.cell? ⟨g,off+j,none⟩=some (.int .i64 l[j]):=by
    have:=hra 0 _ rfl
    simpa using this
   have bX:Below wr.heap.size wr wr:=Below.refl _ _
   have hcall:=HE.out l[j] (List.getElem_mem hj1) wr _ hbel ⟨rfl,hwf⟩
   have HX:=Lib.hid (And.intro bX hbel)
   have HK:=Lib.hid (And.intro hjl etk)
   clear hra hjl etk e2 e3 hbel bX
   go_wp2_with (first
    |(go_at_call 115;(with_reducible refine hcall.mono ?_);rintro e w3 ⟨u2,c',rfl,hu,hc',b3⟩
      obtain ⟨⟨xs,hown,hrow⟩,hbel⟩:=HA.out
      replace hown:wr.ownsRow w.heap.size 48 6 _ _ xs:=hown
      have hown3:=za6 (za6 hown HX.out.1) b3
      have hlen':c'.length=6:=valE.len hc'
      have hone':=valE.one hc'
      have hsX:=HX.out.1.size
      have hs3:=b3.size
      have HY:=Lib.hid (And.intro hown (And.intro hrow (And.intro hbel (And.intro b3 hc'))))
      clear hown hrow hbel b3 hc' HA hcall)
    |((with_reducible refine zbu ?_ 43 48 (.tmp 20) ?_ u2 c' ?_ hu i0 _ 6 hlen' (by omega) (by omega) Tryz.underlying43 hi hz0 hz1 ?_);rfl;rfl;rfl)
    |(at_builtin;refine wpList_append_own_at _ rfl _ _ 43 rfl w.heap.size 48 i0 (.agg #[.int .i64 0,.bool false,.int .i64 0,.string ⟨#[]⟩,.string ⟨#[]⟩,.slice none 0 0]) 6 80 Tryz.underlying43 hi hz0 hz1 hz2 rfl (by decide) _ _ _ rfl (hown3.alloc _) ⟨w3.heap.size,0,none⟩ 1 1 c' rfl (by rw [hlen']) (zb3 _ _ _) hone' ?_ ?_ ?_ ?_))
   all_goals (try (first |(rw [HK.out.1];unfold maxLen;omega) |(rw [HK.out.1];omega) |(simp;omega)))
   intro v' w5 hown' hgrow _ hloc
   have e9:min j l.length=j:=by omega
   rw [e9] at hown'
   have e10:=hown'
   rw [← HK.out.1] at e10
   have acc:AccE valE 48 w ((l.take (j+1)).map tell) v' w5:=by
    rw [HK.out.2]
    exact AccE.next HY.out.1 HY.out.2.1 HY.out.2.2.1 HX.out.1 HY.out.2.2.2.1 HY.out.2.2.2.2 e10 hgrow (by simpa using hloc)
   have ACC:=Lib.hid acc
   clear acc hown' hgrow hloc hown3 HY HX
   go_wp2_with fail
   go_roundg (gk - 1)
   case measure=>omega
   case rel=>exact ⟨j+1,by omega,by go_num,ACC⟩
  ·have e:l.take j=l:=by rw [List.take_of_length_le];have:=HL.out;omega
   have hA:=HA.out
   rw [e] at hA
   obtain ⟨⟨xs,hown,hrow⟩,hbel⟩:=hA
   have HX:=Lib.hid (And.intro hown (And.intro hrow hbel))
   clear hown hrow hbel HA
   go_wp2_with fail
   go_ret
   exact ⟨_,xs,rfl,HX.out.1,HX.out.2.1,HX.out.2.2⟩
set_option maxHeartbeats 3200000 in
set_option maxRecDepth 20000 in
theorem map130 (B B2:Value) (tell:(Int × Int)→Val) (l:List (Int × Int)) (v:Value) (w:World) (h:zai srcE w (Old w) v l) (hn:l.length≤2097152)
 (each:∀ x∈l,∀ W c,Below w.heap.size w W→srcE.rel W (Old W) c x→Calls Tryz.prog 131 #[.agg c.toArray,B,B2] W (zbs valE (tell x) W)):
 Calls Tryz.prog 130 #[v,.func (.func 131) #[] #[B,B2]] w (za1 valE 48 w (l.map tell)):=by
 obtain ⟨n,hln⟩:∃ n,n=l.length:=⟨_,rfl⟩
 obtain ⟨p,cap,rfl⟩:=h.slice
 rw [← hln] at hn
 obtain ⟨i0,hi,hz0,hz1,hz2⟩:=info_parts zh0
 have hgrow:=zku n (by omega) w
 have HL:=Lib.hid hln
 have HH:=Lib.hid h
 have HE:=Lib.hid each
 have HG:=Lib.hid hgrow
 rw [← hln]
 clear h hln each hgrow
 go_enter Tryz.func130,Tryz.ntmps130
 go_wp2_with (first
  |(go_at_call 171;(with_reducible refine HG.out.mono ?_);rintro e w1 ⟨v1,rfl,ho1,hb1⟩))
 have ACC0:=Lib.hid (AccE.startOwn valE 48 ho1 hb1)
 clear ho1 hb1
 go_loopg [5,13] n (fun gg s5 s13 wr=>∃ j:Nat,j+gg=n∧s13=.int .i64 j∧Hid (AccE valE 48 w ((l.take j).map tell) s5 wr))
 case atStart=>exact ⟨0,by omega,rfl,ACC0⟩
 case round=>
  clear ACC0
  obtain ⟨j,hjg,rfl,HA⟩:=hrel
  by_cases hlt:(j:Int) < n
  ·have hj1:j < l.length:=by have:=HL.out;omega
   have hbel:=HA.out.bel
   obtain ⟨g,off,cap',c,e0,hg,hrl,hra⟩:=(HH.out.stays (zae hbel)).at_ j hj1
   injection e0 with e1 e2 e3
   subst e1
   replace hra:wr.rangeAt g (off+j*2) c:=hra
   have hlen:c.length=2:=srcE.len hrl
   have hjl:((l.take j).map tell).length=j:=by rw [List.length_map,List.length_take];omega
   have etk:(l.take (j+1)).map tell=(l.take j).map tell++[tell l[j]]:=by rw [List.take_succ_eq_append_getElem hj1,List.map_append];rfl
   have hbs:=hbel.size
   have hone:=srcE.one hrl
   have HR:=Lib.hid (And.intro hrl hra)
   have HK:=Lib.hid (And.intro hjl etk)
   clear hrl hra hjl etk e2 e3 hbel
   go_upto_region 5 with (first
    |((with_reducible refine za3 (.tmp 15) g (off+j*2) 138 c 2 _ HR.out.2 hlen Tryz.underlying138 rfl zh1 ?_ ?_ ?_ ?_);rfl;rfl;rfl)
    |((with_reducible refine zar (.tmp 7) (.tmp 16) wr.heap.size 138 138 _ c 2 (zaf _ _ rfl) hlen ?_ ?_ ?_ ?_ zh1 rfl hone ?_);rfl;rfl;rfl;rfl;intro wX oX hX))
   have bX:Below wr.heap.size wr wX:=zam (zav wr _) oX (Nat.le_refl _) (by simp)
   have bWX:Below w.heap.size w wX:=HA.out.bel.trans (bX.mono hbs)
   have hcall:=HE.out l[j] (List.getElem_mem hj1) wX c bWX (srcE.stays (zae bX) HR.out.1)
   have HX:=Lib.hid (And.intro bX bWX)
   clear oX bX bWX
   go_wp2_with (first
    |((with_reducible refine zah (.tmp 7) wr.heap.size 138 138 c 2 _ hX hlen Tryz.underlying138 rfl zh1 ?_ ?_ ?_ ?_);rfl;rfl;rfl)
    |(go_at_call 131;(with_reducible refine hcall.mono ?_);rintro e w3 ⟨u2,c',rfl,hu,hc',b3⟩
      obtain ⟨⟨xs,hown,hrow⟩,hbel⟩:=HA.out
      replace hown:wr.ownsRow w.heap.size 48 6 _ _ xs:=hown
      have hown3:=za6 (za6 hown HX.out.1) b3
      have hlen':c'.length=6:=valE.len hc'
      have hone':=valE.one hc'
      have hsX:=HX.out.1.size
      have hs3:=b3.size
      have HY:=Lib.hid (And.intro hown (And.intro hrow (And.intro hbel (And.intro b3 hc'))))
      clear hown hrow hbel b3 hc' HA hcall)
    |((with_reducible refine zbu ?_ 43 48 (.tmp 20) ?_ u2 c' ?_ hu i0 _ 6 hlen' (by omega) (by omega) Tryz.underlying43 hi hz0 hz1 ?_);rfl;rfl;rfl)
    |(at_builtin;refine wpList_append_own_at _ rfl _ _ 43 rfl w.heap.size 48 i0 (.agg #[.int .i64 0,.bool false,.int .i64 0,.string ⟨#[]⟩,.string ⟨#[]⟩,.slice none 0 0]) 6 80 Tryz.underlying43 hi hz0 hz1 hz2 rfl (by decide) _ _ _ rfl (hown3.alloc _) ⟨w3.heap.size,0,none⟩ 1 1 c' rfl (by rw [hlen']) (zb3 _ _ _) hone' ?_ ?_ ?_ ?_))
   all_goals (try (first |(rw [HK.out.1];unfold maxLen;omega) |(rw [HK.out.1];omega) |(simp;omega)))
   intro v' w5 hown' hgrow _ hloc
   have e9:min j l.length=j:=by omega
   rw [e9] at hown'
   have e10:=hown'
   rw [← HK.out.1] at e10
   have acc:AccE valE 48 w ((l.take (j+1)).map tell) v' w5:=by
    rw [HK.out.2]
    exact AccE.next HY.out.1 HY.out.2.1 HY.out.2.2.1 HX.out.1 HY.out.2.2.2.1 HY.out.2.2.2.2 e10 hgrow (by simpa using hloc)
   have ACC:=Lib.hid acc
   clear acc hown' hgrow hloc hown3 HY HX
   go_wp2_with fail
   go_roundg (gk - 1)
   case measure=>omega
   case rel=>exact ⟨j+1,by omega,by go_num,ACC⟩
  ·have e:l.take j=l:=by rw [List.take_of_length_le];have:=HL.out;omega
   have hA:=HA.out
   rw [e] at hA
   obtain ⟨⟨xs,hown,hrow⟩,hbel⟩:=hA
   have HX:=Lib.hid (And.intro hown (And.intro hrow hbel))
   clear hown hrow hbel HA
   go_wp2_with fail
   go_ret
   exact ⟨_,xs,rfl,HX.out.1,HX.out.2.1,HX.out.2.2⟩
end YteclpnfckjfibaaGreatDoor
end Go.Proofs
