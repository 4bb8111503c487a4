/- Texts of one kind, one behind the other: each says ahead of itself what it shows. -/
import Derived.Shelf.SortM.Plain
import Derived.Shelf.SortM.SortNone
import Derived.Test.YteclpnfckjfibaaGreatDoorProg
import Derived.Test.YteclpnfckjfibaaGreatDoorBae
import Derived.Maps.AppendAt
import Derived.Shelf.Strconv.Clone
import Derived.WalkKit
import Derived.OwnWalk
import Derived.Deep.LoopGhost
import Derived.Deep.MidRow
import Derived.Great.BuildSlice
/- NS -/
namespace Go.Proofs
open Go.Shelf
def Tryz.sortI_ren:Go.Shelf.Ren:=⟨fun | 5=>178 | 8=>164 | 7=>212 | 19=>203 | 20=>204 | 10=>234 | 11=>235 | 12=>236 | 13=>237 | 14=>238 | 15=>239 | 16=>240 | 17=>241 | 18=>242 | 30=>260 | 31=>224 | 32=>225 | 33=>261 | 34=>262 | 35=>263 | 40=>276 | n=>n,fun | 23=>26 | 25=>3 | 3=>3 | 32=>179 | 22=>26 | 0=>0 | 44=>211 | 46=>213 | 4=>4 | 36=>204 | 35=>203 | 41=>208 | 5=>5 | 9=>9 | 53=>238 | 57=>242 | 63=>260 | 64=>261 | n=>n,fun | n=>n⟩
theorem Tryz.sortI:Go.Proofs.SlLaysM.n5 Tryz.prog Tryz.sortI_ren:={
 mixed:=by kernel_rfl
 f5:=⟨Tryz.f178.name,by decide,Tryz.func178.trans (congrArg some (by kernel_rfl))⟩
 f7:=⟨Tryz.f212.name,by decide,Tryz.func212.trans (congrArg some (by kernel_rfl))⟩
 f8:=Tryz.func164.trans (congrArg some (by kernel_rfl))
 f10:=⟨Tryz.f234.name,by decide,Tryz.func234.trans (congrArg some (by kernel_rfl))⟩
 f11:=⟨Tryz.f235.name,by decide,Tryz.func235.trans (congrArg some (by kernel_rfl))⟩
 f12:=⟨Tryz.f236.name,by decide,Tryz.func236.trans (congrArg some (by kernel_rfl))⟩
 f13:=⟨Tryz.f237.name,by decide,Tryz.func237.trans (congrArg some (by kernel_rfl))⟩
 f14:=⟨Tryz.f238.name,by decide,Tryz.func238.trans (congrArg some (by kernel_rfl))⟩
 f15:=⟨Tryz.f239.name,by decide,Tryz.func239.trans (congrArg some (by kernel_rfl))⟩
 f16:=⟨Tryz.f240.name,by decide,Tryz.func240.trans (congrArg some (by kernel_rfl))⟩
 f17:=⟨Tryz.f241.name,by decide,Tryz.func241.trans (congrArg some (by kernel_rfl))⟩
 f18:=⟨Tryz.f242.name,by decide,Tryz.func242.trans (congrArg some (by kernel_rfl))⟩
 f19:=Tryz.func203.trans (congrArg some (by kernel_rfl))
 f20:=Tryz.func204.trans (congrArg some (by kernel_rfl))
 f30:=⟨Tryz.f260.name,by decide,Tryz.func260.trans (congrArg some (by kernel_rfl))⟩
 f31:=Tryz.func224.trans (congrArg some (by kernel_rfl))
 f32:=Tryz.func225.trans (congrArg some (by kernel_rfl))
 f33:=⟨Tryz.f261.name,by decide,Tryz.func261.trans (congrArg some (by kernel_rfl))⟩
 f34:=⟨Tryz.f262.name,by decide,Tryz.func262.trans (congrArg some (by kernel_rfl))⟩
 f35:=⟨Tryz.f263.name,by decide,Tryz.func263.trans (congrArg some (by kernel_rfl))⟩
 f40:=⟨Tryz.f276.name,by decide,Tryz.func276.trans (congrArg some (by kernel_rfl))⟩
 t0:=Tryz.underlying0
 a0:=Tryz.isAgg0
 z0:=Tryz.sizeOf0
 v0:=Tryz.zeroValue0
 t3:=Tryz.underlying3
 a3:=Tryz.isAgg3
 z3:=Tryz.sizeOf3
 v3:=Tryz.zeroValue3
 t4:=Tryz.underlying4
 a4:=Tryz.isAgg4
 z4:=Tryz.sizeOf4
 v4:=Tryz.zeroValue4
 t5:=Tryz.underlying5
 a5:=Tryz.isAgg5
 z5:=Tryz.sizeOf5
 v5:=Tryz.zeroValue5
 t9:=Tryz.underlying9
 a9:=Tryz.isAgg9
 z9:=Tryz.sizeOf9
 v9:=Tryz.zeroValue9
 t22:=Tryz.underlying26
 a22:=Tryz.isAgg26
 z22:=Tryz.sizeOf26
 v22:=Tryz.zeroValue26
 t23:=Tryz.underlying26
 a23:=Tryz.isAgg26
 z23:=Tryz.sizeOf26
 v23:=Tryz.zeroValue26
 t25:=Tryz.underlying3
 a25:=Tryz.isAgg3
 z25:=Tryz.sizeOf3
 v25:=Tryz.zeroValue3
 t32:=Tryz.underlying179
 a32:=Tryz.isAgg179
 z32:=Tryz.sizeOf179
 v32:=Tryz.zeroValue179
 t35:=Tryz.underlying203
 a35:=Tryz.isAgg203
 z35:=Tryz.sizeOf203
 v35:=Tryz.zeroValue203
 t36:=Tryz.underlying204
 a36:=Tryz.isAgg204
 z36:=Tryz.sizeOf204
 v36:=Tryz.zeroValue204
 t41:=Tryz.underlying208
 a41:=Tryz.isAgg208
 z41:=Tryz.sizeOf208
 v41:=Tryz.zeroValue208
 t44:=Tryz.underlying211
 a44:=Tryz.isAgg211
 z44:=Tryz.sizeOf211
 v44:=Tryz.zeroValue211
 t46:=Tryz.underlying213
 a46:=Tryz.isAgg213
 z46:=Tryz.sizeOf213
 v46:=Tryz.zeroValue213
 t53:=Tryz.underlying238
 a53:=Tryz.isAgg238
 z53:=Tryz.sizeOf238
 v53:=Tryz.zeroValue238
 t57:=Tryz.underlying242
 a57:=Tryz.isAgg242
 z57:=Tryz.sizeOf242
 v57:=Tryz.zeroValue242
 t63:=Tryz.underlying260
 a63:=Tryz.isAgg260
 z63:=Tryz.sizeOf260
 v63:=Tryz.zeroValue260
 t64:=Tryz.underlying261
 a64:=Tryz.isAgg261
 z64:=Tryz.sizeOf261
 v64:=Tryz.zeroValue261 }
end Go.Proofs

/- LA -/
namespace Go.Proofs.YteclpnfckjfibaaGreatDoor
open Go.RowKit
mutual
def zbc (w:World) (P:Nat→Prop) (g off:Nat):Val→Prop
 | .mk k b n t x l=>w.cell? ⟨g,off,none⟩=some (.int .i64 k)∧w.cell? ⟨g,off+1,none⟩=some (.bool b)∧w.cell? ⟨g,off+2,none⟩=some (.int .i64 n)∧
   w.cell? ⟨g,off+3,none⟩=some (.string t)∧w.cell? ⟨g,off+4,none⟩=some (.string x)∧Fine n t x l.length∧
   ∃ L,w.cell? ⟨g,off+5,none⟩=some L∧zbe w P L l
def zbe (w:World) (P:Nat→Prop) (L:Value):List Val→Prop
 | []=>∃ p cap,L=.slice p 0 cap
 | v::r=>∃ g off cap,L=.slice (some ⟨g,off,none⟩) (r.length+1) cap∧P g∧zbc w P g off v∧zb3 w P g (off+6) r
def zb3 (w:World) (P:Nat→Prop) (g off:Nat):List Val→Prop
 | []=>True
 | v::r=>zbc w P g off v∧zb3 w P g (off+6) r
end
mutual
theorem zbc.held {w:World} {P:Nat→Prop} {g off:Nat}:(v:Val)→zbc w P g off v→zba w g off v
 | .mk k b n t x l,h=>by
   unfold zbc at h
   unfold zba
   obtain ⟨h0,h1,h2,h3,h4,hf,L,h5,hl⟩:=h
   exact ⟨h0,h1,h2,h3,h4,hf,L,h5,zbe.held l hl⟩
theorem zbe.held {w:World} {P:Nat→Prop} {L:Value}:(l:List Val)→zbe w P L l→Held w L l
 | [],h=>by
   unfold zbe at h
   unfold Held
   exact h
 | v::r,h=>by
   unfold zbe at h
   unfold Held
   obtain ⟨g,off,cap,e,_,hv,hr⟩:=h
   exact ⟨g,off,cap,e,zbc.held v hv,zb3.held r hr⟩
theorem zb3.held {w:World} {P:Nat→Prop} {g off:Nat}:(l:List Val)→zb3 w P g off l→zb2 w g off l
 | [],_=>by unfold zb2;trivial
 | v::r,h=>by
   unfold zb3 at h
   unfold zb2
   exact ⟨zbc.held v h.1,zb3.held r h.2⟩
end
def zeb (P P':Nat→Prop) (w w':World):Prop:=∀ g,P g→P' g∧w'.heap[g]?=w.heap[g]?
theorem zeb.cell {P P':Nat→Prop} {w w':World} (h:zeb P P' w w') {g:Nat} (hg:P g) (o:Nat) {v:Value} (hv:w.cell? ⟨g,o,none⟩=some v):w'.cell? ⟨g,o,none⟩=some v:=
 (World.cell?_of_block (w:=w) (a:=⟨g,o,none⟩) (h g hg).2).trans hv
mutual
theorem zbc.stays {w w':World} {P P':Nat→Prop} {g off:Nat} (s:zeb P P' w w') (hg:P g):(v:Val)→zbc w P g off v→zbc w' P' g off v
 | .mk k b n t x l,h=>by
   unfold zbc at h ⊢
   obtain ⟨h0,h1,h2,h3,h4,hf,L,h5,hl⟩:=h
   exact ⟨s.cell hg _ h0,s.cell hg _ h1,s.cell hg _ h2,s.cell hg _ h3,s.cell hg _ h4,hf,L,s.cell hg _ h5,zbe.stays s l hl⟩
theorem zbe.stays {w w':World} {P P':Nat→Prop} {L:Value} (s:zeb P P' w w'):(l:List Val)→zbe w P L l→zbe w' P' L l
 | [],h=>by
   unfold zbe at h ⊢
   exact h
 | v::r,h=>by
   unfold zbe at h ⊢
   obtain ⟨g,off,cap,e,hg,hv,hr⟩:=h
   exact ⟨g,off,cap,e,(s g hg).1,zbc.stays s hg v hv,zb3.stays s hg r hr⟩
theorem zb3.stays {w w':World} {P P':Nat→Prop} {g off:Nat} (s:zeb P P' w w') (hg:P g):(l:List Val)→zb3 w P g off l→zb3 w' P' g off l
 | [],_=>by unfold zb3;trivial
 | v::r,h=>by
   unfold zb3 at h ⊢
   exact ⟨zbc.stays s hg v h.1,zb3.stays s hg r h.2⟩
end
def zdv (w:World) (P:Nat→Prop):List Value→List Val→Prop
 | xs,[]=>xs=[]
 | xs,.mk k b n t x q::r=>∃ L ys,xs=.int .i64 k::.bool b::.int .i64 n::.string t::.string x::L::ys∧Fine n t x q.length∧zbe w P L q∧zdv w P ys r
theorem zdv.stays {w w':World} {P P':Nat→Prop} (s:zeb P P' w w'):{xs:List Value}→(l:List Val)→zdv w P xs l→zdv w' P' xs l
 | _,[],h=>by unfold zdv at h ⊢;exact h
 | _,.mk k b n t x q::l,h=>by
   unfold zdv at h ⊢
   obtain ⟨L,zs,rfl,hf,hq,hr⟩:=h
   exact ⟨L,zs,rfl,hf,zbe.stays s q hq,zdv.stays s l hr⟩
theorem zdv.one {w:World} {P:Nat→Prop} {k:Int} {b:Bool} {n:Int} {t x:ByteArray} {q:List Val} {L:Value} (hf:Fine n t x q.length) (hq:zbe w P L q):zdv w P [.int .i64 k,.bool b,.int .i64 n,.string t,.string x,L] [.mk k b n t x q]:=by
 unfold zdv
 exact ⟨L,[],rfl,hf,hq,by unfold zdv;rfl⟩
theorem zdv.holds {w:World} {P:Nat→Prop} {g:Nat}:{xs:List Value}→(l:List Val)→(off:Nat)→zdv w P xs l→(∀ (j:Nat) u,xs[j]?=some u→w.cell? ⟨g,off+j,none⟩=some u)→zb3 w P g off l
 | _,[],_,_,_=>by unfold zb3;trivial
 | _,.mk k b n t x q::l,off,h,hc=>by
   unfold zdv at h
   obtain ⟨L,zs,rfl,hf,hq,hr⟩:=h
   unfold zb3 zbc
   refine ⟨⟨hc 0 _ rfl,hc 1 _ rfl,hc 2 _ rfl,hc 3 _ rfl,hc 4 _ rfl,hf,L,hc 5 _ rfl,hq⟩,zdv.holds l (off+6) hr fun j u hj=>?_⟩
   have:=hc (j+6) u hj
   rw [show off+6+j=off+(j+6) by omega]
   exact this
end Go.Proofs.YteclpnfckjfibaaGreatDoor

/- LB -/
namespace Go.Proofs
open Go.Shelf
def Tryz.laysM316_ren:Go.Shelf.Ren:=⟨fun | 316=>168 | n=>n,fun | 9=>9 | 3=>3 | 4=>4 | 37=>101 | 0=>0 | 127=>218 | 5=>5 | n=>n,fun | n=>n⟩
theorem Tryz.laysM316:Go.Proofs.LaysM.n316 Tryz.prog Tryz.laysM316_ren:={
 mixed:=by kernel_rfl
 f316:=Tryz.func168.trans (congrArg some (by kernel_rfl))
 t0:=Tryz.underlying0
 a0:=Tryz.isAgg0
 z0:=Tryz.sizeOf0
 v0:=Tryz.zeroValue0
 t3:=Tryz.underlying3
 a3:=Tryz.isAgg3
 z3:=Tryz.sizeOf3
 v3:=Tryz.zeroValue3
 t4:=Tryz.underlying4
 a4:=Tryz.isAgg4
 z4:=Tryz.sizeOf4
 v4:=Tryz.zeroValue4
 t9:=Tryz.underlying9
 a9:=Tryz.isAgg9
 z9:=Tryz.sizeOf9
 v9:=Tryz.zeroValue9
 t37:=Tryz.underlying101
 a37:=Tryz.isAgg101
 z37:=Tryz.sizeOf101
 v37:=Tryz.zeroValue101
 t127:=Tryz.underlying218
 a127:=Tryz.isAgg218
 z127:=Tryz.sizeOf218
 v127:=Tryz.zeroValue218
 t5:=Tryz.underlying5
 a5:=Tryz.isAgg5
 z5:=Tryz.sizeOf5
 v5:=Tryz.zeroValue5
 i0:=by kernel_rfl
 i3:=by kernel_rfl
 i4:=by kernel_rfl
 i5:=by kernel_rfl
 i9:=by kernel_rfl
 i37:=by kernel_rfl
 i127:=by kernel_rfl }
namespace YteclpnfckjfibaaGreatDoor
open Go.RowKit
theorem slClone (s:ByteArray) (w:World) (h2:s.size≤281474976710656):Calls Tryz.prog 168 #[.string s] w fun e w'=>e=.returned (.string s)∧Below w.heap.size w w':=Any.stringslite_Clone Tryz.laysM316 s w h2
theorem zqi (s:ByteArray) (w:World) (h2:s.size≤281474976710656):
 Calls Tryz.prog 111 #[.string s] w fun e w'=>e=.returned (.string s)∧Below w.heap.size w w':=by
 go_enter Tryz.func111,Tryz.ntmps111
 go_wp2_with (go_at_call 168;(with_reducible refine (slClone s _ h2).mono ?_);rintro e w' ⟨rfl,hb⟩)
 go_ret
 exact ⟨rfl,hb⟩
end YteclpnfckjfibaaGreatDoor
end Go.Proofs

/- LC -/
namespace Go.Proofs.YteclpnfckjfibaaGreatDoor
open Go.RowKit
structure Acc (w:World) (l:List Val) (A:Value) (wr:World):Prop where
 own:∃ xs,wr.ownsRow w.heap.size 48 6 A l.length xs∧zdv wr (fun g=>w.heap.size≤g∧g < wr.heap.size∧A.ownBlock≠some g) xs l
 bel:Below w.heap.size w wr
theorem za6 {w w':World} {base:Nat} {e:TypeId} {size:Nat} {v:Value} {n:Nat} {xs:List Value} (h:w.ownsRow base e size v n xs) (b:Below w.heap.size w w'):w'.ownsRow base e size v n xs:=by
 refine ⟨h.1,?_⟩
 rcases h.2 with h0 | ⟨g,cap,cur,e1,h1,h2,h3⟩
 ·exact .inl h0
 ·exact .inr ⟨g,cap,cur,e1,h1,(b.block g (zaa h2)).trans h2,h3⟩
end Go.Proofs.YteclpnfckjfibaaGreatDoor

/- HA -/
namespace Go.Proofs.YteclpnfckjfibaaGreatDoor
open Go.RowKit
theorem ze8 {fn:Func} {p:Tmp} (h:fn.results=#[.cell p 48]) (tmps:Array Value) {w:World} {g:Nat} {k:Int} {b:Bool} {n:Int} {t x:ByteArray} {pp:Option Addr} {len cap:Nat}
 (hp:tmps.getD p undef=.pointer (some ⟨g,0,none⟩)) (hg:Six w g k b n t x pp len cap):(results fn tmps).run Tryz.prog w=.ok (.agg #[.int .i64 k,.bool b,.int .i64 n,.string t,.string x,.slice pp len cap]) w:=by
 have hp':tmps[p]?.getD undef=.pointer (some ⟨g,0,none⟩):=by simpa using hp
 have hl:=run_loadVar_row (P:=Tryz.prog) w g 48 48 _ (0,0) _ hg Tryz.underlying48 rfl zix
 simp [results,h,hp',asAddr,hl]
end Go.Proofs.YteclpnfckjfibaaGreatDoor

/- HB -/
namespace Go.Proofs.YteclpnfckjfibaaGreatDoor
open Go.RowKit
theorem zsx {w w':World} {g:Nat} (h:w'.heap[g]?=w.heap[g]?) {o:Nat} {cs:List Value} (r:w.rangeAt g o cs):w'.rangeAt g o cs:=fun j v hv=>(World.cell?_of_block (a:=⟨g,o+j,none⟩) h).trans (r j v hv)
theorem zsy {w w':World} {g:Nat} (h:w'.heap[g]?=w.heap[g]?) {o n:Nat} (r:w.there g o n):w'.there g o n:=fun j hj=>
 ⟨by rw [World.cell?_of_block (a:=⟨g,o+j,none⟩) h];exact (r j hj).1,by rw [World.frozen?_of_block (a:=⟨g,o+j,none⟩) h];exact (r j hj).2⟩
mutual
def OneT (w:World) (g off s e:Nat):Val→Prop
 | .mk k b n t x l=>∃ L,w.rangeAt g off [.int .i64 k,.bool b,.int .i64 n,.string t,.string x,L]∧w.there g off 6∧Fine n t x l.length∧ze9 w s e L l
def ze9 (w:World) (lo hi:Nat) (L:Value):List Val→Prop
 | []=>∃ p cap,L=.slice p 0 cap
 | v::r=>∃ g off cap s e,L=.slice (some ⟨g,off,none⟩) (r.length+1) cap∧lo≤g∧g < hi∧lo≤s∧s≤e∧e≤hi∧¬ (s≤g∧g < e)∧OneT w g off s e v∧zds w g (off+6) e hi r
def zds (w:World) (g off lo hi:Nat):List Val→Prop
 | []=>True
 | v::r=>∃ s e,lo≤s∧s≤e∧e≤hi∧¬ (s≤g∧g < e)∧OneT w g off s e v∧zds w g (off+6) e hi r
end
mutual
theorem OneT.held {w:World} {g off s e:Nat}:(v:Val)→OneT w g off s e v→zba w g off v
 | .mk k b n t x l,h=>by
   unfold OneT at h
   unfold zba
   obtain ⟨L,r,_,hf,hl⟩:=h
   exact ⟨r 0 _ rfl,r 1 _ rfl,r 2 _ rfl,r 3 _ rfl,r 4 _ rfl,hf,L,r 5 _ rfl,ze9.held l hl⟩
theorem ze9.held {w:World} {lo hi:Nat} {L:Value}:(l:List Val)→ze9 w lo hi L l→Held w L l
 | [],h=>by
   unfold ze9 at h
   unfold Held
   exact h
 | v::r,h=>by
   unfold ze9 at h
   unfold Held
   obtain ⟨g,off,cap,s,e,rfl,_,_,_,_,_,_,hv,hr⟩:=h
   exact ⟨g,off,cap,rfl,OneT.held v hv,zds.held r hr⟩
theorem zds.held {w:World} {g off lo hi:Nat}:(l:List Val)→zds w g off lo hi l→zb2 w g off l
 | [],_=>by unfold zb2;trivial
 | v::r,h=>by
   unfold zds at h
   unfold zb2
   obtain ⟨s,e,_,_,_,_,hv,hr⟩:=h
   exact ⟨OneT.held v hv,zds.held r hr⟩
end
structure Keep (w w':World) (g off lo hi:Nat):Prop where
 rng:∀ o cs,off≤o→w.rangeAt g o cs→w'.rangeAt g o cs
 thr:∀ o n,off≤o→w.there g o n→w'.there g o n
 blk:∀ i,lo≤i→i < hi→i≠g→w'.heap[i]?=w.heap[i]?
theorem Keep.more {w w':World} {g off lo hi off2 lo2 hi2:Nat} (h:Keep w w' g off lo hi) (h1:off≤off2) (h2:lo≤lo2) (h3:hi2≤hi):Keep w w' g off2 lo2 hi2:=
 ⟨fun o cs ho=>h.rng o cs (by omega),fun o n ho=>h.thr o n (by omega),fun i a b c=>h.blk i (by omega) (by omega) c⟩
theorem Keep.heap {w w':World} {g off lo hi:Nat} (hg:w'.heap[g]?=w.heap[g]?) (h:∀ i,lo≤i→i < hi→w'.heap[i]?=w.heap[i]?):Keep w w' g off lo hi:=
 ⟨fun _ _ _ r=>zsx hg r,fun _ _ _ r=>zsy hg r,fun i a b _=>h i a b⟩
mutual
theorem OneT.keep {w w':World} {g off s e:Nat} (h:Keep w w' g off s e) (hn:¬ (s≤g∧g < e)):(v:Val)→OneT w g off s e v→OneT w' g off s e v
 | .mk k b n t x l,hv=>by
   unfold OneT at hv ⊢
   obtain ⟨L,r,th,hf,hl⟩:=hv
   exact ⟨L,h.rng _ _ (Nat.le_refl _) r,h.thr _ _ (Nat.le_refl _) th,hf,ze9.stays (fun i a b=>h.blk i a b (fun q=>hn ⟨q ▸ a,q ▸ b⟩)) l hl⟩
theorem ze9.stays {w w':World} {lo hi:Nat} {L:Value} (h:∀ i,lo≤i→i < hi→w'.heap[i]?=w.heap[i]?):(l:List Val)→ze9 w lo hi L l→ze9 w' lo hi L l
 | [],hl=>by
   unfold ze9 at hl ⊢
   exact hl
 | v::r,hl=>by
   unfold ze9 at hl ⊢
   obtain ⟨g,off,cap,s,e,rfl,h1,h2,h3,h4,h5,h6,hv,hr⟩:=hl
   have k:Keep w w' g off lo hi:=Keep.heap (h g h1 h2) h
   exact ⟨g,off,cap,s,e,rfl,h1,h2,h3,h4,h5,h6,OneT.keep (k.more (Nat.le_refl _) h3 h5) h6 v hv,zds.keep (k.more (by omega) (by omega) (Nat.le_refl _)) r hr⟩
theorem zds.keep {w w':World} {g off lo hi:Nat} (h:Keep w w' g off lo hi):(l:List Val)→zds w g off lo hi l→zds w' g off lo hi l
 | [],_=>by unfold zds;trivial
 | v::r,hl=>by
   unfold zds at hl ⊢
   obtain ⟨s,e,h3,h4,h5,h6,hv,hr⟩:=hl
   exact ⟨s,e,h3,h4,h5,h6,OneT.keep (h.more (Nat.le_refl _) h3 h5) h6 v hv,zds.keep (h.more (by omega) (by omega) (Nat.le_refl _)) r hr⟩
end
theorem zds.high {w:World} {g:Nat}:(l:List Val)→(off lo hi hi2:Nat)→hi≤hi2→zds w g off lo hi l→zds w g off lo hi2 l
 | [],_,_,_,_,_,_=>by unfold zds;trivial
 | v::r,off,lo,hi,hi2,h,hl=>by
   unfold zds at hl ⊢
   obtain ⟨s,e,h3,h4,h5,h6,hv,hr⟩:=hl
   exact ⟨s,e,h3,h4,by omega,h6,hv,zds.high r _ _ _ _ h hr⟩
theorem ze9.mk {w:World} {lo hi:Nat} {g off cap:Nat} {l:List Val} (h1:lo≤g) (h2:g < hi) (h:zds w g off lo hi l):ze9 w lo hi (.slice (some ⟨g,off,none⟩) l.length cap) l:=by
 cases l with
 | nil=>unfold ze9;exact ⟨_,_,rfl⟩
 | cons v r=>
   unfold zds at h
   unfold ze9
   obtain ⟨s,e,h3,h4,h5,h6,hv,hr⟩:=h
   exact ⟨g,off,cap,s,e,rfl,h1,h2,h3,h4,h5,h6,hv,hr⟩
def zdk (w:World) (own:Option Nat) (lo hi:Nat):List Value→List Val→Prop
 | xs,[]=>xs=[]
 | xs,.mk k b n t x q::r=>∃ L ys s e,xs=.int .i64 k::.bool b::.int .i64 n::.string t::.string x::L::ys∧Fine n t x q.length∧lo≤s∧s≤e∧e≤hi∧(∀ g,own=some g→¬ (s≤g∧g < e))∧ze9 w s e L q∧zdk w own e hi ys r
theorem zdk.stays {w w':World} {own:Option Nat} {hi:Nat}:(l:List Val)→(lo:Nat)→{xs:List Value}→(∀ i,lo≤i→i < hi→own≠some i→w'.heap[i]?=w.heap[i]?)→zdk w own lo hi xs l→zdk w' own lo hi xs l
 | [],_,_,_,h=>by unfold zdk at h ⊢;exact h
 | .mk k b n t x q::l,lo,_,hs,h=>by
   unfold zdk at h ⊢
   obtain ⟨L,ys,s,e,rfl,hf,g1,g2,g3,g4,hq,hr⟩:=h
   exact ⟨L,ys,s,e,rfl,hf,g1,g2,g3,g4,hq.stays (fun i a b=>hs i (by omega) (by omega) (fun o=>g4 i o ⟨a,b⟩)) q,zdk.stays l e (fun i a b=>hs i (by omega) b) hr⟩
theorem zdk.high {w:World} {own:Option Nat} {hi hi2:Nat} (h2:hi≤hi2):(l:List Val)→(lo:Nat)→{xs:List Value}→zdk w own lo hi xs l→zdk w own lo hi2 xs l
 | [],_,_,h=>by unfold zdk at h ⊢;exact h
 | .mk k b n t x q::l,lo,_,h=>by
   unfold zdk at h ⊢
   obtain ⟨L,ys,s,e,rfl,hf,g1,g2,g3,g4,hq,hr⟩:=h
   exact ⟨L,ys,s,e,rfl,hf,g1,g2,by omega,g4,hq,zdk.high h2 l e hr⟩
theorem zdk.rest {w:World} {g hi:Nat}:(l:List Val)→(off lo:Nat)→{xs:List Value}→zdk w (some g) lo hi xs l→w.rangeAt g off xs→w.there g off (l.length*6)→zds w g off lo hi l
 | [],_,_,_,_,_,_=>by unfold zds;trivial
 | .mk k b n t x q::l,off,lo,_,h,hr,ht=>by
   unfold zdk at h
   obtain ⟨L,ys,s,e,rfl,hf,g1,g2,g3,g4,hq,hl⟩:=h
   unfold zds
   refine ⟨s,e,g1,g2,g3,g4 g rfl,?_,zdk.rest l (off+6) e hl (fun j v hv=>?_) (fun j hj=>?_)⟩
   ·unfold OneT
    refine ⟨L,fun j v hv=>hr j v ?_,fun j hj=>ht j (by simp only [List.length_cons];omega),hf,hq⟩
    match j,hv with
    | 0,hv=>exact hv
    | 1,hv=>exact hv
    | 2,hv=>exact hv
    | 3,hv=>exact hv
    | 4,hv=>exact hv
    | 5,hv=>exact hv
    | j+6,hv=>simp at hv
   ·have:=hr (j+6) v hv
    rwa [show off+(j+6)=off+6+j by omega] at this
   ·have:=ht (j+6) (by simp only [List.length_cons];omega)
    rwa [show off+(j+6)=off+6+j by omega] at this
end Go.Proofs.YteclpnfckjfibaaGreatDoor

/- HC -/
namespace Go.Proofs.YteclpnfckjfibaaGreatDoor
open Go.RowKit
structure AccT (w:World) (l:List Val) (A:Value) (wr:World):Prop where
 own:∃ xs hi,wr.ownsRow w.heap.size 48 6 A l.length xs∧zdk wr A.ownBlock w.heap.size hi xs l∧w.heap.size≤hi∧hi≤wr.heap.size
 bel:Below w.heap.size w wr
end Go.Proofs.YteclpnfckjfibaaGreatDoor

/- RE -/
namespace Go.Proofs.YteclpnfckjfibaaGreatDoor
open Go.RowKit
theorem zmc (w:World) (r:Option Nat):w.grownBy w r:=⟨rfl,rfl,rfl,Nat.le_refl _,fun _ _ _=>rfl⟩
theorem zar {w:World} {base n size:Nat} {e:TypeId} {v:Value} {xs:List Value} (h:w.ownsRow base e size v n xs):∃ p cap,v=.slice p n cap:=by
 rcases h.2 with ⟨rfl,rfl⟩ | ⟨g,cap,cur,rfl,_⟩
 ·exact ⟨_,_,rfl⟩
 ·exact ⟨_,_,rfl⟩
structure Elem (α:Type) where
 k:Nat
 rel:World→(Nat→Prop)→List Value→α→Prop
 len:∀ {w P xs a},rel w P xs a→xs.length=k
 one:∀ {w P xs a},rel w P xs a→∀ u∈xs,u.oneCell'=true
 stays:∀ {w w' P P' xs a},zeb P P' w w'→rel w P xs a→rel w' P' xs a
section
variable {α:Type} {E:Elem α} {w w':World} {P P':Nat→Prop}
def RowE (E:Elem α) (w:World) (P:Nat→Prop):List Value→List α→Prop
 | xs,[]=>xs=[]
 | xs,a::l=>∃ c ys,xs=c++ys∧E.rel w P c a∧RowE E w P ys l
def zaf (E:Elem α) (w:World) (P:Nat→Prop) (v:Value) (l:List α):Prop:=
 ∃ p cap,v=.slice p l.length cap∧(l≠[]→∃ g off xs,p=some ⟨g,off,none⟩∧P g∧w.rangeAt g off xs∧RowE E w P xs l)
theorem RowE.nil:RowE E w P [] []:=by unfold RowE;rfl
theorem RowE.append:{xs ys:List Value}→(l r:List α)→RowE E w P xs l→RowE E w P ys r→RowE E w P (xs++ys) (l++r)
 | _,_,[],_,h,g=>by
   unfold RowE at h
   subst h
   exact g
 | _,_,a::l,r,h,g=>by
   unfold RowE at h
   obtain ⟨c,zs,rfl,hc,hr⟩:=h
   show RowE E w P _ (a::(l++r))
   unfold RowE
   exact ⟨c,_,List.append_assoc _ _ _,hc,RowE.append l r hr g⟩
theorem RowE.single {c:List Value} {a:α} (h:E.rel w P c a):RowE E w P c [a]:=by
 unfold RowE
 exact ⟨c,[],(List.append_nil c).symm,h,RowE.nil⟩
theorem RowE.len:{xs:List Value}→(l:List α)→RowE E w P xs l→xs.length=l.length*E.k
 | _,[],h=>by
   unfold RowE at h
   subst h
   simp
 | _,a::l,h=>by
   unfold RowE at h
   obtain ⟨c,zs,rfl,hc,hr⟩:=h
   rw [List.length_append,E.len hc,RowE.len l hr,List.length_cons,Nat.add_mul]
   omega
theorem RowE.one:{xs:List Value}→(l:List α)→RowE E w P xs l→∀ u∈xs,u.oneCell'=true
 | _,[],h,u,hu=>by
   unfold RowE at h
   subst h
   cases hu
 | _,a::l,h,u,hu=>by
   unfold RowE at h
   obtain ⟨c,zs,rfl,hc,hr⟩:=h
   rcases List.mem_append.1 hu with hu | hu
   ·exact E.one hc u hu
   ·exact RowE.one l hr u hu
theorem RowE.stays (s:zeb P P' w w'):{xs:List Value}→(l:List α)→RowE E w P xs l→RowE E w' P' xs l
 | _,[],h=>by unfold RowE at h ⊢;exact h
 | _,a::l,h=>by
   unfold RowE at h ⊢
   obtain ⟨c,zs,rfl,hc,hr⟩:=h
   exact ⟨c,zs,rfl,E.stays s hc,RowE.stays s l hr⟩
theorem RowE.at_:{xs:List Value}→(l:List α)→RowE E w P xs l→∀ i (hi:i < l.length),∃ c,E.rel w P c l[i]∧∀ j u,c[j]?=some u→xs[i*E.k+j]?=some u
 | _,[],_,i,hi=>absurd hi (by simp)
 | _,a::l,h,i,hi=>by
   unfold RowE at h
   obtain ⟨c,zs,rfl,hc,hr⟩:=h
   cases i with
   | zero=>
     refine ⟨c,hc,fun j u hu=>?_⟩
     have hj:j < c.length:=(List.getElem?_eq_some_iff.1 hu).1
     rw [Nat.zero_mul,Nat.zero_add,List.getElem?_append_left hj,hu]
   | succ i=>
     obtain ⟨d,hd,hx⟩:=RowE.at_ l hr i (by simpa using hi)
     refine ⟨d,hd,fun j u hu=>?_⟩
     have hk:=E.len hc
     rw [List.getElem?_append_right (by rw [hk,Nat.add_mul];omega),hk,show (i+1)*E.k+j - E.k=i*E.k+j by rw [Nat.add_mul];omega]
     exact hx j u hu
theorem zaf.stays (s:zeb P P' w w') {v:Value} {l:List α} (h:zaf E w P v l):zaf E w' P' v l:=by
 obtain ⟨p,cap,rfl,h⟩:=h
 refine ⟨p,cap,rfl,fun hne=>?_⟩
 obtain ⟨g,off,xs,rfl,hg,hr,he⟩:=h hne
 exact ⟨g,off,xs,rfl,(s g hg).1,fun j v hv=>s.cell hg _ (hr j v hv),he.stays s⟩
theorem zaf.at_ {v:Value} {l:List α} (h:zaf E w P v l) (i:Nat) (hi:i < l.length):∃ g off cap c,v=.slice (some ⟨g,off,none⟩) l.length cap∧P g∧E.rel w P c l[i]∧w.rangeAt g (off+i*E.k) c:=by
 obtain ⟨p,cap,rfl,h⟩:=h
 obtain ⟨g,off,xs,rfl,hg,hr,he⟩:=h (by intro e;subst e;simp at hi)
 obtain ⟨c,hc,hx⟩:=he.at_ l i hi
 refine ⟨g,off,cap,c,rfl,hg,hc,fun j u hu=>?_⟩
 rw [Nat.add_assoc]
 exact hr _ _ (hx j u hu)
theorem zaf.slice {v:Value} {l:List α} (h:zaf E w P v l):∃ p cap,v=.slice p l.length cap:=by
 obtain ⟨p,cap,rfl,_⟩:=h
 exact ⟨p,cap,rfl⟩
theorem zaf.nil (p:Option Addr) (cap:Nat):zaf E w P (.slice p 0 cap) []:=⟨p,cap,rfl,fun h=>absurd rfl h⟩
theorem zb6 {base:Nat} {e:TypeId} {v:Value} {xs:List Value} {l:List α} (h:w.ownsRow base e E.k v l.length xs) (c:RowE E w P xs l) (s:∀ g,P g→P' g) (hP:∀ g,v.ownBlock=some g→P' g):zaf E w P' v l:=by
 rcases h.2 with ⟨rfl,hn⟩ | ⟨g,cap,cur,rfl,hb,hg,h1,h2,h3,h4⟩
 ·obtain rfl:=List.length_eq_zero_iff.1 hn
  exact zaf.nil _ _
 ·refine ⟨_,cap,rfl,fun _=>⟨g,0,xs,rfl,hP g rfl,fun j u hu=>?_,c.stays (fun g hg=>⟨s g hg,rfl⟩) l⟩⟩
  have hj:j < l.length*E.k:=by
   have:=(List.getElem?_eq_some_iff.1 hu).1
   rw [h.1] at this
   exact this
  rw [Nat.zero_add,h.cellAt j hj,hu]
end
def New (w w':World):Nat→Prop:=fun g=>w.heap.size≤g∧g < w'.heap.size
def Old (w:World):Nat→Prop:=fun g=>g < w.heap.size
theorem zad {w w':World} (b:Below w.heap.size w w'):zeb (Old w) (Old w') w w':=fun g hg=>⟨Nat.lt_of_lt_of_le hg b.size,b.block g hg⟩
theorem zbq {P:Program} {ops:Array Oper} {rest:List Oper} {o:Oper} {a:Act} {w:World} {Q:Exit→Act→World→Prop} (hg:o.guard=none) (t e:TypeId) (x:Operand) (ho:o.op=.buildSlice t 1 #[(0,x)])
 (v:Value) (cs:List Value) (hx:a.eval x=v) (hv:v.cells=cs.toArray) (ie:TypeInfo) (z:Value) (k:Nat) (hk:cs.length=k) (k0:0 < k) (k1:k≤1000)
 (hu:P.underlying t=some (.slice e)) (hie:P.info? e=some ie) (hz:ie.zero=some z) (hsz:ie.size=k)
 (h:wpList P ops Q rest (a.put o.dst (.slice (some ⟨w.heap.size,0,none⟩) 1 1)) (w.alloc (.cells cs.toArray e))):wpList P ops Q (o::rest) a w:=by
 refine wpList_buildSlice hg t e 1 _ ho cs.toArray ie z hu hie hz (by rw [hsz];omega) (by rw [hsz];omega) ?_ h
 have f:=Great.fill_whole k0 [v] ((Array.range (1*ie.size)).map (z.cells[· % z.cells.size]!)) (fun u hu=>by simp at hu;subst hu;rw [hv];simpa using hk) (by simp [hsz])
 rw [hsz] at f ⊢
 simpa [hx,hv] using f
theorem zb8 (w:World) (cs:List Value) (t:TypeId):∀ j u,cs[j]?=some u→(w.alloc (.cells cs.toArray t)).cell? ((⟨w.heap.size,0,none⟩:Addr).add j)=some u:=by
 intro j u hj
 rw [Addr.add_mid,Nat.zero_add]
 exact zac (zah w _ rfl) j (by simpa using hj)
def intE:Elem Int where
 k:=1
 rel:=fun _ _ xs z=>xs=[.int .i64 z]∧(Lit.int .i64 z).wf=true
 len:=fun h=>by rw [h.1];rfl
 one:=fun h u hu=>by rw [h.1] at hu;simp at hu;subst hu;rfl
 stays:=fun _ h=>h
def za0:Elem ByteArray where
 k:=1
 rel:=fun _ _ xs t=>xs=[.string t]∧t.size≤2097152
 len:=fun h=>by rw [h.1];rfl
 one:=fun h u hu=>by rw [h.1] at hu;simp at hu;subst hu;rfl
 stays:=fun _ h=>h
def zcz (w:World) (P:Nat→Prop) (xs:List Value):Val→Prop
 | .mk k b n t x q=>∃ L,xs=[.int .i64 k,.bool b,.int .i64 n,.string t,.string x,L]∧Fine n t x q.length∧zbe w P L q
def valE:Elem Val where
 k:=6
 rel:=zcz
 len:=fun {w P xs a} h=>by
  obtain ⟨k,b,n,t,x,q⟩:=a
  obtain ⟨L,rfl,_⟩:=h
  rfl
 one:=fun {w P xs a} h u hu=>by
  obtain ⟨k,b,n,t,x,q⟩:=a
  obtain ⟨L,rfl,_,hq⟩:=h
  obtain ⟨p,cap,rfl⟩:=zbt (zbe.held q hq)
  simp only [List.mem_cons,List.mem_nil_iff,or_false] at hu
  rcases hu with rfl | rfl | rfl | rfl | rfl | rfl <;> rfl
 stays:=fun {w w' P P' xs a} s h=>by
  obtain ⟨k,b,n,t,x,q⟩:=a
  obtain ⟨L,rfl,hf,hq⟩:=h
  exact ⟨L,rfl,hf,zbe.stays s q hq⟩
def capK (v:Value):Prop:=(∀ p n c,v=.slice p n c→n≤c)∧∀ n c,v=.slice none n c→c=0
def rowE:Elem (List Val) where
 k:=1
 rel:=fun w P xs r=>∃ v,xs=[v]∧zaf valE w P v r∧capK v∧r.length≤2097152
 len:=fun h=>by obtain ⟨v,rfl,_⟩:=h;rfl
 one:=fun h u hu=>by
  obtain ⟨v,rfl,hs,_⟩:=h
  obtain ⟨p,c,rfl⟩:=hs.slice
  simp at hu;subst hu;rfl
 stays:=fun s h=>by obtain ⟨v,rfl,hs,hc,hl⟩:=h;exact ⟨v,rfl,hs.stays s,hc,hl⟩
structure TabL where
 vars:List ByteArray
 rows:List (List Val)
def tabE:Elem TabL where
 k:=2
 rel:=fun w P xs t=>∃ v r,xs=[v,r]∧zaf za0 w P v t.vars∧zaf rowE w P r t.rows∧capK v∧capK r∧t.vars.length≤2097152∧t.rows.length≤2097152
 len:=fun h=>by obtain ⟨v,r,rfl,_⟩:=h;rfl
 one:=fun h u hu=>by
  obtain ⟨v,r,rfl,hs,hr,_⟩:=h
  obtain ⟨p,c,rfl⟩:=hs.slice
  obtain ⟨p2,c2,rfl⟩:=hr.slice
  simp only [List.mem_cons,List.mem_nil_iff,or_false] at hu
  rcases hu with rfl | rfl <;> rfl
 stays:=fun s h=>by obtain ⟨v,r,rfl,hs,hr,hc⟩:=h;exact ⟨v,r,rfl,hs.stays s,hr.stays s,hc⟩
def Inn (w:World) (A:Value) (wr:World):Nat→Prop:=fun g=>w.heap.size≤g∧g < wr.heap.size∧A.ownBlock≠some g
structure AccE {β:Type} (E:Elem β) (D:TypeId) (w:World) (bs:List β) (A:Value) (wr:World):Prop where
 own:∃ xs,wr.ownsRow w.heap.size D E.k A bs.length xs∧RowE E wr (Inn w A wr) xs bs
 bel:Below w.heap.size w wr
theorem AccE.next {β:Type} {E:Elem β} {D:TypeId} {w wr wX w3 w5:World} {A A2:Value} {xs c:List Value} {bs:List β} {b:β} {o:Obj} (hown:wr.ownsRow w.heap.size D E.k A bs.length xs) (hrow:RowE E wr (Inn w A wr) xs bs) (hbel:Below w.heap.size w wr)
 (bX:Below wr.heap.size wr wX) (b3:Below wX.heap.size wX w3) (hc:E.rel w3 (New wX w3) c b) (hown':w5.ownsRow w.heap.size D E.k A2 (bs.length+1) (xs++c)) (hg:(w3.alloc o).grownBy w5 A.ownBlock)
 (hloc:A2.ownBlock=A.ownBlock∨A2.ownBlock=some (w3.alloc o).heap.size):AccE E D w (bs++[b]) A2 w5:=by
 have s0:=hbel.size
 have sX:=bX.size
 have s3:=b3.size
 have s4:(w3.alloc o).heap.size=w3.heap.size+1:=by simp
 have s5:=hg.size
 have off:∀ g,g < w3.heap.size→A.ownBlock≠some g→A2.ownBlock≠some g∧w5.heap[g]?=w3.heap[g]?:=by
  intro g hlt hne
  refine ⟨?_,(hg.block g (by omega) (fun e=>hne e.symm)).trans (Below.heap_alloc _ _ _ hlt)⟩
  rcases hloc with e | e
  ·rw [e];exact hne
  ·rw [e];intro q;cases q;omega
 refine ⟨⟨xs++c,by simpa using hown',RowE.append bs [b] (hrow.stays (fun g hgg=>?_)) (RowE.single (E.stays (fun g hgg=>?_) hc))⟩,?_⟩
 ·obtain ⟨h1,h2,h3⟩:=hgg
  obtain ⟨o1,o2⟩:=off g (by omega) h3
  exact ⟨⟨h1,by omega,o1⟩,o2.trans ((b3.block g (by omega)).trans (bX.block g h2))⟩
 ·obtain ⟨h1,h2⟩:=hgg
  have hne:A.ownBlock≠some g:=fun e=>by have:=(hown.lt g e).2;omega
  obtain ⟨o1,o2⟩:=off g h2 hne
  exact ⟨⟨by omega,by omega,o1⟩,o2⟩
 ·have b4:Below w.heap.size w (w3.alloc o):=((hbel.trans (bX.mono s0)).trans (b3.mono (by omega))).alloc (by omega) _
  exact b4.grown hg (by omega) (fun g e=>(hown.lt g e).1)
def za8 {β:Type} (E:Elem β) (D:TypeId) (w:World) (bs:List β) (e:Ending) (w':World):Prop:=
 ∃ V xs,e=.returned V∧w'.ownsRow w.heap.size D E.k V bs.length xs∧RowE E w' (Inn w V w') xs bs∧Below w.heap.size w w'
def zb0 {β:Type} (E:Elem β) (b:β) (w:World) (e:Ending) (w':World):Prop:=
 ∃ u c,e=.returned u∧u.cells=c.toArray∧E.rel w' (New w w') c b∧Below w.heap.size w w'
theorem zas {P:Program} {ops:Array Oper} {rest:List Oper} {o:Oper} {a:Act} {w:World} {Q:Exit→Act→World→Prop} (x y:Operand) (g:Nat) (t ty:TypeId) (old:Array Value) (cs:List Value) (k:Nat) (hg:w.heap[g]?=some (.cells old t (0,0)))
 (hk:cs.length=k) (hgd:o.guard=none) (ho:o.op=.store ty x y) (hx:a.eval x=.pointer (some ⟨g,0,none⟩)) (hy:a.eval y=.agg cs.toArray) (hi:(P.info? ty).map (·.size)=some k) (hold:old.size=k) (h1:∀ u∈cs,u.oneCell'=true)
 (h:∀ w',Only g w w'→w'.heap[g]?=some (.cells cs.toArray t (0,0))→wpList P ops Q rest (a.put o.dst undef) w'):wpList P ops Q (o::rest) a w:=
 wpList_plain hgd fun _ hK=>by
  unfold Oper.wp execOp
  simp only [ho,hx,hy,Instr.storeAt,Instr.sureAddr,Sem.run_bind,Sem.run_pure,Result.andThen_ok,run_storeVar_row (P:=P) w g t ty old cs.toArray hg (by rw [hi];simp [hk]) (by simp [hk,hold]) (all_oneCell_toArray h1)]
  exact hK _ _ (h _ (Only.setRow w _) (zdz hg))
theorem zax {P:Program} {ops:Array Oper} {rest:List Oper} {o:Oper} {a:Act} {w:World} {Q:Exit→Act→World→Prop} (y:Operand) (g off:Nat) (ty:TypeId) (cs:List Value) (k:Nat) (d:TypeDesc) (hr:w.rangeAt g off cs) (hk:cs.length=k)
 (hu:P.underlying ty=some d) (hd:d.isRow=true) (hi:(P.info? ty).map (·.size)=some k) (hgd:o.guard=none) (ho:o.op=.load ty y) (hx:a.eval y=.pointer (some ⟨g,off,none⟩))
 (h:wpList P ops Q rest (a.put o.dst (.agg cs.toArray)) w):wpList P ops Q (o::rest) a w:=
 wpList_load_mid hgd ty y ho g off hx cs d hr hu hd (by rw [hi,hk]) h
theorem zag {P:Program} {ops:Array Oper} {rest:List Oper} {o:Oper} {a:Act} {w:World} {Q:Exit→Act→World→Prop} (y:Operand) (g:Nat) (t ty:TypeId) (cs:List Value) (k:Nat) (d:TypeDesc) (hg:w.heap[g]?=some (.cells cs.toArray t (0,0))) (hk:cs.length=k)
 (hu:P.underlying ty=some d) (hd:(match d with | .struct _ | .array _ _=>true | _=>false)=true) (hi:(P.info? ty).map (·.size)=some k) (hgd:o.guard=none) (ho:o.op=.load ty y) (hx:a.eval y=.pointer (some ⟨g,0,none⟩))
 (h:wpList P ops Q rest (a.put o.dst (.agg cs.toArray)) w):wpList P ops Q (o::rest) a w:=
 wpList_load_row hgd ty y ho g hx t cs.toArray (0,0) d hg hu hd (by rw [hi];simp [hk]) h
theorem zd3:(Tryz.prog.info? 3).map (fun i=>(i.zero,i.size,i.bytes))=some (some (.int .i64 0),1,8):=by kernel_rfl
theorem zej:(Tryz.prog.info? 9).map (fun i=>(i.zero,i.size,i.bytes))=some (some (.string ⟨#[]⟩),1,16):=by kernel_rfl
theorem zai:(Tryz.prog.info? 48).map (·.size)=some 6:=by kernel_rfl
theorem zfa:(Tryz.prog.info? 48).map (fun i=>(i.zero,i.size,i.bytes))=some (some (.agg #[.int .i64 0,.bool false,.int .i64 0,.string ⟨#[]⟩,.string ⟨#[]⟩,.slice none 0 0]),6,80):=by kernel_rfl
theorem zfb:(Tryz.prog.info? 43).map (fun i=>(i.zero,i.size,i.bytes))=some (some (.slice none 0 0),1,24):=by kernel_rfl
theorem zcp {w:World} {base n size:Nat} {e:TypeId} {v:Value} {xs:List Value} (h:w.ownsRow base e size v n xs):capK v:=by
 rcases h.2 with ⟨rfl,rfl⟩ | ⟨g,cap,cur,rfl,_,_,h1,_⟩
 ·exact ⟨fun p m c hv=>by cases hv;exact Nat.le_refl _,fun m c hv=>by cases hv;rfl⟩
 ·exact ⟨fun p m c hv=>by cases hv;exact h1,fun m c hv=>by cases hv⟩
theorem zgx:capK (.slice none 0 0):=⟨fun p n c h=>by cases h;exact Nat.le_refl _,fun n c h=>by cases h;rfl⟩
end Go.Proofs.YteclpnfckjfibaaGreatDoor
