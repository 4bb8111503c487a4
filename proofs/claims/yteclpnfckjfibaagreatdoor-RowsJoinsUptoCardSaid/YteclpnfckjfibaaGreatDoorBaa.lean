/- Texts of one kind, one behind the other: each says ahead of itself what it shows. -/
import Derived.KernelRfl
import Derived.Test.YteclpnfckjfibaaGreatDoorProg
import Derived.WalkKit
import Derived.WalkSpells
import Derived.Outline
import Derived.LoopTactic
import Derived.Lib.Hide
import Derived.Below
import Derived.Sort.Grow
import Derived.Deep.QuietTactic
import Derived.BigQuiet
import Derived.Laws.Rows
import Derived.Laws.Tables
import Derived.Deep.MidRow
import Derived.OrdersHeld
import Derived.Deep.RegionHeld
import Derived.Deep.DeepCutAuto
import Derived.Laws.StructEq
import Derived.Deep.RegionWith
import Derived.Lib.IndexMore
import Derived.Lib.TrimByte
import Derived.Deep.RegionHeld3
import Derived.BigGuardPart
import Derived.Shelf.Strings.Trim
import Derived.Shelf.Small.Utf8
import Derived.Shelf.Small.Strs
import Derived.Shelf.Small.Wraps
import Derived.Shelf.Strconv.Itoa0
import Derived.Shelf.Strconv.Itoa1
import Derived.Shelf.LaysM
import Derived.Shelf.Strconv.Itoa2
import Derived.Shelf.Strconv.Itoa3
import Derived.Shelf.Strconv.Itoa4
import Derived.Shelf.Strconv.ParseIntEmpty
import Derived.Shelf.Strconv.Clone
import Derived.Shelf.Strconv.SyntaxError
import Derived.Shelf.LaysC
import Derived.Shelf.Strconv.ToError
import Derived.Shelf.Strconv.Lower
import Derived.Shelf.Strconv.ParseUint10
import Derived.Shelf.Strconv.ParseUint10Empty
import Derived.Shelf.Strconv.ParseUint10Any
import Derived.Shelf.Strconv.ParseInt10
import Derived.Shelf.Strconv.RangeError
import Derived.Shelf.Strconv.ToErrorRange
import Derived.Shelf.Strconv.ParseUintEmpty
import Derived.Shelf.Strconv.ParseUint10b64
import Derived.Shelf.Strconv.ParseUint10b32
import Derived.Shelf.Strconv.ParseUint10b16
import Derived.Shelf.Strconv.ParseUint10b8
import Derived.Shelf.Strconv.ParseUint10At
import Derived.Shelf.Strconv.ParseInt10At64
import Derived.Shelf.Strconv.ParseInt10At32
import Derived.Shelf.Strconv.ParseInt10At16
import Derived.Shelf.Strconv.ParseInt10At8
import Derived.Shelf.Strconv.ParseInt10All
import Derived.Shelf.Strconv.ParseIntPublic10
import Derived.Shelf.Strconv.ErrVarParseInt
import Derived.Shelf.Strings.Search1
import Derived.Shelf.Strings.Search2
import Derived.Shelf.Strings.Cut
import Derived.Shelf.Strings.Shaped
import Derived.Shelf.Strings.Prefix
import Derived.Shelf.Strings.Runes
import Derived.Shelf.Strings.AsciiSet
import Derived.Shelf.Unicode.DecodeSlow
/- M -/
namespace Go.Proofs.YteclpnfckjfibaaGreatDoor
def BASE:Nat:=1000000000
def vN:Nat→(Nat→Nat)→Nat
 | 0,_=>0
 | n+1,f=>vN n f+f n*BASE ^ n
def wval (f:Nat→Nat):Nat:=vN 16 f
def ze4 (f:Nat→Nat):Prop:=∀ j,j < 16→f j < BASE
def upd (f:Nat→Nat) (k v:Nat):Nat→Nat:=fun j=>if j=k then v else f j
theorem zrh (f:Nat→Nat) (k v:Nat):upd f k v k=v:=by simp [upd]
theorem zf7 (f:Nat→Nat) {k j:Nat} (v:Nat) (h:j≠k):upd f k v j=f j:=by simp [upd,h]
theorem ze4.upd {f:Nat→Nat} (h:ze4 f) {k v:Nat} (hv:v < BASE):ze4 (upd f k v):=by
 intro j hj
 by_cases e:j=k
 ·subst e;rw [zrh];exact hv
 ·rw [zf7 _ _ e];exact h j hj
theorem zw3 (f g:Nat→Nat) (n:Nat) (h:∀ j,j < n→f j=g j):vN n f=vN n g:=by
 induction n with
 | zero=>rfl
 | succ n ih=>simp only [vN];rw [ih (fun j hj=>h j (by omega)),h n (by omega)]
theorem vN_upd (f:Nat→Nat) (k v n:Nat) (h:n≤k):vN n (upd f k v)=vN n f:=
 zw3 _ _ _ fun j hj=>zf7 _ _ (by omega)
theorem vN_lt (f:Nat→Nat) (h:ze4 f) (n:Nat) (hn:n≤16):vN n f < BASE ^ n:=by
 induction n with
 | zero=>simp [vN]
 | succ n ih=>
   have hj:=h n (by omega)
   have ih:=ih (by omega)
   have:f n*BASE ^ n+BASE ^ n≤BASE ^ (n+1):=by
    have:(f n+1)*BASE ^ n≤BASE*BASE ^ n:=Nat.mul_le_mul_right _ hj
    rw [Nat.pow_succ,Nat.mul_comm (BASE ^ n)]
    rw [Nat.add_mul,Nat.one_mul] at this
    exact this
   simp only [vN];omega
theorem zw4 (f g:Nat→Nat) (k n:Nat) (h:k≤n) (he:∀ j,k≤j→j < n→f j=g j):
 (vN n f:Int) - vN n g=(vN k f:Int) - vN k g:=by
 induction n with
 | zero=>obtain rfl:k=0:=by omega
         rfl
 | succ n ih=>
   by_cases hk:k=n+1
   ·subst hk;rfl
   ·have:=ih (by omega) (fun j a b=>he j a (by omega))
    have e:=he n (by omega) (by omega)
    simp only [vN,e];omega
structure zw5 (f g h:Nat→Nat) (c k:Nat):Prop where
 sum:vN k h+c*BASE ^ k=vN k f+vN k g
 rest:∀ j,k≤j→h j=f j
 words:ze4 h
 one:c≤1
theorem zw5.zero {f g:Nat→Nat} (hf:ze4 f):zw5 f g f 0 0:=⟨by simp [vN],fun _ _=>rfl,hf,by omega⟩
structure zid (f g h:Nat→Nat) (c k:Nat):Prop where
 sum:vN k h+vN k g=vN k f+c*BASE ^ k
 rest:∀ j,k≤j→h j=f j
 words:ze4 h
 one:c≤1
theorem zid.zero {f g:Nat→Nat} (hf:ze4 f):zid f g f 0 0:=⟨by simp [vN],fun _ _=>rfl,hf,by omega⟩
structure zri (f:Nat→Nat) (d:Nat) (h:Nat→Nat) (c k:Nat):Prop where
 sum:vN k h+c*BASE ^ k=vN k f*10+d
 rest:∀ j,k≤j→h j=f j
 words:ze4 h
 one:c≤9
theorem zri.zero {f:Nat→Nat} (hf:ze4 f) {d:Nat} (hd:d≤9):zri f d f d 0:=⟨by simp [vN],fun _ _=>rfl,hf,by omega⟩
end Go.Proofs.YteclpnfckjfibaaGreatDoor

/- A0 -/
namespace Go.Proofs.YteclpnfckjfibaaGreatDoor
open Go.RowKit
structure IsNum (c:Array Value) (n:Bool) (f:Nat→Nat):Prop where
 neg:c[0]?=some (.bool n)
 word:∀ j,j < 16→c[1+j]?=some (.int .u32 (f j))
 size:c.size=17
 lt:ze4 f
structure Only (b:Nat) (w w':World):Prop where
 os:w'.os=w.os
 tape:w'.tape=w.tape
 output:w'.output=w.output
 size:w.heap.size≤w'.heap.size
 block:∀ k,k < w.heap.size→k≠b→w'.heap[k]?=w.heap[k]?
 drawn:w.drawn≤w'.drawn
theorem Only.refl (b:Nat) (w:World):Only b w w:=⟨rfl,rfl,rfl,Nat.le_refl _,fun _ _ _=>rfl,Nat.le_refl _⟩
theorem Only.trans {b:Nat} {x y z:World} (h:Only b x y) (k:Only b y z):Only b x z:=
 ⟨k.os.trans h.os,k.tape.trans h.tape,k.output.trans h.output,Nat.le_trans h.size k.size,fun i hi e=>(k.block i (Nat.lt_of_lt_of_le hi h.size) e).trans (h.block i hi e),Nat.le_trans h.drawn k.drawn⟩
theorem Only.drewN {b:Nat} {x y:World} (h:Only b x y) (n:Nat):Only b x (y.drewN n):=⟨h.os,h.tape,h.output,h.size,h.block,Nat.le_trans h.drawn (Nat.le_add_right _ _)⟩
theorem Only.drew {b:Nat} {x y:World} (h:Only b x y):Only b x y.drew:=⟨h.os,h.tape,h.output,h.size,h.block,Nat.le_trans h.drawn (Nat.le_add_right _ 1)⟩
theorem Only.setCell {b:Nat} {x y:World} (h:Only b x y) (o:Nat) (s:Option Nat) (v:Value):Only b x (y.setCell ⟨b,o,s⟩ v):=
 h.trans ⟨rfl,rfl,rfl,by simp [World.setCell],fun _ _ e=>Below.heap_setCell _ _ _ _ e,Nat.le_refl _⟩
theorem zam {B b:Nat} {x y z:World} (h:Below B x y) (k:Only b y z) (hb:B≤b) (hs:B≤y.heap.size):Below B x z:=
 h.trans ⟨k.os,k.tape,k.output,k.size,fun i hi=>k.block i (by omega) (by omega)⟩
theorem zep {B:Nat} {a w:World} (h:Below B a w) (n:Nat):Below B a (w.drewN n):=⟨h.os,h.tape,h.output,h.size,h.block⟩
theorem zab {B:Nat} {x y z:World} (h:Below B x y) (k:Below y.heap.size y z) (hs:B≤y.heap.size):Below B x z:=h.trans (k.mono hs)
structure Low (B:Nat) (w w':World):Prop where
 is:Below B w w'
 drawn:w.drawn≤w'.drawn
instance {B:Nat} {w w':World}:Coe (Low B w w') (Below B w w'):=⟨Low.is⟩
section
variable {B B':Nat} {a b c w w':World}
theorem Low.refl (B:Nat) (w:World):Low B w w:=⟨Below.refl _ _,Nat.le_refl _⟩
theorem Low.trans (h:Low B a b) (k:Low B b c):Low B a c:=⟨h.is.trans k.is,Nat.le_trans h.drawn k.drawn⟩
theorem Low.mono (h:Low B w w') (hB:B'≤B):Low B' w w':=⟨h.is.mono hB,h.drawn⟩
theorem Low.drew (h:Low B a w):Low B a w.drew:=⟨h.is.drew,Nat.le_trans h.drawn (Nat.le_add_right _ 1)⟩
theorem Low.alloc (h:Low B a w) (hB:B≤w.heap.size) (o:Obj):Low B a (w.alloc o):=⟨h.is.alloc hB o,h.drawn⟩
theorem Low.size (h:Low B w w'):w.heap.size≤w'.heap.size:=h.is.size
theorem Low.os (h:Low B w w'):w'.os=w.os:=h.is.os
theorem Low.tape (h:Low B w w'):w'.tape=w.tape:=h.is.tape
theorem Low.output (h:Low B w w'):w'.output=w.output:=h.is.output
theorem Low.block (h:Low B w w'):∀ k,k < B→w'.heap[k]?=w.heap[k]?:=h.is.block
theorem Low.cell (h:Low B w w') {p:Addr} (hp:p.block < B):w'.cell? p=w.cell? p:=h.is.cell hp
theorem Low.frozen (h:Low B w w') {p:Addr} (hp:p.block < B):w'.frozen? p=w.frozen? p:=h.is.frozen hp
theorem zw6 {B b:Nat} {x y z:World} (h:Low B x y) (k:Only b y z) (hb:B≤b) (hs:B≤y.heap.size):Low B x z:=
 ⟨h.is.trans ⟨k.os,k.tape,k.output,k.size,fun i hi=>k.block i (by omega) (by omega)⟩,Nat.le_trans h.drawn k.drawn⟩
theorem zt1 (h:Low B a w) (n:Nat):Low B a (w.drewN n):=⟨⟨h.os,h.tape,h.output,h.size,h.block⟩,Nat.le_trans h.drawn (Nat.le_add_right _ _)⟩
theorem za1 {B:Nat} {x y z:World} (h:Low B x y) (k:Low y.heap.size y z) (hs:B≤y.heap.size):Low B x z:=h.trans (k.mono hs)
theorem low1 (w:World) (o:Obj):Low w.heap.size w (w.alloc o):=(Low.refl _ _).alloc (Nat.le_refl _) _
theorem low2 (w:World) (o p:Obj):Low w.heap.size w ((w.alloc o).alloc p):=(low1 w o).alloc (by simp) _
theorem low3 (w:World) (a b c:Obj):Low w.heap.size w (((w.alloc a).alloc b).alloc c):=(low2 w a b).alloc (by simp;omega) _
theorem zaz (w:World) (o:Obj):Below w.heap.size w (w.alloc o):=(low1 w o).is
theorem zc6 (w:World) (o p:Obj):Below w.heap.size w ((w.alloc o).alloc p):=(low2 w o p).is
theorem zzg (w:World) (a b c:Obj):Below w.heap.size w (((w.alloc a).alloc b).alloc c):=(low3 w a b c).is
theorem zc9 {B e o:Nat} {y z:World} (h:Below B y z) (s:Option Nat) (v:Value) (hb:B≤e) (hs:B≤z.heap.size):Below B y (z.setCell ⟨e,o,s⟩ v):=
 zam h ((Only.refl e z).setCell o s v) hb hs
theorem zb9 {B e o:Nat} {y z:World} (h:Low B y z) (s:Option Nat) (v:Value) (hb:B≤e) (hs:B≤z.heap.size):Low B y (z.setCell ⟨e,o,s⟩ v):=
 zw6 h ((Only.refl e z).setCell o s v) hb hs
end
theorem zac {w:World} {b:Nat} {c:Array Value} {t:TypeId} (h:w.heap[b]?=some (.cells c t)) (o:Nat) {v:Value} (hv:c[o]?=some v):
 w.cell? ⟨b,o,none⟩=some v:=by
 simp [World.cell?,h,hv]
theorem zdy {w:World} {b:Nat} {c:Array Value} {t:TypeId} (h:w.heap[b]?=some (.cells c t)) (o:Nat):w.frozen? ⟨b,o,none⟩=false:=by
 simp [World.frozen?,h]
theorem zah (w:World) (o:Obj) {n:Nat} (h:w.heap.size=n):(w.alloc o).heap[n]?=some o:=by
 show (w.heap.push o)[n]?=_
 simp [← h]
theorem zaq {w:World} (o:Obj) {n:Nat} {x:Obj} (h:w.heap[n]?=some x):(w.alloc o).heap[n]?=some x:=by
 rw [Below.heap_alloc _ _ _ (by have:=Array.getElem?_eq_some_iff.1 h;obtain ⟨a,_⟩:=this;exact a)];exact h
theorem zcd {w:World} {b:Nat} {c:Array Value} {t:TypeId} (h:w.heap[b]?=some (.cells c t)) (o:Nat) (v:Value):
 (w.setCell ⟨b,o,none⟩ v).heap[b]?=some (.cells (c.setIfInBounds o v) t):=by
 simp [World.setCell,Array.getElem?_modify,h]
theorem zaa {w:World} {b:Nat} {x:Obj} (h:w.heap[b]?=some x):b < w.heap.size:=by
 obtain ⟨a,_⟩:=Array.getElem?_eq_some_iff.1 h;exact a
theorem IsNum.one {c:Array Value} {n:Bool} {f:Nat→Nat} (h:IsNum c n f):c.all (·.oneCell')=true:=by
 rw [Array.all_eq_true]
 intro i hi
 rw [h.size] at hi
 cases i with
 | zero=>have:=h.neg;rw [Array.getElem?_eq_getElem (by rw [h.size];omega)] at this;rw [Option.some.inj this];rfl
 | succ i=>have:=h.word i (by omega);rw [Nat.add_comm] at this;rw [Array.getElem?_eq_getElem (by rw [h.size];omega)] at this;rw [Option.some.inj this];rfl
theorem zdz {w:World} {g:Nat} {c c':Array Value} {t:TypeId} (h:w.heap[g]?=some (.cells c t)):(w.setRow g c').heap[g]?=some (.cells c' t):=by
 simp [World.setRow,Array.getElem?_modify,h]
theorem Only.setRow {b:Nat} (w:World) (c:Array Value):Only b w (w.setRow b c):=
 ⟨rfl,rfl,rfl,by simp [World.setRow],fun k _ e=>by simp only [World.setRow,Array.getElem?_modify];rw [if_neg (by omega)],Nat.le_refl _⟩
def Lies (w:World) (g:Nat) (c:Array Value) (n:Bool) (f:Nat→Nat):Prop:=w.heap[g]?=some (.cells c 280)∧IsNum c n f
theorem Lies.heap {w:World} {g:Nat} {c:Array Value} {n:Bool} {f:Nat→Nat} (h:Lies w g c n f):w.heap[g]?=some (.cells c 280):=h.1
theorem Lies.below {w w':World} {g:Nat} {c:Array Value} {n:Bool} {f:Nat→Nat} (h:Lies w g c n f) (k:Below w.heap.size w w'):Lies w' g c n f:=
 ⟨(k.block g (zaa h.1)).trans h.1,h.2⟩
theorem Lies.only {w w':World} {g b:Nat} {c:Array Value} {n:Bool} {f:Nat→Nat} (h:Lies w g c n f) (k:Only b w w') (e:g≠b):Lies w' g c n f:=
 ⟨(k.block g (zaa h.1) e).trans h.1,h.2⟩
theorem Lies.drew {w:World} {g:Nat} {c:Array Value} {n:Bool} {f:Nat→Nat} (h:Lies w g c n f):Lies w.drew g c n f:=h
theorem Lies.lt {w:World} {g:Nat} {c:Array Value} {n:Bool} {f:Nat→Nat} (h:Lies w g c n f):g < w.heap.size:=zaa h.1
theorem putS:(∀ (a:Act) (d:Tmp) (v:Value),a.put (some d) v={ a with tmps:=a.tmps.setIfInBounds d v })∧(∀ (a:Act) (v:Value),a.put none v=a)∧(∀ (l:List Value) (i:Nat) (v:Value),l.toArray.setIfInBounds i v=(l.set i v).toArray)∧(∀ (a v:Value) (l:List Value),(a::l).set 0 v=v::l)∧(∀ (a v:Value) (l:List Value) (n:Nat),(a::l).set (n+1) v=a::l.set n v)∧
 (∀ (l:List Oper) (i:Nat) (h:i < l.toArray.size),l.toArray[i]=l[i]'(by simpa using h))∧(∀ (a:Oper) (l:List Oper) (h:0 < (a::l).length),(a::l)[0]=a)∧(∀ (a:Oper) (l:List Oper) (i:Nat) (h:i+1 < (a::l).length),(a::l)[i+1]=l[i]'(by simpa using h)):=
 ⟨fun _ _ _=>rfl,fun _ _=>rfl,fun _ _ _=>List.setIfInBounds_toArray _ _ _,fun _ _ _=>rfl,fun _ _ _ _=>rfl,fun _ _ h=>List.getElem_toArray h,fun _ _ _=>rfl,fun _ _ _ _=>rfl⟩
section
variable {ops:Array Oper} {Q:Exit→Act→World→Prop} {md:Region.Mode} {S:World→Prop}
theorem tk {i:Nat} {oi:Oper} {v:Value} {fuel:Nat} {listed l':Array Bool} {a a':Act} {w:World} (hi:ops[i]?=some oi) (hy:YieldsIf Tryz.prog ops S oi v a) (hS:S w)
 (h:wpAnyH Tryz.prog md ops Q S fuel l' a' w) (hs:Region.noSelect ops=true:=by kernel_rfl) (hf:Region.free md ops listed i=true:=by kernel_rfl) (hr:(Region.ready md ops listed).contains i=true:=by kernel_rfl)
 (hQ:∀ c a w,Q (.panic c) (a.put oi.dst v) w→Q (.panic c) a w:=by exact fun _ _ _ h=>h) (ha:a.put oi.dst v=a':=by (try simp only [putS]);exact rfl) (hl:listed.setIfInBounds i true=l':=by (try simp only [putS]);exact rfl):wpAnyH Tryz.prog md ops Q S (fuel+1) listed a w:=by
 subst ha hl
 exact wpAnyH_take hi hs hf hr hQ hy hS h
theorem tg {i:Nat} {oi:Oper} (v:Value) {fuel:Nat} {listed l':Array Bool} {a a':Act} {w:World} (hi:ops[i]?=some oi) (hS:S w)
 (h:wpAnyH Tryz.prog md ops Q S fuel l' a' w) (hy:YieldsIf Tryz.prog ops S oi v a:=by exact Or.inl ⟨by rfl,fun W _=>by go_simp⟩) (hs:Region.noSelect ops=true:=by kernel_rfl) (hf:Region.free md ops listed i=true:=by kernel_rfl) (hr:(Region.ready md ops listed).contains i=true:=by kernel_rfl)
 (hQ:∀ c a w,Q (.panic c) (a.put oi.dst v) w→Q (.panic c) a w:=by exact fun _ _ _ h=>h) (ha:a.put oi.dst v=a':=by (try simp only [putS]);exact rfl) (hl:listed.setIfInBounds i true=l':=by (try simp only [putS]);exact rfl):wpAnyH Tryz.prog md ops Q S (fuel+1) listed a w:=by
 subst ha hl
 exact wpAnyH_take hi hs hf hr hQ hy hS h
theorem tn {i:Nat} {oi:Oper} {fuel:Nat} {listed l':Array Bool} {a a':Act} {w:World} (hi:ops[i]?=some oi) (hS:S w)
 (h:wpAnyH Tryz.prog md ops Q S fuel l' a' w) (hy:YieldsIf Tryz.prog ops S oi undef a:=by exact Or.inr ⟨by rfl,rfl⟩) (hs:Region.noSelect ops=true:=by kernel_rfl) (hf:Region.free md ops listed i=true:=by kernel_rfl) (hr:(Region.ready md ops listed).contains i=true:=by kernel_rfl)
 (hQ:∀ c a w,Q (.panic c) (a.put oi.dst undef) w→Q (.panic c) a w:=by exact fun _ _ _ h=>h) (ha:a.put oi.dst undef=a':=by (try simp only [putS]);exact rfl) (hl:listed.setIfInBounds i true=l':=by (try simp only [putS]);exact rfl):wpAnyH Tryz.prog md ops Q S (fuel+1) listed a w:=by
 subst ha hl
 exact wpAnyH_take hi hs hf hr hQ hy hS h
theorem tr (i:Nat) {oi:Oper} {fuel:Nat} {listed:Array Bool} {a:Act} {w:World} (ho:ops[i]?=some oi)
 (h:∀ K':Act→World→Prop,Shut (∀ a w,S w→(S w→wpAnyH Tryz.prog md ops Q S fuel (listed.setIfInBounds i true) a w)→K' a w)→if Region.wanted oi (yielded ops a.tmps)=true then Oper.wp Tryz.prog oi a w K' Q else K' (a.put oi.dst undef) w)
 (hr:Region.ready md ops listed=[i]:=by kernel_rfl):wpAnyH Tryz.prog md ops Q S (fuel+1) listed a w:=
 wpAnyH_ready hr (by simp) (AllReadyH.cons ho h AllReadyH.nil)
end
end Go.Proofs.YteclpnfckjfibaaGreatDoor

/- A1 -/
namespace Go.Proofs.YteclpnfckjfibaaGreatDoor
open Go.RowKit
end Go.Proofs.YteclpnfckjfibaaGreatDoor

/- A2 -/
namespace Go.Proofs.YteclpnfckjfibaaGreatDoor
open Go.RowKit
end Go.Proofs.YteclpnfckjfibaaGreatDoor

/- A6 -/
namespace Go.Proofs.YteclpnfckjfibaaGreatDoor
open Go.RowKit
end Go.Proofs.YteclpnfckjfibaaGreatDoor

/- P -/
namespace Go.Proofs.YteclpnfckjfibaaGreatDoor
def zbj (c:UInt8):Bool:=48≤c && c≤57
def digs (l:List UInt8):Bool:=!l.isEmpty && l.all zbj
def orN (l:List UInt8):List UInt8:=if l.isEmpty then [48] else l
def wr (neg:Bool) (a b:List UInt8):Option (List UInt8):=
 let x:=Lib.trimLeftB a 48
 let y:=Lib.trimRightB b 48
 if 40 < x.length∨20 < y.length then none
 else some ((if neg && !(x++y).isEmpty then [45] else [])++(orN x++46::orN y))
def sgn:List UInt8→Bool × List UInt8
 | []=>(false,[])
 | c::r=>if c=45 then (true,r) else if c=43 then (false,r) else (false,c::r)
def zd0 (l:List UInt8):Option (Bool × List UInt8 × List UInt8):=
 let c:=Lib.cut (sgn l).2 [46]
 if digs c.1 && (!c.2.2 || digs c.2.1) then some ((sgn l).1,c.1,c.2.1) else none
def zib (l:List UInt8):Option (Option (List UInt8)):=(zd0 l).map fun x=>wr x.1 x.2.1 x.2.2
def chk (l:List UInt8):Bool:=zib l == some (some l)
theorem zda (c:UInt8):zbj c=true↔48≤(c.toNat:Int)∧(c.toNat:Int)≤57:=by
 unfold zbj
 rw [Bool.and_eq_true,decide_eq_true_iff,decide_eq_true_iff,UInt8.le_iff_toNat_le,UInt8.le_iff_toNat_le]
 show 48≤c.toNat∧c.toNat≤57↔_
 omega
end Go.Proofs.YteclpnfckjfibaaGreatDoor

/- D -/
namespace Go.Proofs.YteclpnfckjfibaaGreatDoor
def valD:List UInt8→Nat
 | []=>0
 | c::r=>(c.toNat - 48)*10 ^ r.length+valD r
theorem ziq (l r:List UInt8):valD (l++r)=valD l*10 ^ r.length+valD r:=by
 induction l with
 | nil=>simp [valD]
 | cons c l ih=>
   simp only [List.cons_append,valD,ih,List.length_append,Nat.pow_add,Nat.add_mul]
   rw [← Nat.mul_assoc];omega
theorem zrj {c:UInt8} (h:zbj c=true):48≤c.toNat∧c.toNat≤57:=by
 have:=(zda c).1 h;omega
theorem zqa (l:List UInt8) (h:l.all zbj=true):valD l < 10 ^ l.length:=by
 induction l with
 | nil=>simp [valD]
 | cons c l ih=>
   simp only [List.all_cons,Bool.and_eq_true] at h
   have:=zrj h.1
   have ih:=ih h.2
   have:(c.toNat - 48)*10 ^ l.length≤9*10 ^ l.length:=Nat.mul_le_mul_right _ (by omega)
   simp only [valD,List.length_cons,Nat.pow_succ]
   omega
theorem zf8:∀ (a b:List UInt8),a.all zbj=true→b.all zbj=true→a.length=b.length→valD a=valD b→a=b
 | [],[],_,_,_,_=>rfl
 | [],_::_,_,_,h,_=>by simp at h
 | _::_,[],_,_,h,_=>by simp at h
 | c::a,d::b,ha,hb,hl,hv=>by
   simp only [List.all_cons,Bool.and_eq_true] at ha hb
   have hl':a.length=b.length:=by simpa using hl
   have l1:=zqa a ha.2
   have l2:=zqa b hb.2
   have c1:=zrj ha.1
   have c2:=zrj hb.1
   simp only [valD] at hv
   rw [← hl'] at hv l2
   have key:c.toNat - 48=d.toNat - 48∧valD a=valD b:=by
    generalize c.toNat - 48=p at*
    generalize d.toNat - 48=q at*
    generalize 10 ^ a.length=B at*
    rcases Nat.lt_trichotomy p q with h | h | h
    ·have:(p+1)*B≤q*B:=Nat.mul_le_mul_right _ h
     rw [Nat.add_mul,Nat.one_mul] at this
     omega
    ·subst h;exact ⟨rfl,by omega⟩
    ·have:(q+1)*B≤p*B:=Nat.mul_le_mul_right _ h
     rw [Nat.add_mul,Nat.one_mul] at this
     omega
   have:c=d:=UInt8.toNat_inj.1 (by omega)
   rw [this,zf8 a b ha.2 hb.2 hl' key.2]
def zw7 (N p:Nat):UInt8:=UInt8.ofNat (48+N / 10 ^ p % 10)
def zf9 (N lo:Nat):Nat→List UInt8
 | 0=>[]
 | n+1=>zw7 N (lo+n)::zf9 N lo n
theorem zir (N p:Nat):(zw7 N p).toNat=48+N / 10 ^ p % 10:=by
 unfold zw7
 have:N / 10 ^ p % 10 < 10:=Nat.mod_lt _ (by omega)
 rw [UInt8.toNat_ofNat']
 omega
theorem zt2 (N p:Nat):zbj (zw7 N p)=true:=by
 rw [zda,zir]
 have:N / 10 ^ p % 10 < 10:=Nat.mod_lt _ (by omega)
 omega
theorem zl3 (N lo n:Nat):(zf9 N lo n).length=n:=by
 induction n with
 | zero=>rfl
 | succ n ih=>simp [zf9,ih]
theorem zse (N lo n:Nat):(zf9 N lo n).all zbj=true:=by
 induction n with
 | zero=>rfl
 | succ n ih=>simp [zf9,ih,zt2]
theorem zsf (N lo n:Nat):valD (zf9 N lo n)=N / 10 ^ lo % 10 ^ n:=by
 induction n with
 | zero=>simp [zf9,valD,Nat.mod_one]
 | succ n ih=>
   simp only [zf9,valD,ih,zl3,zir]
   rw [Nat.pow_add,← Nat.div_div_eq_div_mul,Nat.add_sub_cancel_left,Nat.pow_succ]
   generalize N / 10 ^ lo=M
   rw [Nat.mod_mul,Nat.mul_comm (M / 10 ^ n % 10)]
   omega
theorem rep_dig (k:Nat):(List.replicate k (48:UInt8)).all zbj=true:=by
 induction k with
 | zero=>rfl
 | succ k ih=>rw [List.replicate_succ,List.all_cons,ih];rfl
theorem zqb (k:Nat):valD (List.replicate k (48:UInt8))=0:=by
 induction k with
 | zero=>rfl
 | succ k ih=>rw [List.replicate_succ];simp [valD,ih]
theorem zis (k:Nat) (l:List UInt8):Lib.trimLeftB (List.replicate k 48++l) 48=Lib.trimLeftB l 48:=by
 unfold Lib.trimLeftB
 induction k with
 | zero=>simp
 | succ k ih=>rw [List.replicate_succ,List.cons_append,List.dropWhile_cons,if_pos (by simp)];exact ih
theorem zit (k:Nat) (l:List UInt8):Lib.trimRightB (l++List.replicate k 48) 48=Lib.trimRightB l 48:=by
 have:=zis k l.reverse
 unfold Lib.trimLeftB at this
 unfold Lib.trimRightB
 rw [List.reverse_append,List.reverse_replicate,this]
end Go.Proofs.YteclpnfckjfibaaGreatDoor

/- D2 -/
namespace Go.Proofs.YteclpnfckjfibaaGreatDoor
theorem zt3:Lib.cut [] [46]=([],[],false):=by simp [Lib.cut,Lib.index]
theorem cut_hit (r:List UInt8):Lib.cut (46::r) [46]=([],r,true):=by simp [Lib.cut,Lib.index]
theorem zmx (c:UInt8) (r:List UInt8) (h:c≠46):Lib.cut (c::r) [46]=(c::(Lib.cut r [46]).1,(Lib.cut r [46]).2.1,(Lib.cut r [46]).2.2):=by
 have hp:[46].isPrefixOf (c::r)=false:=by simp [List.isPrefixOf,beq_eq_false_iff_ne.2 (fun e:(46:UInt8)=c=>h e.symm)]
 have hge:=Lib.index_ge r [46]
 unfold Lib.cut
 rw [Lib.index,hp]
 by_cases h0:0≤Lib.index r [46]
 ·have e1:(Lib.index r [46] == -1)=false:=by simp;omega
  simp only [Bool.false_eq_true,if_false,e1]
  rw [if_pos h0,if_pos (by omega)]
  have e2:(Lib.index r [46]+1).toNat=(Lib.index r [46]).toNat+1:=by omega
  rw [e2]
  simp
 ·have e1:Lib.index r [46]=-1:=by omega
  rw [e1]
  simp
theorem zmy (d e:List UInt8) (h:d.all zbj=true):Lib.cut (d++46::e) [46]=(d,e,true):=by
 induction d with
 | nil=>exact cut_hit e
 | cons c d ih=>
   simp only [List.all_cons,Bool.and_eq_true] at h
   rw [List.cons_append,zmx _ _ (by rintro rfl;exact absurd h.1 (by decide)),ih h.2]
theorem zt4 {l:List UInt8} (h:l.all zbj=true) (hne:l≠[]):digs l=true:=by
 unfold digs;rw [h];cases l with
 | nil=>exact absurd rfl hne
 | cons _ _=>rfl
theorem sgn_dig {x r:List UInt8} (h:x.all zbj=true) (hne:x≠[]):sgn (x++r)=(false,x++r):=by
 cases x with
 | nil=>exact absurd rfl hne
 | cons c x=>
   simp only [List.all_cons,Bool.and_eq_true] at h
   have h45:c≠45:=by rintro rfl;exact absurd h.1 (by decide)
   have h43:c≠43:=by rintro rfl;exact absurd h.1 (by decide)
   simp [sgn,h45,h43]
theorem zny (n:Bool) (x y:List UInt8) (hx:x.all zbj=true) (hx0:x≠[]) (hy:y.all zbj=true) (hy0:y≠[]):
 zd0 ((if n then [45] else [])++(x++46::y))=some (n,x,y):=by
 have e:sgn ((if n then [45] else [])++(x++46::y))=(n,x++46::y):=by
  cases n
  ·show sgn ([]++(x++46::y))=_
   rw [List.nil_append]
   exact sgn_dig hx hx0
  ·simp [sgn]
 unfold zd0
 rw [e]
 simp only [zmy x y hx,zt4 hx hx0,zt4 hy hy0]
 rfl
theorem zmz {x:List UInt8} (h:x.all zbj=true):(orN x).all zbj=true:=by
 unfold orN;split
 ·rfl
 ·exact h
theorem zzh (x:List UInt8):orN x≠[]:=by
 unfold orN;cases x <;> simp
theorem zm0 {x:List UInt8} {n:Nat} (h:x.length≤n) (hn:1≤n):(orN x).length≤n:=by
 unfold orN;split
 ·simpa using hn
 ·exact h
theorem orN_val (x:List UInt8):valD (orN x)=valD x:=by
 cases x <;> simp [orN,valD]
theorem zeq (l:List UInt8):∃ k,l=List.replicate k 48++Lib.trimLeftB l 48:=by
 unfold Lib.trimLeftB
 induction l with
 | nil=>exact ⟨0,rfl⟩
 | cons c l ih=>
   by_cases h:c=48
   ·obtain ⟨k,hk⟩:=ih
    refine ⟨k+1,?_⟩
    rw [List.dropWhile_cons,if_pos (by simp [h]),List.replicate_succ,List.cons_append,← hk,h]
   ·exact ⟨0,by rw [List.dropWhile_cons,if_neg (by simp [h])];rfl⟩
theorem zer (l:List UInt8):∃ k,l=Lib.trimRightB l 48++List.replicate k 48:=by
 obtain ⟨k,hk⟩:=zeq l.reverse
 refine ⟨k,?_⟩
 unfold Lib.trimLeftB at hk
 unfold Lib.trimRightB
 have:=congrArg List.reverse hk
 rw [List.reverse_reverse,List.reverse_append,List.reverse_replicate] at this
 exact this
theorem ziu {l:List UInt8} (h:l.all zbj=true):(Lib.trimLeftB l 48).all zbj=true:=by
 obtain ⟨k,hk⟩:=zeq l
 rw [hk,List.all_append,Bool.and_eq_true] at h
 exact h.2
theorem znz {l:List UInt8} (h:l.all zbj=true):(Lib.trimRightB l 48).all zbj=true:=by
 obtain ⟨k,hk⟩:=zer l
 rw [hk,List.all_append,Bool.and_eq_true] at h
 exact h.1
theorem zhf (l:List UInt8):valD (Lib.trimLeftB l 48)=valD l:=by
 obtain ⟨k,hk⟩:=zeq l
 have:=congrArg valD hk
 rw [ziq,zqb] at this
 omega
theorem zl4 (l:List UInt8) {n:Nat} (h:l.length≤n):valD (Lib.trimRightB l 48)*10 ^ (n - (Lib.trimRightB l 48).length)=valD l*10 ^ (n - l.length):=by
 obtain ⟨k,hk⟩:=zer l
 generalize Lib.trimRightB l 48=t at*
 subst hk
 rw [ziq,zqb,List.length_append,List.length_replicate,Nat.add_zero,Nat.mul_assoc,← Nat.pow_add]
 simp only [List.length_append,List.length_replicate] at h
 congr 2
 omega
theorem zsg (l:List UInt8):Lib.trimLeftB (orN (Lib.trimLeftB l 48)) 48=Lib.trimLeftB l 48:=by
 obtain ⟨k,hk⟩:=zeq l
 have e:Lib.trimLeftB l 48=Lib.trimLeftB (Lib.trimLeftB l 48) 48:=by
  have:=congrArg (Lib.trimLeftB · 48) hk
  simp only [zis] at this
  exact this
 unfold orN
 split
 ·rename_i h
  have:Lib.trimLeftB l 48=[]:=by simpa using h
  rw [this];rfl
 ·exact e.symm
theorem zsh (l:List UInt8):Lib.trimRightB (orN (Lib.trimRightB l 48)) 48=Lib.trimRightB l 48:=by
 obtain ⟨k,hk⟩:=zer l
 have e:Lib.trimRightB l 48=Lib.trimRightB (Lib.trimRightB l 48) 48:=by
  have:=congrArg (Lib.trimRightB · 48) hk
  simp only [zit] at this
  exact this
 unfold orN
 split
 ·rename_i h
  have:Lib.trimRightB l 48=[]:=by simpa using h
  rw [this];rfl
 ·exact e.symm
theorem zt5 (l:List UInt8):∀ c r,Lib.trimLeftB l 48=c::r→c≠48:=by
 intro c r h e
 have:=List.head?_dropWhile_not (fun x:UInt8=>x == 48) l
 unfold Lib.trimLeftB at h
 rw [h,e] at this
 simp at this
theorem zn0 {l:List UInt8} (hd:l.all zbj=true):Lib.trimLeftB l 48=[]↔valD l=0:=by
 constructor
 ·intro h;rw [← zhf,h];rfl
 ·intro h
  cases e:Lib.trimLeftB l 48 with
  | nil=>rfl
  | cons c r=>
    have hc:=zt5 l c r e
    have hdd:=ziu hd
    rw [e,List.all_cons,Bool.and_eq_true] at hdd
    have:=zrj hdd.1
    have h2:=zhf l
    rw [e,h] at h2
    simp only [valD] at h2
    have hne:c.toNat≠48:=fun h=>hc (UInt8.toNat_inj.1 h)
    have:0 < (c.toNat - 48)*10 ^ r.length:=Nat.mul_pos (by omega) (Nat.pow_pos (by omega))
    omega
theorem zn1 {l:List UInt8} (hd:l.all zbj=true):Lib.trimRightB l 48=[]↔valD l=0:=by
 constructor
 ·intro h
  have:=zl4 l (Nat.le_refl _)
  rw [h] at this
  simpa [valD] using this.symm
 ·intro h
  obtain ⟨k,hk⟩:=zer l
  have:l=List.replicate l.length 48:=zf8 _ _ hd (rep_dig _) (by simp) (by rw [h,zqb])
  rw [this]
  have e:=zit l.length []
  rw [List.nil_append] at e
  rw [e];rfl
theorem wr_back (neg:Bool) (a b t:List UInt8) (ha:a.all zbj=true) (hb:b.all zbj=true) (h:wr neg a b=some t):
 ∃ x y,zd0 t=some (neg && !(decide (valD a=0) && decide (valD b=0)),x,y)∧x.all zbj=true∧y.all zbj=true∧x.length≤40∧y.length≤20∧valD x=valD a∧
  (∀ n,b.length≤n→20≤n→valD y*10 ^ (n - y.length)=valD b*10 ^ (n - b.length))∧chk t=true:=by
 have hiff:(Lib.trimLeftB a 48++Lib.trimRightB b 48).isEmpty=(decide (valD a=0) && decide (valD b=0)):=by
  rw [Bool.eq_iff_iff]
  simp only [List.isEmpty_iff,List.append_eq_nil_iff,zn0 ha,zn1 hb,Bool.and_eq_true,decide_eq_true_iff]
 have h0:=h
 unfold wr at h
 simp only at h
 split at h
 ·cases h
 ·rename_i hl
  have hl1:(Lib.trimLeftB a 48).length≤40:=by omega
  have hl2:(Lib.trimRightB b 48).length≤20:=by omega
  rw [hiff,Option.some.injEq] at h
  have hsp:=zny (neg && !(decide (valD a=0) && decide (valD b=0))) (orN (Lib.trimLeftB a 48)) (orN (Lib.trimRightB b 48)) (zmz (ziu ha)) (zzh _) (zmz (znz hb)) (zzh _)
  rw [h] at hsp
  refine ⟨_,_,hsp,zmz (ziu ha),zmz (znz hb),zm0 hl1 (by omega),zm0 hl2 (by omega),by rw [orN_val,zhf],?_,?_⟩
  ·intro n hn hn2
   rw [← zl4 b hn]
   unfold orN
   split
   ·rename_i he
    have:Lib.trimRightB b 48=[]:=by simpa using he
    rw [this]
    simp [valD]
   ·rfl
  ·unfold chk zib
   rw [hsp]
   simp only [Option.map_some]
   have:wr (neg && !(decide (valD a=0) && decide (valD b=0))) (orN (Lib.trimLeftB a 48)) (orN (Lib.trimRightB b 48))=some t:=by
    unfold wr
    simp only [zsg,zsh]
    rw [if_neg hl,hiff,← h,Bool.and_assoc,Bool.and_self]
   rw [this]
   simp
theorem zt6 (l:List UInt8) (h:chk l=true):∃ n a b,zd0 l=some (n,a,b)∧a.all zbj=true∧b.all zbj=true∧a.length≤40∧b.length≤20∧wr n a b=some l∧
 (n=true→¬ (valD a=0∧valD b=0)):=by
 have h':zib l=some (some l):=by simpa [chk] using h
 unfold zib at h'
 cases hs:zd0 l with
 | none=>rw [hs] at h';cases h'
 | some x=>
   obtain ⟨n,a,b⟩:=x
   rw [hs] at h'
   simp only [Option.map_some,Option.some.injEq] at h'
   have hd:a.all zbj=true∧b.all zbj=true:=by
    have hs':=hs
    unfold zd0 at hs'
    simp only at hs'
    split at hs'
    ·rename_i hc
     simp only [Option.some.injEq,Prod.mk.injEq] at hs'
     obtain ⟨_,rfl,rfl⟩:=hs'
     rw [Bool.and_eq_true,Bool.or_eq_true] at hc
     refine ⟨?_,?_⟩
     ·have:=hc.1;unfold digs at this;rw [Bool.and_eq_true] at this;exact this.2
     ·rcases hc.2 with h | h
      ·have hf:(Lib.cut (sgn l).2 [46]).2.2=false:=by simpa using h
       have:(Lib.cut (sgn l).2 [46]).2.1=[]:=by
        unfold Lib.cut at hf ⊢
        split at hf
        ·cases hf
        ·rw [if_neg (by assumption)]
       rw [this];rfl
      ·unfold digs at h;rw [Bool.and_eq_true] at h;exact h.2
    ·cases hs'
   obtain ⟨x,y,e1,e2,e3,e4,e5,e6,e7,e8⟩:=wr_back n a b l hd.1 hd.2 h'
   rw [hs,Option.some.injEq,Prod.mk.injEq,Prod.mk.injEq] at e1
   obtain ⟨f1,rfl,rfl⟩:=e1
   refine ⟨n,a,b,rfl,hd.1,hd.2,e4,e5,h',?_⟩
   rintro rfl ⟨g1,g2⟩
   rw [g1,g2] at f1
   simp at f1
end Go.Proofs.YteclpnfckjfibaaGreatDoor

/- D3 -/
namespace Go.Proofs.YteclpnfckjfibaaGreatDoor
end Go.Proofs.YteclpnfckjfibaaGreatDoor

/- A8 -/
namespace Go.Proofs.YteclpnfckjfibaaGreatDoor
open Go.RowKit
theorem zw5.done {f g h:Nat→Nat} {c:Nat} (H:zw5 f g h c 16) (hs:wval f+wval g < BASE ^ 16):wval h=wval f+wval g:=by
 have s:=H.sum
 have hc:c=0:=by
  by_cases e:c=0
  ·exact e
  ·have:1*BASE ^ 16≤c*BASE ^ 16:=Nat.mul_le_mul_right _ (by omega)
   unfold wval at hs;omega
 subst hc
 unfold wval at *;omega
theorem zid.done {f g h:Nat→Nat} {c:Nat} (H:zid f g h c 16) (hs:wval g≤wval f) (hf:ze4 f):wval h+wval g=wval f:=by
 have s:=H.sum
 have hl:=vN_lt h H.words 16 (by omega)
 have hc:c=0:=by
  by_cases e:c=0
  ·exact e
  ·have:1*BASE ^ 16≤c*BASE ^ 16:=Nat.mul_le_mul_right _ (by omega)
   unfold wval at hs;omega
 subst hc
 unfold wval;omega
end Go.Proofs.YteclpnfckjfibaaGreatDoor

/- R -/
namespace Go.Proofs.YteclpnfckjfibaaGreatDoor
open Go.RowKit
end Go.Proofs.YteclpnfckjfibaaGreatDoor

/- B4 -/
namespace Go.Proofs.YteclpnfckjfibaaGreatDoor
open Go.RowKit
end Go.Proofs.YteclpnfckjfibaaGreatDoor

/- S1 -/
namespace Go.Proofs.YteclpnfckjfibaaGreatDoor
open Go.RowKit
theorem zt7 {s:ByteArray} {k:Nat} (h:k < s.size) (hk:zbj s[k]=false):digs s.data.toList=false:=by
 unfold digs
 have:s.data.toList.all zbj=false:=by
  rw [List.all_eq_false]
  exact ⟨s[k],by simp [ByteArray.getElem_eq_getElem_data],by rw [hk];simp⟩
 rw [this,Bool.and_false]
theorem zw8 {s:ByteArray} {k:Nat} (h:k < s.size) (ha:(s.data.toList.take k).all zbj=true) (hk:zbj s[k]=true):(s.data.toList.take (k+1)).all zbj=true:=by
 rw [List.take_succ_eq_append_getElem (by simpa using h),List.all_append,ha]
 simpa [ByteArray.getElem_eq_getElem_data] using hk
set_option maxHeartbeats 400000 in
theorem zsi (s:ByteArray) (w:World) (hs:s.size≤maxLen):
 Calls Tryz.prog 251 #[.string s] w fun e w'=>e=.returned (.bool (digs s.data.toList))∧w'=w:=by
 unfold maxLen at hs
 go_enter Tryz.func251,Tryz.ntmps251
 go_wp2
 go_loop [6] (fun i=>∃ k:Nat,k≤s.size∧i=.int .i64 k∧(s.data.toList.take k).all zbj=true) (fun i=>s.size - (intOf i).toNat)
 case atStart=>exact ⟨0,Nat.zero_le _,rfl,by simp⟩
 case round=>
  obtain ⟨k,hk,rfl,hall⟩:=hrel
  have HA:=Lib.hid hall
  clear hall
  by_cases hlt:k < s.size
  ·by_cases h1:(s[k].toNat:Int) < 48
   ·go_wp2
    go_ret
    refine ⟨?_,rfl⟩
    rw [zt7 hlt (Bool.eq_false_iff.2 fun e=>by have:=(zda _).1 e;omega)]
    rfl
   ·by_cases h2:(57:Int) < s[k].toNat
    ·go_wp2
     go_ret
     refine ⟨?_,rfl⟩
     rw [zt7 hlt (Bool.eq_false_iff.2 fun e=>by have:=(zda _).1 e;omega)]
     rfl
    ·go_wp2
     go_round
     case rel=>exact ⟨k+1,by omega,by go_num,zw8 hlt HA.out ((zda _).2 ⟨by omega,by omega⟩)⟩
     case measure=>simp [intOf];omega
  ·go_wp2
   go_ret
   refine ⟨?_,rfl⟩
   have hk':k=s.data.toList.length:=by have:s.data.toList.length=s.size:=by simp
                                       omega
   have ha:=HA.out
   rw [hk',List.take_length] at ha
   unfold digs
   rw [ha,Bool.and_true,← ByteArray.toList_eq]
   rfl
theorem zsj (s:ByteArray) (w:World):
 Calls Tryz.prog 254 #[.string s] w fun e w'=>e=.returned (.string ⟨(orN s.data.toList).toArray⟩)∧w'=w:=by
 by_cases h:s.toList.isEmpty=true
 ·go_enter Tryz.func254,Tryz.ntmps254
  go_wp2
  go_ret
  refine ⟨?_,rfl⟩
  unfold orN
  rw [← ByteArray.toList_eq,if_pos h]
  rfl
 ·have h':s.toList.isEmpty=false:=by simpa using h
  go_enter Tryz.func254,Tryz.ntmps254
  go_wp2
  go_ret
  refine ⟨?_,rfl⟩
  unfold orN
  rw [← ByteArray.toList_eq,if_neg h,ByteArray.toList_eq]
  rfl
end Go.Proofs.YteclpnfckjfibaaGreatDoor

/- Shelf -/
namespace Go.Proofs
open Go.Shelf
def Tryz.lays161_ren:Go.Shelf.Ren:=⟨fun | 161=>252 | 231=>266 | 227=>267 | 233=>268 | 235=>269 | 228=>278 | 197=>279 | 151=>280 | 260=>289 | 152=>290 | 137=>297 | 119=>298 | 224=>287 | 225=>286 | 217=>285 | 266=>295 | n=>n,fun | 9=>9 | 4=>4 | 3=>3 | 5=>5 | 117=>270 | 116=>269 | 0=>0 | 124=>273 | 105=>275 | 21=>21 | 119=>292 | 46=>179 | 139=>295 | 138=>294 | n=>n,fun | 3=>1 | 4=>2 | n=>n⟩
theorem Tryz.lays161:Go.Proofs.Lays.n161 Tryz.prog Tryz.lays161_ren:={
 mixed:=by kernel_rfl
 f119:=Tryz.func298.trans (congrArg some (by kernel_rfl))
 f137:=Tryz.func297.trans (congrArg some (by kernel_rfl))
 f151:=Tryz.func280.trans (congrArg some (by kernel_rfl))
 f152:=Tryz.func290.trans (congrArg some (by kernel_rfl))
 f161:=Tryz.func252.trans (congrArg some (by kernel_rfl))
 f197:=Tryz.func279.trans (congrArg some (by kernel_rfl))
 f217:=Tryz.func285.trans (congrArg some (by kernel_rfl))
 f224:=Tryz.func287.trans (congrArg some (by kernel_rfl))
 f225:=Tryz.func286.trans (congrArg some (by kernel_rfl))
 f227:=Tryz.func267.trans (congrArg some (by kernel_rfl))
 f228:=Tryz.func278.trans (congrArg some (by kernel_rfl))
 f231:=Tryz.func266.trans (congrArg some (by kernel_rfl))
 f233:=Tryz.func268.trans (congrArg some (by kernel_rfl))
 f235:=Tryz.func269.trans (congrArg some (by kernel_rfl))
 f260:=Tryz.func289.trans (congrArg some (by kernel_rfl))
 f266:=Tryz.func295.trans (congrArg some (by kernel_rfl))
 t0:=Tryz.underlying0
 a0:=Tryz.isAgg0
 z0:=Tryz.sizeOf0
 v0:=Tryz.zeroValue0
 t3:=Tryz.underlying3
 a3:=Tryz.isAgg3
 z3:=Tryz.sizeOf3
 v3:=Tryz.zeroValue3
 t4:=Tryz.underlying4
 a4:=Tryz.isAgg4
 z4:=Tryz.sizeOf4
 v4:=Tryz.zeroValue4
 t5:=Tryz.underlying5
 a5:=Tryz.isAgg5
 z5:=Tryz.sizeOf5
 v5:=Tryz.zeroValue5
 t9:=Tryz.underlying9
 a9:=Tryz.isAgg9
 z9:=Tryz.sizeOf9
 v9:=Tryz.zeroValue9
 t21:=Tryz.underlying21
 a21:=Tryz.isAgg21
 z21:=Tryz.sizeOf21
 v21:=Tryz.zeroValue21
 t46:=Tryz.underlying179
 a46:=Tryz.isAgg179
 z46:=Tryz.sizeOf179
 v46:=Tryz.zeroValue179
 t105:=Tryz.underlying275
 a105:=Tryz.isAgg275
 z105:=Tryz.sizeOf275
 v105:=Tryz.zeroValue275
 t116:=Tryz.underlying269
 a116:=Tryz.isAgg269
 z116:=Tryz.sizeOf269
 t117:=Tryz.underlying270
 a117:=Tryz.isAgg270
 z117:=Tryz.sizeOf270
 v117:=Tryz.zeroValue270
 t119:=Tryz.underlying292
 a119:=Tryz.isAgg292
 z119:=Tryz.sizeOf292
 t124:=Tryz.underlying273
 a124:=Tryz.isAgg273
 z124:=Tryz.sizeOf273
 v124:=Tryz.zeroValue273
 t138:=Tryz.underlying294
 a138:=Tryz.isAgg294
 z138:=Tryz.sizeOf294
 v138:=Tryz.zeroValue294
 t139:=Tryz.underlying295
 a139:=Tryz.isAgg295
 z139:=Tryz.sizeOf295
 v139:=Tryz.zeroValue295
 g3:=by kernel_rfl
 g4:=by kernel_rfl }
open Go.RowKit in
theorem Tryz.strings_TrimLeft_one (s:ByteArray) (c:UInt8) (hc:c.toNat < 128) (w:World):
 Calls Tryz.prog 252 #[.string s,.string ⟨#[c]⟩] w fun e w'=>e=.returned (.string ⟨(Lib.trimLeftB s.data.toList c).toArray⟩)∧w'=w:=Any.strings_TrimLeft_one Tryz.lays161 s c hc w
def Tryz.lays162_ren:Go.Shelf.Ren:=⟨fun | 162=>253 | 232=>270 | 227=>267 | 234=>271 | 236=>272 | 228=>278 | 271=>281 | 151=>280 | 120=>291 | 197=>279 | 152=>290 | 260=>289 | 137=>297 | 119=>298 | 224=>287 | 225=>286 | 217=>285 | 266=>295 | n=>n,fun | 9=>9 | 4=>4 | 3=>3 | 5=>5 | 117=>270 | 116=>269 | 0=>0 | 124=>273 | 21=>21 | 105=>275 | 46=>179 | 119=>292 | 139=>295 | 138=>294 | n=>n,fun | 3=>1 | 4=>2 | n=>n⟩
theorem Tryz.lays162:Go.Proofs.Lays.n162 Tryz.prog Tryz.lays162_ren:={
 mixed:=by kernel_rfl
 f119:=Tryz.func298.trans (congrArg some (by kernel_rfl))
 f120:=Tryz.func291.trans (congrArg some (by kernel_rfl))
 f137:=Tryz.func297.trans (congrArg some (by kernel_rfl))
 f151:=Tryz.func280.trans (congrArg some (by kernel_rfl))
 f152:=Tryz.func290.trans (congrArg some (by kernel_rfl))
 f162:=Tryz.func253.trans (congrArg some (by kernel_rfl))
 f197:=Tryz.func279.trans (congrArg some (by kernel_rfl))
 f217:=Tryz.func285.trans (congrArg some (by kernel_rfl))
 f224:=Tryz.func287.trans (congrArg some (by kernel_rfl))
 f225:=Tryz.func286.trans (congrArg some (by kernel_rfl))
 f227:=Tryz.func267.trans (congrArg some (by kernel_rfl))
 f228:=Tryz.func278.trans (congrArg some (by kernel_rfl))
 f232:=Tryz.func270.trans (congrArg some (by kernel_rfl))
 f234:=Tryz.func271.trans (congrArg some (by kernel_rfl))
 f236:=Tryz.func272.trans (congrArg some (by kernel_rfl))
 f260:=Tryz.func289.trans (congrArg some (by kernel_rfl))
 f266:=Tryz.func295.trans (congrArg some (by kernel_rfl))
 f271:=Tryz.func281.trans (congrArg some (by kernel_rfl))
 t0:=Tryz.underlying0
 a0:=Tryz.isAgg0
 z0:=Tryz.sizeOf0
 v0:=Tryz.zeroValue0
 t3:=Tryz.underlying3
 a3:=Tryz.isAgg3
 z3:=Tryz.sizeOf3
 v3:=Tryz.zeroValue3
 t4:=Tryz.underlying4
 a4:=Tryz.isAgg4
 z4:=Tryz.sizeOf4
 v4:=Tryz.zeroValue4
 t5:=Tryz.underlying5
 a5:=Tryz.isAgg5
 z5:=Tryz.sizeOf5
 v5:=Tryz.zeroValue5
 t9:=Tryz.underlying9
 a9:=Tryz.isAgg9
 z9:=Tryz.sizeOf9
 v9:=Tryz.zeroValue9
 t21:=Tryz.underlying21
 a21:=Tryz.isAgg21
 z21:=Tryz.sizeOf21
 v21:=Tryz.zeroValue21
 t46:=Tryz.underlying179
 a46:=Tryz.isAgg179
 z46:=Tryz.sizeOf179
 v46:=Tryz.zeroValue179
 t105:=Tryz.underlying275
 a105:=Tryz.isAgg275
 z105:=Tryz.sizeOf275
 v105:=Tryz.zeroValue275
 t116:=Tryz.underlying269
 a116:=Tryz.isAgg269
 z116:=Tryz.sizeOf269
 t117:=Tryz.underlying270
 a117:=Tryz.isAgg270
 z117:=Tryz.sizeOf270
 v117:=Tryz.zeroValue270
 t119:=Tryz.underlying292
 a119:=Tryz.isAgg292
 z119:=Tryz.sizeOf292
 t124:=Tryz.underlying273
 a124:=Tryz.isAgg273
 z124:=Tryz.sizeOf273
 v124:=Tryz.zeroValue273
 t138:=Tryz.underlying294
 a138:=Tryz.isAgg294
 z138:=Tryz.sizeOf294
 v138:=Tryz.zeroValue294
 t139:=Tryz.underlying295
 a139:=Tryz.isAgg295
 z139:=Tryz.sizeOf295
 v139:=Tryz.zeroValue295
 g3:=by kernel_rfl
 g4:=by kernel_rfl }
open Go.RowKit in
theorem Tryz.strings_TrimRight_one (s:ByteArray) (c:UInt8) (hc:c.toNat < 128) (w:World) (hs:s.size≤9223372036854775807):
 Calls Tryz.prog 253 #[.string s,.string ⟨#[c]⟩] w fun e w'=>e=.returned (.string ⟨(Lib.trimRightB s.data.toList c).toArray⟩)∧w'=w:=Any.strings_TrimRight_one Tryz.lays162 s c hc w hs
def Tryz.lays145_ren:Go.Shelf.Ren:=⟨fun | 145=>250 | 220=>265 | 219=>277 | 217=>285 | 225=>286 | 224=>287 | 267=>288 | 266=>295 | 314=>296 | n=>n,fun | 9=>9 | 4=>4 | 59=>257 | 3=>3 | 5=>5 | 46=>179 | 146=>290 | 51=>211 | n=>n,fun | 1=>0 | n=>n⟩
theorem Tryz.lays145:Go.Proofs.Lays.n145 Tryz.prog Tryz.lays145_ren:={
 mixed:=by kernel_rfl
 f145:=Tryz.func250.trans (congrArg some (by kernel_rfl))
 f217:=Tryz.func285.trans (congrArg some (by kernel_rfl))
 f219:=Tryz.func277.trans (congrArg some (by kernel_rfl))
 f220:=Tryz.func265.trans (congrArg some (by kernel_rfl))
 f224:=Tryz.func287.trans (congrArg some (by kernel_rfl))
 f225:=Tryz.func286.trans (congrArg some (by kernel_rfl))
 f266:=Tryz.func295.trans (congrArg some (by kernel_rfl))
 f267:=Tryz.func288.trans (congrArg some (by kernel_rfl))
 f314:=Tryz.func296.trans (congrArg some (by kernel_rfl))
 t3:=Tryz.underlying3
 a3:=Tryz.isAgg3
 z3:=Tryz.sizeOf3
 v3:=Tryz.zeroValue3
 t4:=Tryz.underlying4
 a4:=Tryz.isAgg4
 z4:=Tryz.sizeOf4
 v4:=Tryz.zeroValue4
 t5:=Tryz.underlying5
 a5:=Tryz.isAgg5
 z5:=Tryz.sizeOf5
 v5:=Tryz.zeroValue5
 t9:=Tryz.underlying9
 a9:=Tryz.isAgg9
 z9:=Tryz.sizeOf9
 v9:=Tryz.zeroValue9
 t46:=Tryz.underlying179
 a46:=Tryz.isAgg179
 z46:=Tryz.sizeOf179
 v46:=Tryz.zeroValue179
 t51:=Tryz.underlying211
 a51:=Tryz.isAgg211
 z51:=Tryz.sizeOf211
 v51:=Tryz.zeroValue211
 t59:=Tryz.underlying257
 a59:=Tryz.isAgg257
 z59:=Tryz.sizeOf257
 v59:=Tryz.zeroValue257
 t146:=Tryz.underlying290
 a146:=Tryz.isAgg290
 z146:=Tryz.sizeOf290
 v146:=Tryz.zeroValue290
 g1:=by kernel_rfl }
open Go.RowKit Go.Lib in
theorem Tryz.strings_Cut (s sep:ByteArray) (m:Int) (w:World) (hs:s.size < 4294967281) (hm:w.cell? ⟨0,0,none⟩=some (.int .i64 m)):
 Calls Tryz.prog 250 #[.string s,.string sep] w fun e w'=>e=.returned (.tuple #[.string ⟨(Lib.cut s.data.toList sep.data.toList).1.toArray⟩,.string ⟨(Lib.cut s.data.toList sep.data.toList).2.1.toArray⟩,.bool (Lib.cut s.data.toList sep.data.toList).2.2])∧∃ n,w'=w.drewN n:=Any.strings_Cut Tryz.lays145 s sep m w hs hm
def Tryz.lays99_ren:Go.Shelf.Ren:=⟨fun | 99=>249 | 206=>264 | n=>n,fun | 9=>9 | 4=>4 | 3=>3 | n=>n,fun | n=>n⟩
theorem Tryz.lays99:Go.Proofs.Lays.n99 Tryz.prog Tryz.lays99_ren:={
 mixed:=by kernel_rfl
 f99:=Tryz.func249.trans (congrArg some (by kernel_rfl))
 f206:=Tryz.func264.trans (congrArg some (by kernel_rfl))
 t3:=Tryz.underlying3
 a3:=Tryz.isAgg3
 z3:=Tryz.sizeOf3
 v3:=Tryz.zeroValue3
 t4:=Tryz.underlying4
 a4:=Tryz.isAgg4
 z4:=Tryz.sizeOf4
 v4:=Tryz.zeroValue4
 t9:=Tryz.underlying9
 a9:=Tryz.isAgg9
 z9:=Tryz.sizeOf9
 v9:=Tryz.zeroValue9 }
open Go.RowKit Go.Lib in
theorem Tryz.strings_HasPrefix (s p:ByteArray) (w:World):
 Calls Tryz.prog 249 #[.string s,.string p] w fun e w'=>e=.returned (.bool (Lib.hasPrefix s.data.toList p.data.toList))∧w'=w:=Any.strings_HasPrefix Tryz.lays99 s p w
end Go.Proofs
