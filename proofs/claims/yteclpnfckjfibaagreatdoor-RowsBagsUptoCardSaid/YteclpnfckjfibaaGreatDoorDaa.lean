/- Texts of one kind, one behind the other: each says ahead of itself what it shows. -/
import Derived.KernelRfl
import Derived.Test.YteclpnfckjfibaaGreatDoorProg
import Derived.WalkKit
import Derived.WalkSpells
import Derived.Outline
import Derived.LoopTactic
import Derived.Lib.Hide
import Derived.Below
import Derived.Sort.Grow
import Derived.Deep.QuietTactic
import Derived.BigQuiet
import Derived.Laws.Rows
import Derived.Laws.Tables
import Derived.Deep.MidRow
import Derived.OrdersHeld
import Derived.Deep.RegionHeld
import Derived.Deep.DeepCutAuto
import Derived.Laws.StructEq
import Derived.Deep.RegionWith
import Derived.Lib.IndexMore
import Derived.Lib.TrimByte
import Derived.Deep.RegionHeld3
import Derived.BigGuardPart
import Derived.Shelf.Strings.Trim
import Derived.Shelf.Small.Utf8
import Derived.Shelf.Small.Strs
import Derived.Shelf.Small.Wraps
import Derived.Shelf.Strconv.Itoa0
import Derived.Shelf.Strconv.Itoa1
import Derived.Shelf.LaysM
import Derived.Shelf.Strconv.Itoa2
import Derived.Shelf.Strconv.Itoa3
import Derived.Shelf.Strconv.Itoa4
import Derived.Shelf.Strconv.ParseIntEmpty
import Derived.Shelf.Strconv.Clone
import Derived.Shelf.Strconv.SyntaxError
import Derived.Shelf.LaysC
import Derived.Shelf.Strconv.ToError
import Derived.Shelf.Strconv.Lower
import Derived.Shelf.Strconv.ParseUint10
import Derived.Shelf.Strconv.ParseUint10Empty
import Derived.Shelf.Strconv.ParseUint10Any
import Derived.Shelf.Strconv.ParseInt10
import Derived.Shelf.Strconv.RangeError
import Derived.Shelf.Strconv.ToErrorRange
import Derived.Shelf.Strconv.ParseUintEmpty
import Derived.Shelf.Strconv.ParseUint10b64
import Derived.Shelf.Strconv.ParseUint10b32
import Derived.Shelf.Strconv.ParseUint10b16
import Derived.Shelf.Strconv.ParseUint10b8
import Derived.Shelf.Strconv.ParseUint10At
import Derived.Shelf.Strconv.ParseInt10At64
import Derived.Shelf.Strconv.ParseInt10At32
import Derived.Shelf.Strconv.ParseInt10At16
import Derived.Shelf.Strconv.ParseInt10At8
import Derived.Shelf.Strconv.ParseInt10All
import Derived.Shelf.Strconv.ParseIntPublic10
import Derived.Shelf.Strconv.ErrVarParseInt
import Derived.Shelf.Strings.Search1
import Derived.Shelf.Strings.Search2
import Derived.Shelf.Strings.Cut
import Derived.Shelf.Strings.Shaped
import Derived.Shelf.Strings.Prefix
import Derived.Shelf.Strings.Runes
import Derived.Shelf.Strings.AsciiSet
import Derived.Shelf.Unicode.DecodeSlow
/- M -/
namespace Go.Proofs.YteclpnfckjfibaaGreatDoor
def BASE:Nat:=1000000000
def vN:Nat→(Nat→Nat)→Nat
 | 0,_=>0
 | n+1,f=>vN n f+f n*BASE ^ n
def wval (f:Nat→Nat):Nat:=vN 16 f
def zfl (f:Nat→Nat):Prop:=∀ j,j < 16→f j < BASE
def upd (f:Nat→Nat) (k v:Nat):Nat→Nat:=fun j=>if j=k then v else f j
theorem zpx (f:Nat→Nat) (k v:Nat):upd f k v k=v:=by simp [upd]
theorem zf2 (f:Nat→Nat) {k j:Nat} (v:Nat) (h:j≠k):upd f k v j=f j:=by simp [upd,h]
theorem zfl.upd {f:Nat→Nat} (h:zfl f) {k v:Nat} (hv:v < BASE):zfl (upd f k v):=by
 intro j hj
 by_cases e:j=k
 ·subst e;rw [zpx];exact hv
 ·rw [zf2 _ _ e];exact h j hj
theorem zt6 (f g:Nat→Nat) (n:Nat) (h:∀ j,j < n→f j=g j):vN n f=vN n g:=by
 induction n with
 | zero=>rfl
 | succ n ih=>simp only [vN];rw [ih (fun j hj=>h j (by omega)),h n (by omega)]
theorem vN_upd (f:Nat→Nat) (k v n:Nat) (h:n≤k):vN n (upd f k v)=vN n f:=
 zt6 _ _ _ fun j hj=>zf2 _ _ (by omega)
theorem vN_lt (f:Nat→Nat) (h:zfl f) (n:Nat) (hn:n≤16):vN n f < BASE ^ n:=by
 induction n with
 | zero=>simp [vN]
 | succ n ih=>
   have hj:=h n (by omega)
   have ih:=ih (by omega)
   have:f n*BASE ^ n+BASE ^ n≤BASE ^ (n+1):=by
    have:(f n+1)*BASE ^ n≤BASE*BASE ^ n:=Nat.mul_le_mul_right _ hj
    rw [Nat.pow_succ,Nat.mul_comm (BASE ^ n)]
    rw [Nat.add_mul,Nat.one_mul] at this
    exact this
   simp only [vN];omega
theorem zsn (f g:Nat→Nat) (hx:zfl f) (k:Nat) (hk:k≤16) (h:f k < g k):vN (k+1) f < vN (k+1) g:=by
 have h1:=vN_lt f hx k hk
 have:f k*BASE ^ k+BASE ^ k≤g k*BASE ^ k:=by
  have:(f k+1)*BASE ^ k≤g k*BASE ^ k:=Nat.mul_le_mul_right _ h
  rw [Nat.add_mul,Nat.one_mul] at this
  exact this
 simp only [vN];omega
theorem zt7 (f g:Nat→Nat) (k n:Nat) (h:k≤n) (he:∀ j,k≤j→j < n→f j=g j):
 (vN n f:Int) - vN n g=(vN k f:Int) - vN k g:=by
 induction n with
 | zero=>obtain rfl:k=0:=by omega
         rfl
 | succ n ih=>
   by_cases hk:k=n+1
   ·subst hk;rfl
   ·have:=ih (by omega) (fun j a b=>he j a (by omega))
    have e:=he n (by omega) (by omega)
    simp only [vN,e];omega
theorem zoq (f g:Nat→Nat) (hx:zfl f) (k:Nat) (hk:k < 16) (he:∀ j,k < j→j < 16→f j=g j)
 (h:f k < g k):wval f < wval g:=by
 have a:=zt7 f g (k+1) 16 (by omega) (fun j p q=>he j (by omega) q)
 have b:=zsn f g hx k (by omega) h
 unfold wval;omega
theorem zu6 (f g:Nat→Nat) (he:∀ j,j < 16→f j=g j):wval f=wval g:=zt6 _ _ _ he
def cmpI (a b:Nat):Int:=if a < b then -1 else if b < a then 1 else 0
theorem cmpI_lt {a b:Nat} (h:a < b):cmpI a b=-1:=by simp [cmpI,h]
theorem cmpI_gt {a b:Nat} (h:b < a):cmpI a b=1:=by simp [cmpI,h];omega
theorem cmpI_eq {a b:Nat} (h:a=b):cmpI a b=0:=by simp [cmpI,h]
structure z0t (f g h:Nat→Nat) (c k:Nat):Prop where
 sum:vN k h+c*BASE ^ k=vN k f+vN k g
 rest:∀ j,k≤j→h j=f j
 words:zfl h
 one:c≤1
theorem z0t.zero {f g:Nat→Nat} (hf:zfl f):z0t f g f 0 0:=⟨by simp [vN],fun _ _=>rfl,hf,by omega⟩
structure zmt (f g h:Nat→Nat) (c k:Nat):Prop where
 sum:vN k h+vN k g=vN k f+c*BASE ^ k
 rest:∀ j,k≤j→h j=f j
 words:zfl h
 one:c≤1
theorem zmt.zero {f g:Nat→Nat} (hf:zfl f):zmt f g f 0 0:=⟨by simp [vN],fun _ _=>rfl,hf,by omega⟩
structure zt8 (f:Nat→Nat) (d:Nat) (h:Nat→Nat) (c k:Nat):Prop where
 sum:vN k h+c*BASE ^ k=vN k f*10+d
 rest:∀ j,k≤j→h j=f j
 words:zfl h
 one:c≤9
theorem zt8.zero {f:Nat→Nat} (hf:zfl f) {d:Nat} (hd:d≤9):zt8 f d f d 0:=⟨by simp [vN],fun _ _=>rfl,hf,by omega⟩
end Go.Proofs.YteclpnfckjfibaaGreatDoor

/- A0 -/
namespace Go.Proofs.YteclpnfckjfibaaGreatDoor
open Go.RowKit
structure zcv (c:Array Value) (n:Bool) (f:Nat→Nat):Prop where
 neg:c[0]?=some (.bool n)
 word:∀ j,j < 16→c[1+j]?=some (.int .u32 (f j))
 size:c.size=17
 lt:zfl f
structure Only (b:Nat) (w w':World):Prop where
 os:w'.os=w.os
 tape:w'.tape=w.tape
 output:w'.output=w.output
 size:w.heap.size≤w'.heap.size
 block:∀ k,k < w.heap.size→k≠b→w'.heap[k]?=w.heap[k]?
 drawn:w.drawn≤w'.drawn
theorem Only.refl (b:Nat) (w:World):Only b w w:=⟨rfl,rfl,rfl,Nat.le_refl _,fun _ _ _=>rfl,Nat.le_refl _⟩
theorem Only.trans {b:Nat} {x y z:World} (h:Only b x y) (k:Only b y z):Only b x z:=
 ⟨k.os.trans h.os,k.tape.trans h.tape,k.output.trans h.output,Nat.le_trans h.size k.size,fun i hi e=>(k.block i (Nat.lt_of_lt_of_le hi h.size) e).trans (h.block i hi e),Nat.le_trans h.drawn k.drawn⟩
theorem Only.drewN {b:Nat} {x y:World} (h:Only b x y) (n:Nat):Only b x (y.drewN n):=⟨h.os,h.tape,h.output,h.size,h.block,Nat.le_trans h.drawn (Nat.le_add_right _ _)⟩
theorem Only.drew {b:Nat} {x y:World} (h:Only b x y):Only b x y.drew:=⟨h.os,h.tape,h.output,h.size,h.block,Nat.le_trans h.drawn (Nat.le_add_right _ 1)⟩
theorem Only.setCell {b:Nat} {x y:World} (h:Only b x y) (o:Nat) (s:Option Nat) (v:Value):Only b x (y.setCell ⟨b,o,s⟩ v):=
 h.trans ⟨rfl,rfl,rfl,by simp [World.setCell],fun _ _ e=>Below.heap_setCell _ _ _ _ e,Nat.le_refl _⟩
theorem zam {B b:Nat} {x y z:World} (h:Below B x y) (k:Only b y z) (hb:B≤b) (hs:B≤y.heap.size):Below B x z:=
 h.trans ⟨k.os,k.tape,k.output,k.size,fun i hi=>k.block i (by omega) (by omega)⟩
theorem zfm {B:Nat} {a w:World} (h:Below B a w) (n:Nat):Below B a (w.drewN n):=⟨h.os,h.tape,h.output,h.size,h.block⟩
theorem zab {B:Nat} {x y z:World} (h:Below B x y) (k:Below y.heap.size y z) (hs:B≤y.heap.size):Below B x z:=h.trans (k.mono hs)
structure Low (B:Nat) (w w':World):Prop where
 is:Below B w w'
 drawn:w.drawn≤w'.drawn
instance {B:Nat} {w w':World}:Coe (Low B w w') (Below B w w'):=⟨Low.is⟩
section
variable {B B':Nat} {a b c w w':World}
theorem Low.refl (B:Nat) (w:World):Low B w w:=⟨Below.refl _ _,Nat.le_refl _⟩
theorem Low.trans (h:Low B a b) (k:Low B b c):Low B a c:=⟨h.is.trans k.is,Nat.le_trans h.drawn k.drawn⟩
theorem Low.mono (h:Low B w w') (hB:B'≤B):Low B' w w':=⟨h.is.mono hB,h.drawn⟩
theorem Low.drew (h:Low B a w):Low B a w.drew:=⟨h.is.drew,Nat.le_trans h.drawn (Nat.le_add_right _ 1)⟩
theorem Low.alloc (h:Low B a w) (hB:B≤w.heap.size) (o:Obj):Low B a (w.alloc o):=⟨h.is.alloc hB o,h.drawn⟩
theorem Low.size (h:Low B w w'):w.heap.size≤w'.heap.size:=h.is.size
theorem Low.os (h:Low B w w'):w'.os=w.os:=h.is.os
theorem Low.tape (h:Low B w w'):w'.tape=w.tape:=h.is.tape
theorem Low.output (h:Low B w w'):w'.output=w.output:=h.is.output
theorem Low.block (h:Low B w w'):∀ k,k < B→w'.heap[k]?=w.heap[k]?:=h.is.block
theorem Low.cell (h:Low B w w') {p:Addr} (hp:p.block < B):w'.cell? p=w.cell? p:=h.is.cell hp
theorem Low.frozen (h:Low B w w') {p:Addr} (hp:p.block < B):w'.frozen? p=w.frozen? p:=h.is.frozen hp
theorem Only.of_low {b:Nat} {x y:World} (h:Low x.heap.size x y):Only b x y:=⟨h.os,h.tape,h.output,h.size,fun k hk _=>h.block k hk,h.drawn⟩
theorem zd3 {B b:Nat} {x y z:World} (h:Low B x y) (k:Only b y z) (hb:B≤b) (hs:B≤y.heap.size):Low B x z:=
 ⟨h.is.trans ⟨k.os,k.tape,k.output,k.size,fun i hi=>k.block i (by omega) (by omega)⟩,Nat.le_trans h.drawn k.drawn⟩
theorem zey (h:Low B a w) (n:Nat):Low B a (w.drewN n):=⟨⟨h.os,h.tape,h.output,h.size,h.block⟩,Nat.le_trans h.drawn (Nat.le_add_right _ _)⟩
theorem zak {B:Nat} {x y z:World} (h:Low B x y) (k:Low y.heap.size y z) (hs:B≤y.heap.size):Low B x z:=h.trans (k.mono hs)
theorem low1 (w:World) (o:Obj):Low w.heap.size w (w.alloc o):=(Low.refl _ _).alloc (Nat.le_refl _) _
theorem low2 (w:World) (o p:Obj):Low w.heap.size w ((w.alloc o).alloc p):=(low1 w o).alloc (by simp) _
theorem low3 (w:World) (a b c:Obj):Low w.heap.size w (((w.alloc a).alloc b).alloc c):=(low2 w a b).alloc (by simp;omega) _
theorem zav (w:World) (o:Obj):Below w.heap.size w (w.alloc o):=(low1 w o).is
theorem zcr (w:World) (o p:Obj):Below w.heap.size w ((w.alloc o).alloc p):=(low2 w o p).is
theorem z3h (w:World) (a b c:Obj):Below w.heap.size w (((w.alloc a).alloc b).alloc c):=(low3 w a b c).is
theorem zdk {B e o:Nat} {y z:World} (h:Below B y z) (s:Option Nat) (v:Value) (hb:B≤e) (hs:B≤z.heap.size):Below B y (z.setCell ⟨e,o,s⟩ v):=
 zam h ((Only.refl e z).setCell o s v) hb hs
theorem zcf {B e o:Nat} {y z:World} (h:Low B y z) (s:Option Nat) (v:Value) (hb:B≤e) (hs:B≤z.heap.size):Low B y (z.setCell ⟨e,o,s⟩ v):=
 zd3 h ((Only.refl e z).setCell o s v) hb hs
theorem Low.grows (h:Low w.heap.size w w'):∃ q os,w'=Go.Sort.grow (w.drewN q) os:=by
 refine ⟨w'.drawn - w.drawn,w'.heap.extract w.heap.size w'.heap.size,?_⟩
 have hd:=h.drawn
 have hh:w'.heap=w.heap++w'.heap.extract w.heap.size w'.heap.size:=by
  apply Array.ext_getElem?
  intro i
  by_cases hi:i < w.heap.size
  ·rw [h.block i hi,Array.getElem?_append_left hi]
  ·have hs:=h.size
   rw [Array.getElem?_append_right (by omega),Array.getElem?_extract]
   split
   ·congr 1;omega
   ·rw [Array.getElem?_eq_none_iff];omega
 cases w' with
 | mk hp tp dr o out=>
   cases w with
   | mk hp0 tp0 dr0 o0 out0=>
     have e1:=h.os;have e2:=h.tape;have e3:=h.output
     simp only at e1 e2 e3 hd hh ⊢
     subst e1;subst e2;subst e3
     unfold Go.Sort.grow World.drewN
     simp only [World.mk.injEq]
     exact ⟨hh,trivial,by omega,trivial,trivial⟩
end
theorem zad {w:World} {b:Nat} {c:Array Value} {t:TypeId} (h:w.heap[b]?=some (.cells c t)) (o:Nat) {v:Value} (hv:c[o]?=some v):
 w.cell? ⟨b,o,none⟩=some v:=by
 simp [World.cell?,h,hv]
theorem zdl {w:World} {b:Nat} {c:Array Value} {t:TypeId} (h:w.heap[b]?=some (.cells c t)) (o:Nat):w.frozen? ⟨b,o,none⟩=false:=by
 simp [World.frozen?,h]
theorem zaf (w:World) (o:Obj) {n:Nat} (h:w.heap.size=n):(w.alloc o).heap[n]?=some o:=by
 show (w.heap.push o)[n]?=_
 simp [← h]
theorem zaq {w:World} (o:Obj) {n:Nat} {x:Obj} (h:w.heap[n]?=some x):(w.alloc o).heap[n]?=some x:=by
 rw [Below.heap_alloc _ _ _ (by have:=Array.getElem?_eq_some_iff.1 h;obtain ⟨a,_⟩:=this;exact a)];exact h
theorem zb8 {w:World} {b:Nat} {c:Array Value} {t:TypeId} (h:w.heap[b]?=some (.cells c t)) (o:Nat) (v:Value):
 (w.setCell ⟨b,o,none⟩ v).heap[b]?=some (.cells (c.setIfInBounds o v) t):=by
 simp [World.setCell,Array.getElem?_modify,h]
theorem zaa {w:World} {b:Nat} {x:Obj} (h:w.heap[b]?=some x):b < w.heap.size:=by
 obtain ⟨a,_⟩:=Array.getElem?_eq_some_iff.1 h;exact a
theorem zcv.set {c:Array Value} {n:Bool} {f:Nat→Nat} (h:zcv c n f) {k v:Nat} (hk:k < 16) (hv:v < BASE):
 zcv (c.setIfInBounds (1+k) (.int .u32 v)) n (upd f k v):=by
 refine ⟨?_,?_,by simp [h.size],h.lt.upd hv⟩
 ·rw [Array.getElem?_setIfInBounds_ne (by omega)];exact h.neg
 ·intro j hj
  by_cases e:j=k
  ·subst e;rw [zpx,Array.getElem?_setIfInBounds_self_of_lt (by rw [h.size];omega)]
  ·rw [zf2 _ _ e,Array.getElem?_setIfInBounds_ne (by omega)];exact h.word j hj
theorem zm2:(Tryz.prog.info? 280).map (·.size)=some 17:=by kernel_rfl
theorem zcv.one {c:Array Value} {n:Bool} {f:Nat→Nat} (h:zcv c n f):c.all (·.oneCell')=true:=by
 rw [Array.all_eq_true]
 intro i hi
 rw [h.size] at hi
 cases i with
 | zero=>have:=h.neg;rw [Array.getElem?_eq_getElem (by rw [h.size];omega)] at this;rw [Option.some.inj this];rfl
 | succ i=>have:=h.word i (by omega);rw [Nat.add_comm] at this;rw [Array.getElem?_eq_getElem (by rw [h.size];omega)] at this;rw [Option.some.inj this];rfl
theorem zdd {w:World} {g:Nat} {c c':Array Value} {t:TypeId} (h:w.heap[g]?=some (.cells c t)):(w.setRow g c').heap[g]?=some (.cells c' t):=by
 simp [World.setRow,Array.getElem?_modify,h]
theorem Only.setRow {b:Nat} (w:World) (c:Array Value):Only b w (w.setRow b c):=
 ⟨rfl,rfl,rfl,by simp [World.setRow],fun k _ e=>by simp only [World.setRow,Array.getElem?_modify];rw [if_neg (by omega)],Nat.le_refl _⟩
theorem zcz {ops:Array Oper} {rest:List Oper} {o:Oper} {a:Act} {w:World} {Q:Exit→Act→World→Prop} (g:Nat) (c:Array Value) (hg:w.heap[g]?=some (.cells c 280)) (hs:c.size=17)
 (x:Operand) (hgd:o.guard=none) (ho:o.op=.load 280 x) (hx:a.eval x=.pointer (some ⟨g,0,none⟩))
 (h:wpList Tryz.prog ops Q rest (a.put o.dst (.agg c)) w):wpList Tryz.prog ops Q (o::rest) a w:=
 wpList_load_row hgd 280 x ho g hx 280 c (0,0) _ hg Tryz.underlying280 rfl (by rw [hs];exact zm2) h
theorem zmo {ops:Array Oper} {rest:List Oper} {o:Oper} {a:Act} {w:World} {Q:Exit→Act→World→Prop} (g:Nat) (c c':Array Value) (hg:w.heap[g]?=some (.cells c 280)) (hs:c.size=17) (hs':c'.size=17) (h1:c'.all (·.oneCell')=true)
 (x y:Operand) (hgd:o.guard=none) (ho:o.op=.store 280 x y) (hx:a.eval x=.pointer (some ⟨g,0,none⟩)) (hy:a.eval y=.agg c')
 (h:∀ w',Only g w w'→w'.heap[g]?=some (.cells c' 280)→wpList Tryz.prog ops Q rest (a.put o.dst undef) w'):wpList Tryz.prog ops Q (o::rest) a w:=
 wpList_plain hgd fun _ hK=>by
  unfold Oper.wp execOp
  simp only [ho,hx,hy,Instr.storeAt,Instr.sureAddr,Sem.run_bind,Sem.run_pure,Result.andThen_ok,run_storeVar_row (P:=Tryz.prog) w g 280 280 c c' hg (by rw [hs'];exact zm2) (by rw [hs,hs']) h1]
  exact hK _ _ (h _ (Only.setRow w c') (zdd hg))
def Lies (w:World) (g:Nat) (c:Array Value) (n:Bool) (f:Nat→Nat):Prop:=w.heap[g]?=some (.cells c 280)∧zcv c n f
theorem Lies.heap {w:World} {g:Nat} {c:Array Value} {n:Bool} {f:Nat→Nat} (h:Lies w g c n f):w.heap[g]?=some (.cells c 280):=h.1
theorem Lies.num {w:World} {g:Nat} {c:Array Value} {n:Bool} {f:Nat→Nat} (h:Lies w g c n f):zcv c n f:=h.2
theorem lies_mk {w:World} {g:Nat} {c:Array Value} {n:Bool} {f:Nat→Nat} (h:w.heap[g]?=some (.cells c 280)) (hn:zcv c n f):Lies w g c n f:=⟨h,hn⟩
theorem Lies.below {w w':World} {g:Nat} {c:Array Value} {n:Bool} {f:Nat→Nat} (h:Lies w g c n f) (k:Below w.heap.size w w'):Lies w' g c n f:=
 ⟨(k.block g (zaa h.1)).trans h.1,h.2⟩
theorem Lies.only {w w':World} {g b:Nat} {c:Array Value} {n:Bool} {f:Nat→Nat} (h:Lies w g c n f) (k:Only b w w') (e:g≠b):Lies w' g c n f:=
 ⟨(k.block g (zaa h.1) e).trans h.1,h.2⟩
theorem Lies.alloc {w:World} {g:Nat} {c:Array Value} {n:Bool} {f:Nat→Nat} (h:Lies w g c n f) (o:Obj):Lies (w.alloc o) g c n f:=⟨zaq _ h.1,h.2⟩
theorem Lies.drew {w:World} {g:Nat} {c:Array Value} {n:Bool} {f:Nat→Nat} (h:Lies w g c n f):Lies w.drew g c n f:=h
theorem Lies.lt {w:World} {g:Nat} {c:Array Value} {n:Bool} {f:Nat→Nat} (h:Lies w g c n f):g < w.heap.size:=zaa h.1
theorem zf3 {ops:Array Oper} {rest:List Oper} {o:Oper} {a:Act} {w:World} {Q:Exit→Act→World→Prop} {c:Array Value} {n:Bool} {f:Nat→Nat} (x:Operand) (g:Nat) (hg:Lies w g c n f)
 (hgd:o.guard=none) (ho:o.op=.load 280 x) (hx:a.eval x=.pointer (some ⟨g,0,none⟩))
 (h:wpList Tryz.prog ops Q rest (a.put o.dst (.agg c)) w):wpList Tryz.prog ops Q (o::rest) a w:=
 zcz g c hg.1 hg.2.size x hgd ho hx h
theorem zdm {ops:Array Oper} {rest:List Oper} {o:Oper} {a:Act} {w:World} {Q:Exit→Act→World→Prop} {c c':Array Value} {n n':Bool} {f f':Nat→Nat} (x y:Operand) (g:Nat) (hg:Lies w g c n f) (hn:zcv c' n' f')
 (hgd:o.guard=none) (ho:o.op=.store 280 x y) (hx:a.eval x=.pointer (some ⟨g,0,none⟩)) (hy:a.eval y=.agg c')
 (h:∀ w',Only g w w'→Lies w' g c' n' f'→wpList Tryz.prog ops Q rest (a.put o.dst undef) w'):wpList Tryz.prog ops Q (o::rest) a w:=
 zmo g c c' hg.1 hg.2.size hn.size hn.one x y hgd ho hx hy fun w' k hh=>h w' k ⟨hh,hn⟩
def zma:Array Value:=#[.bool false,.int .u32 0,.int .u32 0,.int .u32 0,.int .u32 0,.int .u32 0,.int .u32 0,.int .u32 0,.int .u32 0,.int .u32 0,.int .u32 0,.int .u32 0,.int .u32 0,.int .u32 0,.int .u32 0,.int .u32 0,.int .u32 0]
theorem zor:zcv zma false (fun _=>0):=by
 refine ⟨rfl,fun j hj=>?_,rfl,fun j _=>by decide⟩
 match j,hj with
 | 0,_=>rfl
 | 1,_=>rfl
 | 2,_=>rfl
 | 3,_=>rfl
 | 4,_=>rfl
 | 5,_=>rfl
 | 6,_=>rfl
 | 7,_=>rfl
 | 8,_=>rfl
 | 9,_=>rfl
 | 10,_=>rfl
 | 11,_=>rfl
 | 12,_=>rfl
 | 13,_=>rfl
 | 14,_=>rfl
 | 15,_=>rfl
 | k+16,h=>exact absurd h (by omega)
theorem zf4 (w:World) {g:Nat} (e:w.heap.size=g):Lies (w.alloc (.cells #[.bool false,.int .u32 0,.int .u32 0,.int .u32 0,.int .u32 0,.int .u32 0,.int .u32 0,.int .u32 0,.int .u32 0,.int .u32 0,.int .u32 0,.int .u32 0,.int .u32 0,.int .u32 0,.int .u32 0,.int .u32 0,.int .u32 0] 280)) g zma false (fun _=>0):=
 ⟨zaf _ _ e,zor⟩
theorem putS:(∀ (a:Act) (d:Tmp) (v:Value),a.put (some d) v={ a with tmps:=a.tmps.setIfInBounds d v })∧(∀ (a:Act) (v:Value),a.put none v=a)∧(∀ (l:List Value) (i:Nat) (v:Value),l.toArray.setIfInBounds i v=(l.set i v).toArray)∧(∀ (a v:Value) (l:List Value),(a::l).set 0 v=v::l)∧(∀ (a v:Value) (l:List Value) (n:Nat),(a::l).set (n+1) v=a::l.set n v)∧
 (∀ (l:List Oper) (i:Nat) (h:i < l.toArray.size),l.toArray[i]=l[i]'(by simpa using h))∧(∀ (a:Oper) (l:List Oper) (h:0 < (a::l).length),(a::l)[0]=a)∧(∀ (a:Oper) (l:List Oper) (i:Nat) (h:i+1 < (a::l).length),(a::l)[i+1]=l[i]'(by simpa using h)):=
 ⟨fun _ _ _=>rfl,fun _ _=>rfl,fun _ _ _=>List.setIfInBounds_toArray _ _ _,fun _ _ _=>rfl,fun _ _ _ _=>rfl,fun _ _ h=>List.getElem_toArray h,fun _ _ _=>rfl,fun _ _ _ _=>rfl⟩
section
variable {ops:Array Oper} {Q:Exit→Act→World→Prop} {md:Region.Mode} {S:World→Prop}
theorem tk {i:Nat} {oi:Oper} {v:Value} {fuel:Nat} {listed l':Array Bool} {a a':Act} {w:World} (hi:ops[i]?=some oi) (hy:YieldsIf Tryz.prog ops S oi v a) (hS:S w)
 (h:wpAnyH Tryz.prog md ops Q S fuel l' a' w) (hs:Region.noSelect ops=true:=by kernel_rfl) (hf:Region.free md ops listed i=true:=by kernel_rfl) (hr:(Region.ready md ops listed).contains i=true:=by kernel_rfl)
 (hQ:∀ c a w,Q (.panic c) (a.put oi.dst v) w→Q (.panic c) a w:=by exact fun _ _ _ h=>h) (ha:a.put oi.dst v=a':=by (try simp only [putS]);exact rfl) (hl:listed.setIfInBounds i true=l':=by (try simp only [putS]);exact rfl):wpAnyH Tryz.prog md ops Q S (fuel+1) listed a w:=by
 subst ha hl
 exact wpAnyH_take hi hs hf hr hQ hy hS h
theorem tg {i:Nat} {oi:Oper} (v:Value) {fuel:Nat} {listed l':Array Bool} {a a':Act} {w:World} (hi:ops[i]?=some oi) (hS:S w)
 (h:wpAnyH Tryz.prog md ops Q S fuel l' a' w) (hy:YieldsIf Tryz.prog ops S oi v a:=by exact Or.inl ⟨by rfl,fun W _=>by go_simp⟩) (hs:Region.noSelect ops=true:=by kernel_rfl) (hf:Region.free md ops listed i=true:=by kernel_rfl) (hr:(Region.ready md ops listed).contains i=true:=by kernel_rfl)
 (hQ:∀ c a w,Q (.panic c) (a.put oi.dst v) w→Q (.panic c) a w:=by exact fun _ _ _ h=>h) (ha:a.put oi.dst v=a':=by (try simp only [putS]);exact rfl) (hl:listed.setIfInBounds i true=l':=by (try simp only [putS]);exact rfl):wpAnyH Tryz.prog md ops Q S (fuel+1) listed a w:=by
 subst ha hl
 exact wpAnyH_take hi hs hf hr hQ hy hS h
theorem tn {i:Nat} {oi:Oper} {fuel:Nat} {listed l':Array Bool} {a a':Act} {w:World} (hi:ops[i]?=some oi) (hS:S w)
 (h:wpAnyH Tryz.prog md ops Q S fuel l' a' w) (hy:YieldsIf Tryz.prog ops S oi undef a:=by exact Or.inr ⟨by rfl,rfl⟩) (hs:Region.noSelect ops=true:=by kernel_rfl) (hf:Region.free md ops listed i=true:=by kernel_rfl) (hr:(Region.ready md ops listed).contains i=true:=by kernel_rfl)
 (hQ:∀ c a w,Q (.panic c) (a.put oi.dst undef) w→Q (.panic c) a w:=by exact fun _ _ _ h=>h) (ha:a.put oi.dst undef=a':=by (try simp only [putS]);exact rfl) (hl:listed.setIfInBounds i true=l':=by (try simp only [putS]);exact rfl):wpAnyH Tryz.prog md ops Q S (fuel+1) listed a w:=by
 subst ha hl
 exact wpAnyH_take hi hs hf hr hQ hy hS h
theorem tr (i:Nat) {oi:Oper} {fuel:Nat} {listed:Array Bool} {a:Act} {w:World} (ho:ops[i]?=some oi)
 (h:∀ K':Act→World→Prop,Shut (∀ a w,S w→(S w→wpAnyH Tryz.prog md ops Q S fuel (listed.setIfInBounds i true) a w)→K' a w)→if Region.wanted oi (yielded ops a.tmps)=true then Oper.wp Tryz.prog oi a w K' Q else K' (a.put oi.dst undef) w)
 (hr:Region.ready md ops listed=[i]:=by kernel_rfl):wpAnyH Tryz.prog md ops Q S (fuel+1) listed a w:=
 wpAnyH_ready hr (by simp) (AllReadyH.cons ho h AllReadyH.nil)
end
end Go.Proofs.YteclpnfckjfibaaGreatDoor

/- A1 -/
namespace Go.Proofs.YteclpnfckjfibaaGreatDoor
open Go.RowKit
set_option maxHeartbeats 400000 in
theorem z3i (c d:Array Value) (n m:Bool) (xs ys:Nat→Nat) (hc:zcv c n xs) (hd:zcv d m ys) (w:World):
 Calls Tryz.prog 293 #[.agg c,.agg d] w fun e w'=>e=.returned (.int .i64 (cmpI (wval xs) (wval ys)))∧Low w.heap.size w w':=by
 go_enter Tryz.func293,Tryz.ntmps293
 go_wp2
 go_loopw [5] (fun i wr=>∃ k:Int,-1≤k∧k≤15∧i=.int .i64 k∧(∀ j:Nat,k < j→j < 16→xs j=ys j)∧wr.heap[w.heap.size]?=some (.cells c 280)∧wr.heap[w.heap.size+1]?=some (.cells d 280)∧Low w.heap.size w wr) (fun i _=>(intOf i+1).toNat)
 case atStart=>
  refine ⟨15,by omega,by omega,rfl,fun j a b=>by omega,?_,?_,?_⟩
  ·rw [Below.heap_alloc _ _ _ (by simp)];exact zaf _ _ rfl
  ·exact zaf _ _ (by simp)
  ·exact ((Low.refl _ _).alloc (Nat.le_refl _) _).alloc (by simp) _
 case round=>
  obtain ⟨k,hk1,hk2,rfl,heq,hb1,hb2,hbel⟩:=hrel
  have HE:=Lib.hid heq
  clear heq
  have B1:=Lib.hid hb1
  have B2:=Lib.hid hb2
  clear hb1 hb2
  by_cases hk:0≤k
  ·obtain ⟨k,rfl⟩:=Int.eq_ofNat_of_zero_le hk
   have hx:wr.cell? ⟨w.heap.size,1+k,none⟩=some (.int .u32 (xs k)):=zad B1.out _ (hc.word k (by omega))
   have hy:wr.cell? ⟨w.heap.size+1,1+k,none⟩=some (.int .u32 (ys k)):=zad B2.out _ (hd.word k (by omega))
   have hkk:(k:Int) < 16:=by omega
   rcases Nat.lt_trichotomy (xs k) (ys k) with h | h | h
   ·go_wp2
    go_quiet (fail)
    go_wp2
    go_ret
    refine ⟨?_,zey hbel _⟩
    rw [cmpI_lt (zoq xs ys hc.lt k (by omega) (fun j a b=>HE.out j (by omega) b) h)];rfl
   ·have HH:=Lib.hid h
    clear h
    have h1:decide (xs k < ys k)=false:=by have:=HH.out;simp;omega
    have h2:decide (ys k < xs k)=false:=by have:=HH.out;simp;omega
    go_wp2
    go_quiet (fail)
    go_wp2
    go_quiet (fail)
    go_wp2
    go_roundw
    case rel=>exact ⟨_,by omega,by omega,rfl,fun j a b=>(if e:j=k then by rw [e];exact HH.out else HE.out j (by omega) b),B1.out,B2.out,zey hbel _⟩
    case measure=>simp [intOf]
   ·go_wp2
    go_quiet (fail)
    go_wp2
    go_quiet (fail)
    go_wp2
    go_ret
    refine ⟨?_,zey (zey hbel _) _⟩
    rw [cmpI_gt (zoq ys xs hd.lt k (by omega) (fun j a b=>(HE.out j (by omega) b).symm) h)];rfl
  ·go_wp2
   go_ret
   refine ⟨?_,hbel⟩
   rw [cmpI_eq (zu6 xs ys fun j hj=>HE.out j (by omega) hj)];rfl
end Go.Proofs.YteclpnfckjfibaaGreatDoor

/- A2 -/
namespace Go.Proofs.YteclpnfckjfibaaGreatDoor
open Go.RowKit
end Go.Proofs.YteclpnfckjfibaaGreatDoor

/- A6 -/
namespace Go.Proofs.YteclpnfckjfibaaGreatDoor
open Go.RowKit
def cmpS (n:Bool) (x:Nat) (m:Bool) (y:Nat):Int:=
 if n && !m then -1 else if m && !n then 1 else if n then cmpI y x else cmpI x y
end Go.Proofs.YteclpnfckjfibaaGreatDoor

/- P -/
namespace Go.Proofs.YteclpnfckjfibaaGreatDoor
def za8 (c:UInt8):Bool:=48≤c && c≤57
def digs (l:List UInt8):Bool:=!l.isEmpty && l.all za8
def orN (l:List UInt8):List UInt8:=if l.isEmpty then [48] else l
def wr (neg:Bool) (a b:List UInt8):Option (List UInt8):=
 let x:=Lib.trimLeftB a 48
 let y:=Lib.trimRightB b 48
 if 40 < x.length∨20 < y.length then none
 else some ((if neg && !(x++y).isEmpty then [45] else [])++(orN x++46::orN y))
def sgn:List UInt8→Bool × List UInt8
 | []=>(false,[])
 | c::r=>if c=45 then (true,r) else if c=43 then (false,r) else (false,c::r)
def zdf (l:List UInt8):Option (Bool × List UInt8 × List UInt8):=
 let c:=Lib.cut (sgn l).2 [46]
 if digs c.1 && (!c.2.2 || digs c.2.1) then some ((sgn l).1,c.1,c.2.1) else none
def zln (l:List UInt8):Option (Option (List UInt8)):=(zdf l).map fun x=>wr x.1 x.2.1 x.2.2
def chk (l:List UInt8):Bool:=zln l == some (some l)
theorem zc8 (c:UInt8):za8 c=true↔48≤(c.toNat:Int)∧(c.toNat:Int)≤57:=by
 unfold za8
 rw [Bool.and_eq_true,decide_eq_true_iff,decide_eq_true_iff,UInt8.le_iff_toNat_le,UInt8.le_iff_toNat_le]
 show 48≤c.toNat∧c.toNat≤57↔_
 omega
end Go.Proofs.YteclpnfckjfibaaGreatDoor

/- D -/
namespace Go.Proofs.YteclpnfckjfibaaGreatDoor
def valD:List UInt8→Nat
 | []=>0
 | c::r=>(c.toNat - 48)*10 ^ r.length+valD r
theorem zc0 (l r:List UInt8):valD (l++r)=valD l*10 ^ r.length+valD r:=by
 induction l with
 | nil=>simp [valD]
 | cons c l ih=>
   simp only [List.cons_append,valD,ih,List.length_append,Nat.pow_add,Nat.add_mul]
   rw [← Nat.mul_assoc];omega
theorem zos {c:UInt8} (h:za8 c=true):48≤c.toNat∧c.toNat≤57:=by
 have:=(zc8 c).1 h;omega
theorem ziz (l:List UInt8) (h:l.all za8=true):valD l < 10 ^ l.length:=by
 induction l with
 | nil=>simp [valD]
 | cons c l ih=>
   simp only [List.all_cons,Bool.and_eq_true] at h
   have:=zos h.1
   have ih:=ih h.2
   have:(c.toNat - 48)*10 ^ l.length≤9*10 ^ l.length:=Nat.mul_le_mul_right _ (by omega)
   simp only [valD,List.length_cons,Nat.pow_succ]
   omega
theorem zej:∀ (a b:List UInt8),a.all za8=true→b.all za8=true→a.length=b.length→valD a=valD b→a=b
 | [],[],_,_,_,_=>rfl
 | [],_::_,_,_,h,_=>by simp at h
 | _::_,[],_,_,h,_=>by simp at h
 | c::a,d::b,ha,hb,hl,hv=>by
   simp only [List.all_cons,Bool.and_eq_true] at ha hb
   have hl':a.length=b.length:=by simpa using hl
   have l1:=ziz a ha.2
   have l2:=ziz b hb.2
   have c1:=zos ha.1
   have c2:=zos hb.1
   simp only [valD] at hv
   rw [← hl'] at hv l2
   have key:c.toNat - 48=d.toNat - 48∧valD a=valD b:=by
    generalize c.toNat - 48=p at*
    generalize d.toNat - 48=q at*
    generalize 10 ^ a.length=B at*
    rcases Nat.lt_trichotomy p q with h | h | h
    ·have:(p+1)*B≤q*B:=Nat.mul_le_mul_right _ h
     rw [Nat.add_mul,Nat.one_mul] at this
     omega
    ·subst h;exact ⟨rfl,by omega⟩
    ·have:(q+1)*B≤p*B:=Nat.mul_le_mul_right _ h
     rw [Nat.add_mul,Nat.one_mul] at this
     omega
   have:c=d:=UInt8.toNat_inj.1 (by omega)
   rw [this,zej a b ha.2 hb.2 hl' key.2]
def z0u (N p:Nat):UInt8:=UInt8.ofNat (48+N / 10 ^ p % 10)
def zf5 (N lo:Nat):Nat→List UInt8
 | 0=>[]
 | n+1=>z0u N (lo+n)::zf5 N lo n
theorem zm3 (N p:Nat):(z0u N p).toNat=48+N / 10 ^ p % 10:=by
 unfold z0u
 have:N / 10 ^ p % 10 < 10:=Nat.mod_lt _ (by omega)
 rw [UInt8.toNat_ofNat']
 omega
theorem zw3 (N p:Nat):za8 (z0u N p)=true:=by
 rw [zc8,zm3]
 have:N / 10 ^ p % 10 < 10:=Nat.mod_lt _ (by omega)
 omega
theorem zid (N lo n:Nat):(zf5 N lo n).length=n:=by
 induction n with
 | zero=>rfl
 | succ n ih=>simp [zf5,ih]
theorem zez (N lo n:Nat):(zf5 N lo n).all za8=true:=by
 induction n with
 | zero=>rfl
 | succ n ih=>simp [zf5,ih,zw3]
theorem ze0 (N lo n:Nat):valD (zf5 N lo n)=N / 10 ^ lo % 10 ^ n:=by
 induction n with
 | zero=>simp [zf5,valD,Nat.mod_one]
 | succ n ih=>
   simp only [zf5,valD,ih,zid,zm3]
   rw [Nat.pow_add,← Nat.div_div_eq_div_mul,Nat.add_sub_cancel_left,Nat.pow_succ]
   generalize N / 10 ^ lo=M
   rw [Nat.mod_mul,Nat.mul_comm (M / 10 ^ n % 10)]
   omega
theorem zm4 (k:Nat):(List.replicate k (48:UInt8)).all za8=true:=by
 induction k with
 | zero=>rfl
 | succ k ih=>rw [List.replicate_succ,List.all_cons,ih];rfl
theorem zi0 (k:Nat):valD (List.replicate k (48:UInt8))=0:=by
 induction k with
 | zero=>rfl
 | succ k ih=>rw [List.replicate_succ];simp [valD,ih]
theorem zf6 (k:Nat) (l:List UInt8):Lib.trimLeftB (List.replicate k 48++l) 48=Lib.trimLeftB l 48:=by
 unfold Lib.trimLeftB
 induction k with
 | zero=>simp
 | succ k ih=>rw [List.replicate_succ,List.cons_append,List.dropWhile_cons,if_pos (by simp)];exact ih
theorem zf7 (k:Nat) (l:List UInt8):Lib.trimRightB (l++List.replicate k 48) 48=Lib.trimRightB l 48:=by
 have:=zf6 k l.reverse
 unfold Lib.trimLeftB at this
 unfold Lib.trimRightB
 rw [List.reverse_append,List.reverse_replicate,this]
def wrN (neg:Bool) (N:Nat):Option (List UInt8):=wr neg (zf5 N 54 90) (zf5 N 0 54)
theorem zw4 (a b:List UInt8) (ha:a.all za8=true) (hb:b.all za8=true) (hv:valD a=valD b):Lib.trimLeftB a 48=Lib.trimLeftB b 48:=by
 rcases Nat.le_total a.length b.length with h | h
 ·rw [← zf6 (b.length - a.length) a]
  congr 1
  exact zej _ _ (by rw [List.all_append,zm4,ha];rfl) hb (by simp;omega) (by rw [zc0,zi0];omega)
 ·rw [← zf6 (a.length - b.length) b]
  congr 1
  exact zej _ _ ha (by rw [List.all_append,zm4,hb];rfl) (by simp;omega) (by rw [zc0,zi0];omega)
theorem zw5 (a b:List UInt8) (ha:a.all za8=true) (hb:b.all za8=true) (n:Nat) (la:a.length≤n) (lb:b.length≤n) (hv:valD a*10 ^ (n - a.length)=valD b*10 ^ (n - b.length)):Lib.trimRightB a 48=Lib.trimRightB b 48:=by
 rw [← zf7 (n - a.length) a,← zf7 (n - b.length) b]
 congr 1
 exact zej _ _ (by rw [List.all_append,zm4,ha];rfl) (by rw [List.all_append,zm4,hb];rfl) (by simp;omega) (by rw [zc0,zc0,zi0,zi0,List.length_replicate,List.length_replicate];omega)
theorem z0v (neg:Bool) {a a' b b':List UInt8} (h:Lib.trimLeftB a 48=Lib.trimLeftB a' 48) (k:Lib.trimRightB b 48=Lib.trimRightB b' 48):wr neg a b=wr neg a' b':=by
 unfold wr;rw [h,k]
theorem wr_wrN (neg:Bool) (a b:List UInt8) (ha:a.all za8=true) (hb:b.all za8=true) (hv:valD a < 10 ^ 90) (lb:b.length≤54):
 wr neg a b=wrN neg (valD a*10 ^ 54+valD b*10 ^ (54 - b.length)):=by
 have hlt:valD b*10 ^ (54 - b.length) < 10 ^ 54:=by
  have h1:=ziz b hb
  have h2:10 ^ b.length*10 ^ (54 - b.length)=10 ^ 54:=by rw [← Nat.pow_add];congr 1;omega
  have h3:valD b*10 ^ (54 - b.length) < 10 ^ b.length*10 ^ (54 - b.length):=Nat.mul_lt_mul_of_pos_right h1 (Nat.pow_pos (by omega))
  omega
 unfold wrN
 refine z0v neg (zw4 _ _ ha (zez _ _ _) ?_) (zw5 _ _ hb (zez _ _ _) 54 lb (by rw [zid];omega) ?_)
 ·rw [ze0,Nat.mul_comm,Nat.mul_add_div (Nat.pow_pos (by omega)),Nat.div_eq_of_lt hlt,Nat.add_zero,Nat.mod_eq_of_lt hv]
 ·rw [ze0,zid,Nat.sub_self,Nat.pow_zero,Nat.mul_one,Nat.div_one,Nat.add_comm,Nat.add_mul_mod_self_right,Nat.mod_eq_of_lt hlt]
end Go.Proofs.YteclpnfckjfibaaGreatDoor

/- D2 -/
namespace Go.Proofs.YteclpnfckjfibaaGreatDoor
theorem zw6:Lib.cut [] [46]=([],[],false):=by simp [Lib.cut,Lib.index]
theorem cut_hit (r:List UInt8):Lib.cut (46::r) [46]=([],r,true):=by simp [Lib.cut,Lib.index]
theorem zpy (c:UInt8) (r:List UInt8) (h:c≠46):Lib.cut (c::r) [46]=(c::(Lib.cut r [46]).1,(Lib.cut r [46]).2.1,(Lib.cut r [46]).2.2):=by
 have hp:[46].isPrefixOf (c::r)=false:=by simp [List.isPrefixOf,beq_eq_false_iff_ne.2 (fun e:(46:UInt8)=c=>h e.symm)]
 have hge:=Lib.index_ge r [46]
 unfold Lib.cut
 rw [Lib.index,hp]
 by_cases h0:0≤Lib.index r [46]
 ·have e1:(Lib.index r [46] == -1)=false:=by simp;omega
  simp only [Bool.false_eq_true,if_false,e1]
  rw [if_pos h0,if_pos (by omega)]
  have e2:(Lib.index r [46]+1).toNat=(Lib.index r [46]).toNat+1:=by omega
  rw [e2]
  simp
 ·have e1:Lib.index r [46]=-1:=by omega
  rw [e1]
  simp
theorem zpz (d e:List UInt8) (h:d.all za8=true):Lib.cut (d++46::e) [46]=(d,e,true):=by
 induction d with
 | nil=>exact cut_hit e
 | cons c d ih=>
   simp only [List.all_cons,Bool.and_eq_true] at h
   rw [List.cons_append,zpy _ _ (by rintro rfl;exact absurd h.1 (by decide)),ih h.2]
theorem zw7 {l:List UInt8} (h:l.all za8=true) (hne:l≠[]):digs l=true:=by
 unfold digs;rw [h];cases l with
 | nil=>exact absurd rfl hne
 | cons _ _=>rfl
theorem sgn_dig {x r:List UInt8} (h:x.all za8=true) (hne:x≠[]):sgn (x++r)=(false,x++r):=by
 cases x with
 | nil=>exact absurd rfl hne
 | cons c x=>
   simp only [List.all_cons,Bool.and_eq_true] at h
   have h45:c≠45:=by rintro rfl;exact absurd h.1 (by decide)
   have h43:c≠43:=by rintro rfl;exact absurd h.1 (by decide)
   simp [sgn,h45,h43]
theorem zf8 (n:Bool) (x y:List UInt8) (hx:x.all za8=true) (hx0:x≠[]) (hy:y.all za8=true) (hy0:y≠[]):
 zdf ((if n then [45] else [])++(x++46::y))=some (n,x,y):=by
 have e:sgn ((if n then [45] else [])++(x++46::y))=(n,x++46::y):=by
  cases n
  ·show sgn ([]++(x++46::y))=_
   rw [List.nil_append]
   exact sgn_dig hx hx0
  ·simp [sgn]
 unfold zdf
 rw [e]
 simp only [zpz x y hx,zw7 hx hx0,zw7 hy hy0]
 rfl
theorem zp0 {x:List UInt8} (h:x.all za8=true):(orN x).all za8=true:=by
 unfold orN;split
 ·rfl
 ·exact h
theorem z3j (x:List UInt8):orN x≠[]:=by
 unfold orN;cases x <;> simp
theorem zp1 {x:List UInt8} {n:Nat} (h:x.length≤n) (hn:1≤n):(orN x).length≤n:=by
 unfold orN;split
 ·simpa using hn
 ·exact h
theorem orN_val (x:List UInt8):valD (orN x)=valD x:=by
 cases x <;> simp [orN,valD]
theorem zfn (l:List UInt8):∃ k,l=List.replicate k 48++Lib.trimLeftB l 48:=by
 unfold Lib.trimLeftB
 induction l with
 | nil=>exact ⟨0,rfl⟩
 | cons c l ih=>
   by_cases h:c=48
   ·obtain ⟨k,hk⟩:=ih
    refine ⟨k+1,?_⟩
    rw [List.dropWhile_cons,if_pos (by simp [h]),List.replicate_succ,List.cons_append,← hk,h]
   ·exact ⟨0,by rw [List.dropWhile_cons,if_neg (by simp [h])];rfl⟩
theorem zfo (l:List UInt8):∃ k,l=Lib.trimRightB l 48++List.replicate k 48:=by
 obtain ⟨k,hk⟩:=zfn l.reverse
 refine ⟨k,?_⟩
 unfold Lib.trimLeftB at hk
 unfold Lib.trimRightB
 have:=congrArg List.reverse hk
 rw [List.reverse_reverse,List.reverse_append,List.reverse_replicate] at this
 exact this
theorem zm5 {l:List UInt8} (h:l.all za8=true):(Lib.trimLeftB l 48).all za8=true:=by
 obtain ⟨k,hk⟩:=zfn l
 rw [hk,List.all_append,Bool.and_eq_true] at h
 exact h.2
theorem zqw {l:List UInt8} (h:l.all za8=true):(Lib.trimRightB l 48).all za8=true:=by
 obtain ⟨k,hk⟩:=zfo l
 rw [hk,List.all_append,Bool.and_eq_true] at h
 exact h.1
theorem zlo (l:List UInt8):valD (Lib.trimLeftB l 48)=valD l:=by
 obtain ⟨k,hk⟩:=zfn l
 have:=congrArg valD hk
 rw [zc0,zi0] at this
 omega
theorem zot (l:List UInt8) {n:Nat} (h:l.length≤n):valD (Lib.trimRightB l 48)*10 ^ (n - (Lib.trimRightB l 48).length)=valD l*10 ^ (n - l.length):=by
 obtain ⟨k,hk⟩:=zfo l
 generalize Lib.trimRightB l 48=t at*
 subst hk
 rw [zc0,zi0,List.length_append,List.length_replicate,Nat.add_zero,Nat.mul_assoc,← Nat.pow_add]
 simp only [List.length_append,List.length_replicate] at h
 congr 2
 omega
theorem zu7 (l:List UInt8):Lib.trimLeftB (orN (Lib.trimLeftB l 48)) 48=Lib.trimLeftB l 48:=by
 obtain ⟨k,hk⟩:=zfn l
 have e:Lib.trimLeftB l 48=Lib.trimLeftB (Lib.trimLeftB l 48) 48:=by
  have:=congrArg (Lib.trimLeftB · 48) hk
  simp only [zf6] at this
  exact this
 unfold orN
 split
 ·rename_i h
  have:Lib.trimLeftB l 48=[]:=by simpa using h
  rw [this];rfl
 ·exact e.symm
theorem zu8 (l:List UInt8):Lib.trimRightB (orN (Lib.trimRightB l 48)) 48=Lib.trimRightB l 48:=by
 obtain ⟨k,hk⟩:=zfo l
 have e:Lib.trimRightB l 48=Lib.trimRightB (Lib.trimRightB l 48) 48:=by
  have:=congrArg (Lib.trimRightB · 48) hk
  simp only [zf7] at this
  exact this
 unfold orN
 split
 ·rename_i h
  have:Lib.trimRightB l 48=[]:=by simpa using h
  rw [this];rfl
 ·exact e.symm
theorem zw8 (l:List UInt8):∀ c r,Lib.trimLeftB l 48=c::r→c≠48:=by
 intro c r h e
 have:=List.head?_dropWhile_not (fun x:UInt8=>x == 48) l
 unfold Lib.trimLeftB at h
 rw [h,e] at this
 simp at this
theorem zm6 {l:List UInt8} (hd:l.all za8=true):Lib.trimLeftB l 48=[]↔valD l=0:=by
 constructor
 ·intro h;rw [← zlo,h];rfl
 ·intro h
  cases e:Lib.trimLeftB l 48 with
  | nil=>rfl
  | cons c r=>
    have hc:=zw8 l c r e
    have hdd:=zm5 hd
    rw [e,List.all_cons,Bool.and_eq_true] at hdd
    have:=zos hdd.1
    have h2:=zlo l
    rw [e,h] at h2
    simp only [valD] at h2
    have hne:c.toNat≠48:=fun h=>hc (UInt8.toNat_inj.1 h)
    have:0 < (c.toNat - 48)*10 ^ r.length:=Nat.mul_pos (by omega) (Nat.pow_pos (by omega))
    omega
theorem zm7 {l:List UInt8} (hd:l.all za8=true):Lib.trimRightB l 48=[]↔valD l=0:=by
 constructor
 ·intro h
  have:=zot l (Nat.le_refl _)
  rw [h] at this
  simpa [valD] using this.symm
 ·intro h
  obtain ⟨k,hk⟩:=zfo l
  have:l=List.replicate l.length 48:=zej _ _ hd (zm4 _) (by simp) (by rw [h,zi0])
  rw [this]
  have e:=zf7 l.length []
  rw [List.nil_append] at e
  rw [e];rfl
theorem wr_back (neg:Bool) (a b t:List UInt8) (ha:a.all za8=true) (hb:b.all za8=true) (h:wr neg a b=some t):
 ∃ x y,zdf t=some (neg && !(decide (valD a=0) && decide (valD b=0)),x,y)∧x.all za8=true∧y.all za8=true∧x.length≤40∧y.length≤20∧valD x=valD a∧
  (∀ n,b.length≤n→20≤n→valD y*10 ^ (n - y.length)=valD b*10 ^ (n - b.length))∧chk t=true:=by
 have hiff:(Lib.trimLeftB a 48++Lib.trimRightB b 48).isEmpty=(decide (valD a=0) && decide (valD b=0)):=by
  rw [Bool.eq_iff_iff]
  simp only [List.isEmpty_iff,List.append_eq_nil_iff,zm6 ha,zm7 hb,Bool.and_eq_true,decide_eq_true_iff]
 have h0:=h
 unfold wr at h
 simp only at h
 split at h
 ·cases h
 ·rename_i hl
  have hl1:(Lib.trimLeftB a 48).length≤40:=by omega
  have hl2:(Lib.trimRightB b 48).length≤20:=by omega
  rw [hiff,Option.some.injEq] at h
  have hsp:=zf8 (neg && !(decide (valD a=0) && decide (valD b=0))) (orN (Lib.trimLeftB a 48)) (orN (Lib.trimRightB b 48)) (zp0 (zm5 ha)) (z3j _) (zp0 (zqw hb)) (z3j _)
  rw [h] at hsp
  refine ⟨_,_,hsp,zp0 (zm5 ha),zp0 (zqw hb),zp1 hl1 (by omega),zp1 hl2 (by omega),by rw [orN_val,zlo],?_,?_⟩
  ·intro n hn hn2
   rw [← zot b hn]
   unfold orN
   split
   ·rename_i he
    have:Lib.trimRightB b 48=[]:=by simpa using he
    rw [this]
    simp [valD]
   ·rfl
  ·unfold chk zln
   rw [hsp]
   simp only [Option.map_some]
   have:wr (neg && !(decide (valD a=0) && decide (valD b=0))) (orN (Lib.trimLeftB a 48)) (orN (Lib.trimRightB b 48))=some t:=by
    unfold wr
    simp only [zu7,zu8]
    rw [if_neg hl,hiff,← h,Bool.and_assoc,Bool.and_self]
   rw [this]
   simp
theorem zm8 (l:List UInt8) (h:chk l=true):∃ n a b,zdf l=some (n,a,b)∧a.all za8=true∧b.all za8=true∧a.length≤40∧b.length≤20∧wr n a b=some l∧
 (n=true→¬ (valD a=0∧valD b=0)):=by
 have h':zln l=some (some l):=by simpa [chk] using h
 unfold zln at h'
 cases hs:zdf l with
 | none=>rw [hs] at h';cases h'
 | some x=>
   obtain ⟨n,a,b⟩:=x
   rw [hs] at h'
   simp only [Option.map_some,Option.some.injEq] at h'
   have hd:a.all za8=true∧b.all za8=true:=by
    have hs':=hs
    unfold zdf at hs'
    simp only at hs'
    split at hs'
    ·rename_i hc
     simp only [Option.some.injEq,Prod.mk.injEq] at hs'
     obtain ⟨_,rfl,rfl⟩:=hs'
     rw [Bool.and_eq_true,Bool.or_eq_true] at hc
     refine ⟨?_,?_⟩
     ·have:=hc.1;unfold digs at this;rw [Bool.and_eq_true] at this;exact this.2
     ·rcases hc.2 with h | h
      ·have hf:(Lib.cut (sgn l).2 [46]).2.2=false:=by simpa using h
       have:(Lib.cut (sgn l).2 [46]).2.1=[]:=by
        unfold Lib.cut at hf ⊢
        split at hf
        ·cases hf
        ·rw [if_neg (by assumption)]
       rw [this];rfl
      ·unfold digs at h;rw [Bool.and_eq_true] at h;exact h.2
    ·cases hs'
   obtain ⟨x,y,e1,e2,e3,e4,e5,e6,e7,e8⟩:=wr_back n a b l hd.1 hd.2 h'
   rw [hs,Option.some.injEq,Prod.mk.injEq,Prod.mk.injEq] at e1
   obtain ⟨f1,rfl,rfl⟩:=e1
   refine ⟨n,a,b,rfl,hd.1,hd.2,e4,e5,h',?_⟩
   rintro rfl ⟨g1,g2⟩
   rw [g1,g2] at f1
   simp at f1
def zjc (a b:List UInt8):Nat:=valD a*10 ^ 54+valD b*10 ^ (54 - b.length)
end Go.Proofs.YteclpnfckjfibaaGreatDoor

/- D3 -/
namespace Go.Proofs.YteclpnfckjfibaaGreatDoor
def sv (n:Bool) (x:Nat):Int:=if n then -(x:Int) else x
def zef (l:List UInt8):Bool:=((zdf l).getD (false,[],[])).1
def damt (l:List UInt8):Nat:=zjc ((zdf l).getD (false,[],[])).2.1 ((zdf l).getD (false,[],[])).2.2
def dval (l:List UInt8):Int:=sv (zef l) (damt l)
def txt (z:Int):Option (List UInt8):=wrN (decide (z < 0)) z.natAbs
theorem wr_zero (n m:Bool) (a b:List UInt8) (ha:a.all za8=true) (hb:b.all za8=true) (h1:valD a=0) (h2:valD b=0):wr n a b=wr m a b:=by
 unfold wr
 simp only [(zm6 ha).2 h1,(zm7 hb).2 h2,List.append_nil,List.isEmpty_nil,Bool.not_true,Bool.and_false]
theorem wrN_sv (r:Bool) (x:Nat):wrN r x=txt (sv r x):=by
 unfold txt sv
 cases r
 ·simp only [Bool.false_eq_true,if_false]
  rw [Int.natAbs_natCast,decide_eq_false (by omega)]
 ·simp only [if_true]
  rw [Int.natAbs_neg,Int.natAbs_natCast]
  by_cases h:x=0
  ·subst h
   exact wr_zero _ _ _ _ (zez _ _ _) (zez _ _ _) (by simp [ze0]) (by simp [ze0])
  ·rw [decide_eq_true (by omega)]
theorem zso (a b:List UInt8) (ha:a.all za8=true) (hb:b.all za8=true) (la:a.length≤40) (lb:b.length≤20):zjc a b < 10 ^ 94∧zjc a b % 10 ^ 34=0:=by
 have h1:=ziz a ha
 have h2:=ziz b hb
 have h3:10 ^ a.length≤10 ^ 40:=Nat.pow_le_pow_right (by omega) la
 have h4:valD b*10 ^ (54 - b.length) < 10 ^ b.length*10 ^ (54 - b.length):=Nat.mul_lt_mul_of_pos_right h2 (Nat.pow_pos (by omega))
 rw [← Nat.pow_add,show b.length+(54 - b.length)=54 by omega] at h4
 unfold zjc
 constructor
 ·have h5:(valD a+1)*10 ^ 54≤10 ^ 40*10 ^ 54:=Nat.mul_le_mul_right _ (by omega)
  rw [← Nat.pow_add,Nat.add_mul] at h5
  omega
 ·have e1:10 ^ 54=10 ^ 20*10 ^ 34:=by rw [← Nat.pow_add]
  have e2:10 ^ (54 - b.length)=10 ^ (20 - b.length)*10 ^ 34:=by rw [← Nat.pow_add];congr 1;omega
  rw [e1,e2,← Nat.mul_assoc,← Nat.mul_assoc,← Nat.add_mul,Nat.mul_mod_left]
theorem zw9 (l:List UInt8) (h:chk l=true):txt (dval l)=some l∧damt l < 10 ^ 94∧damt l % 10 ^ 34=0∧(zef l=true→damt l≠0)∧
 ∃ a b,zdf l=some (zef l,a,b)∧a.all za8=true∧b.all za8=true∧a.length≤40∧b.length≤20∧damt l=zjc a b:=by
 obtain ⟨n,a,b,hsp,ha,hb,la,lb,hw,hz⟩:=zm8 l h
 have e1:zef l=n:=by unfold zef;rw [hsp];rfl
 have e2:damt l=zjc a b:=by unfold damt;rw [hsp];rfl
 obtain ⟨f1,f2⟩:=zso a b ha hb la lb
 have hlt:=ziz a ha
 have h90:10 ^ a.length≤10 ^ 90:=Nat.pow_le_pow_right (by omega) (by omega)
 refine ⟨?_,by rw [e2];exact f1,by rw [e2];exact f2,?_,a,b,by rw [e1];exact hsp,ha,hb,la,lb,e2⟩
 ·unfold dval
  rw [← wrN_sv,e1,e2,← hw,wr_wrN n a b ha hb (by omega) (by omega)]
  rfl
 ·rw [e1,e2]
  intro hn h0
  apply hz hn
  unfold zjc at h0
  have p1:0 < 10 ^ (54 - b.length):=Nat.pow_pos (by omega)
  rcases Nat.add_eq_zero_iff.1 h0 with ⟨q1,q2⟩
  rw [Nat.mul_eq_zero] at q1 q2
  exact ⟨by omega,by omega⟩
end Go.Proofs.YteclpnfckjfibaaGreatDoor

/- A8 -/
namespace Go.Proofs.YteclpnfckjfibaaGreatDoor
open Go.RowKit
theorem z0t.done {f g h:Nat→Nat} {c:Nat} (H:z0t f g h c 16) (hs:wval f+wval g < BASE ^ 16):wval h=wval f+wval g:=by
 have s:=H.sum
 have hc:c=0:=by
  by_cases e:c=0
  ·exact e
  ·have:1*BASE ^ 16≤c*BASE ^ 16:=Nat.mul_le_mul_right _ (by omega)
   unfold wval at hs;omega
 subst hc
 unfold wval at *;omega
theorem zmt.done {f g h:Nat→Nat} {c:Nat} (H:zmt f g h c 16) (hs:wval g≤wval f) (_hf:zfl f):wval h+wval g=wval f:=by
 have s:=H.sum
 have hl:=vN_lt h H.words 16 (by omega)
 have hc:c=0:=by
  by_cases e:c=0
  ·exact e
  ·have:1*BASE ^ 16≤c*BASE ^ 16:=Nat.mul_le_mul_right _ (by omega)
   unfold wval at hs;omega
 subst hc
 unfold wval;omega
end Go.Proofs.YteclpnfckjfibaaGreatDoor

/- R -/
namespace Go.Proofs.YteclpnfckjfibaaGreatDoor
open Go.RowKit
theorem zm9 {fn:Func} {p q:Tmp} (h:fn.results=#[.cell p 280,.tmp q]) (tmps:Array Value) {w:World} {g:Nat} {c:Array Value} {n:Bool} {f:Nat→Nat} (v:Value)
 (hp:tmps.getD p undef=.pointer (some ⟨g,0,none⟩)) (hq:tmps.getD q undef=v) (hg:Lies w g c n f):(results fn tmps).run Tryz.prog w=.ok (.tuple #[.agg c,v]) w:=by
 have hp':tmps[p]?.getD undef=.pointer (some ⟨g,0,none⟩):=by simpa using hp
 have hq':tmps[q]?.getD undef=v:=by simpa using hq
 have hl:=run_loadVar_row (P:=Tryz.prog) w g 280 280 c (0,0) _ hg.1 Tryz.underlying280 rfl (by rw [hg.2.size];exact zm2)
 simp [results,h,hp',hq',asAddr,hl]
theorem zmp {fn:Func} {p p2 q:Tmp} (h:fn.results=#[.cell p 280,.cell p2 280,.tmp q]) (tmps:Array Value) {w:World} {g g2:Nat} {c c2:Array Value} {n n2:Bool} {f f2:Nat→Nat} (v:Value)
 (hp:tmps.getD p undef=.pointer (some ⟨g,0,none⟩)) (hp2:tmps.getD p2 undef=.pointer (some ⟨g2,0,none⟩)) (hq:tmps.getD q undef=v) (hg:Lies w g c n f) (hg2:Lies w g2 c2 n2 f2):(results fn tmps).run Tryz.prog w=.ok (.tuple #[.agg c,.agg c2,v]) w:=by
 have hp':tmps[p]?.getD undef=.pointer (some ⟨g,0,none⟩):=by simpa using hp
 have hp2':tmps[p2]?.getD undef=.pointer (some ⟨g2,0,none⟩):=by simpa using hp2
 have hq':tmps[q]?.getD undef=v:=by simpa using hq
 have hl:=run_loadVar_row (P:=Tryz.prog) w g 280 280 c (0,0) _ hg.1 Tryz.underlying280 rfl (by rw [hg.2.size];exact zm2)
 have hl2:=run_loadVar_row (P:=Tryz.prog) w g2 280 280 c2 (0,0) _ hg2.1 Tryz.underlying280 rfl (by rw [hg2.2.size];exact zm2)
 simp [results,h,hp',hp2',hq',asAddr,hl,hl2]
def z3k (n:Bool):Array Value:=#[.bool n,.int .u32 0,.int .u32 0,.int .u32 0,.int .u32 0,.int .u32 0,.int .u32 0,.int .u32 0,.int .u32 0,.int .u32 0,.int .u32 0,.int .u32 0,.int .u32 0,.int .u32 0,.int .u32 0,.int .u32 0,.int .u32 0]
theorem zu9 (n:Bool):zcv (z3k n) n (fun _=>0):=
 ⟨rfl,fun j hj=>by have:=zor.word j hj;rw [Nat.add_comm] at this ⊢;exact this,rfl,fun j _=>by decide⟩
theorem zxa (w:World) (n:Bool) {g:Nat} (e:w.heap.size=g):Lies (w.alloc (.cells #[.bool n,.int .u32 0,.int .u32 0,.int .u32 0,.int .u32 0,.int .u32 0,.int .u32 0,.int .u32 0,.int .u32 0,.int .u32 0,.int .u32 0,.int .u32 0,.int .u32 0,.int .u32 0,.int .u32 0,.int .u32 0,.int .u32 0] 280)) g (z3k n) n (fun _=>0):=
 ⟨zaf _ _ e,zu9 n⟩
end Go.Proofs.YteclpnfckjfibaaGreatDoor

/- B4 -/
namespace Go.Proofs.YteclpnfckjfibaaGreatDoor
open Go.RowKit
theorem ziu {ops:Array Oper} {S:World→Prop} {op:Oper} {a:Act} (hw:Region.wanted op (yielded ops a.tmps)=true) (x:Operand) (ho:op.op=.load 280 x)
 (g:Nat) (hx:a.eval x=.pointer (some ⟨g,0,none⟩)) (c:Array Value) (n:Bool) (f:Nat→Nat) (hS:∀ w,S w→Lies w g c n f):YieldsIf Tryz.prog ops S op (.agg c) a:=
 .inl ⟨hw,fun w hw'=>by
  unfold execOp
  simp only [ho,hx,Instr.loadAt,Instr.sureAddr,Sem.run_bind,Sem.run_pure,Result.andThen_ok,run_loadVar_row (P:=Tryz.prog) w g 280 280 c (0,0) _ (hS w hw').1 Tryz.underlying280 rfl (by rw [(hS w hw').2.size];exact zm2)]⟩
theorem storeN {w:World} {g:Nat} {c c':Array Value} {n n':Bool} {f f':Nat→Nat} (h:Lies w g c n f) (k:zcv c' n' f'):(Instr.storeAt 280 (.pointer (some ⟨g,0,none⟩)) (.agg c')).run Tryz.prog w=.ok () (w.setRow g c'):=by
 simp only [Instr.storeAt,Instr.sureAddr,Sem.run_bind,Sem.run_pure,Result.andThen_ok]
 exact run_storeVar_row (P:=Tryz.prog) w g 280 280 c c' h.1 (by rw [k.size];exact zm2) (by rw [h.2.size,k.size]) k.one
theorem zqx {op:Oper} {a:Act} {w:World} {K:Act→World→Prop} {Q:Exit→Act→World→Prop} (x y:Operand) (ho:op.op=.store 280 x y) (g:Nat) {c c':Array Value} {n n':Bool} {f f':Nat→Nat}
 (hx:a.eval x=.pointer (some ⟨g,0,none⟩)) (hy:a.eval y=.agg c') (hl:Lies w g c n f) (hn:zcv c' n' f') (h:∀ w',Only g w w'→Lies w' g c' n' f'→K (a.put op.dst undef) w'):op.wp Tryz.prog a w K Q:=by
 unfold Oper.wp execOp
 simp only [ho,hx,hy,storeN hl hn,Sem.run_bind,Sem.run_pure,Result.andThen_ok]
 exact h _ (Only.setRow w c') ⟨zdd hl.1,hn⟩
end Go.Proofs.YteclpnfckjfibaaGreatDoor

/- S1 -/
namespace Go.Proofs.YteclpnfckjfibaaGreatDoor
open Go.RowKit
theorem zxb {s:ByteArray} {k:Nat} (h:k < s.size) (hk:za8 s[k]=false):digs s.data.toList=false:=by
 unfold digs
 have:s.data.toList.all za8=false:=by
  rw [List.all_eq_false]
  exact ⟨s[k],by simp [ByteArray.getElem_eq_getElem_data],by rw [hk];simp⟩
 rw [this,Bool.and_false]
theorem z0w {s:ByteArray} {k:Nat} (h:k < s.size) (ha:(s.data.toList.take k).all za8=true) (hk:za8 s[k]=true):(s.data.toList.take (k+1)).all za8=true:=by
 rw [List.take_succ_eq_append_getElem (by simpa using h),List.all_append,ha]
 simpa [ByteArray.getElem_eq_getElem_data] using hk
set_option maxHeartbeats 400000 in
theorem zva (s:ByteArray) (w:World) (hs:s.size≤maxLen):
 Calls Tryz.prog 251 #[.string s] w fun e w'=>e=.returned (.bool (digs s.data.toList))∧w'=w:=by
 unfold maxLen at hs
 go_enter Tryz.func251,Tryz.ntmps251
 go_wp2
 go_loop [6] (fun i=>∃ k:Nat,k≤s.size∧i=.int .i64 k∧(s.data.toList.take k).all za8=true) (fun i=>s.size - (intOf i).toNat)
 case atStart=>exact ⟨0,Nat.zero_le _,rfl,by simp⟩
 case round=>
  obtain ⟨k,hk,rfl,hall⟩:=hrel
  have HA:=Lib.hid hall
  clear hall
  by_cases hlt:k < s.size
  ·by_cases h1:(s[k].toNat:Int) < 48
   ·go_wp2
    go_ret
    refine ⟨?_,rfl⟩
    rw [zxb hlt (Bool.eq_false_iff.2 fun e=>by have:=(zc8 _).1 e;omega)]
    rfl
   ·by_cases h2:(57:Int) < s[k].toNat
    ·go_wp2
     go_ret
     refine ⟨?_,rfl⟩
     rw [zxb hlt (Bool.eq_false_iff.2 fun e=>by have:=(zc8 _).1 e;omega)]
     rfl
    ·go_wp2
     go_round
     case rel=>exact ⟨k+1,by omega,by go_num,z0w hlt HA.out ((zc8 _).2 ⟨by omega,by omega⟩)⟩
     case measure=>simp [intOf];omega
  ·go_wp2
   go_ret
   refine ⟨?_,rfl⟩
   have hk':k=s.data.toList.length:=by have:s.data.toList.length=s.size:=by simp
                                       omega
   have ha:=HA.out
   rw [hk',List.take_length] at ha
   unfold digs
   rw [ha,Bool.and_true,← ByteArray.toList_eq]
   rfl
theorem zvb (s:ByteArray) (w:World):
 Calls Tryz.prog 254 #[.string s] w fun e w'=>e=.returned (.string ⟨(orN s.data.toList).toArray⟩)∧w'=w:=by
 by_cases h:s.toList.isEmpty=true
 ·go_enter Tryz.func254,Tryz.ntmps254
  go_wp2
  go_ret
  refine ⟨?_,rfl⟩
  unfold orN
  rw [← ByteArray.toList_eq,if_pos h]
  rfl
 ·have h':s.toList.isEmpty=false:=by simpa using h
  go_enter Tryz.func254,Tryz.ntmps254
  go_wp2
  go_ret
  refine ⟨?_,rfl⟩
  unfold orN
  rw [← ByteArray.toList_eq,if_neg h,ByteArray.toList_eq]
  rfl
end Go.Proofs.YteclpnfckjfibaaGreatDoor

/- Shelf -/
namespace Go.Proofs
open Go.Shelf
def Tryz.lays161_ren:Go.Shelf.Ren:=⟨fun | 161=>252 | 231=>266 | 227=>267 | 233=>268 | 235=>269 | 228=>278 | 197=>279 | 151=>280 | 260=>289 | 152=>290 | 137=>297 | 119=>298 | 224=>287 | 225=>286 | 217=>285 | 266=>295 | n=>n,fun | 9=>9 | 4=>4 | 3=>3 | 5=>5 | 117=>270 | 116=>269 | 0=>0 | 124=>273 | 105=>275 | 21=>21 | 119=>292 | 46=>179 | 139=>295 | 138=>294 | n=>n,fun | 3=>1 | 4=>2 | n=>n⟩
theorem Tryz.lays161:Go.Proofs.Lays.n161 Tryz.prog Tryz.lays161_ren:={
 mixed:=by kernel_rfl
 f119:=Tryz.func298.trans (congrArg some (by kernel_rfl))
 f137:=Tryz.func297.trans (congrArg some (by kernel_rfl))
 f151:=Tryz.func280.trans (congrArg some (by kernel_rfl))
 f152:=Tryz.func290.trans (congrArg some (by kernel_rfl))
 f161:=Tryz.func252.trans (congrArg some (by kernel_rfl))
 f197:=Tryz.func279.trans (congrArg some (by kernel_rfl))
 f217:=Tryz.func285.trans (congrArg some (by kernel_rfl))
 f224:=Tryz.func287.trans (congrArg some (by kernel_rfl))
 f225:=Tryz.func286.trans (congrArg some (by kernel_rfl))
 f227:=Tryz.func267.trans (congrArg some (by kernel_rfl))
 f228:=Tryz.func278.trans (congrArg some (by kernel_rfl))
 f231:=Tryz.func266.trans (congrArg some (by kernel_rfl))
 f233:=Tryz.func268.trans (congrArg some (by kernel_rfl))
 f235:=Tryz.func269.trans (congrArg some (by kernel_rfl))
 f260:=Tryz.func289.trans (congrArg some (by kernel_rfl))
 f266:=Tryz.func295.trans (congrArg some (by kernel_rfl))
 t0:=Tryz.underlying0
 a0:=Tryz.isAgg0
 z0:=Tryz.sizeOf0
 v0:=Tryz.zeroValue0
 t3:=Tryz.underlying3
 a3:=Tryz.isAgg3
 z3:=Tryz.sizeOf3
 v3:=Tryz.zeroValue3
 t4:=Tryz.underlying4
 a4:=Tryz.isAgg4
 z4:=Tryz.sizeOf4
 v4:=Tryz.zeroValue4
 t5:=Tryz.underlying5
 a5:=Tryz.isAgg5
 z5:=Tryz.sizeOf5
 v5:=Tryz.zeroValue5
 t9:=Tryz.underlying9
 a9:=Tryz.isAgg9
 z9:=Tryz.sizeOf9
 v9:=Tryz.zeroValue9
 t21:=Tryz.underlying21
 a21:=Tryz.isAgg21
 z21:=Tryz.sizeOf21
 v21:=Tryz.zeroValue21
 t46:=Tryz.underlying179
 a46:=Tryz.isAgg179
 z46:=Tryz.sizeOf179
 v46:=Tryz.zeroValue179
 t105:=Tryz.underlying275
 a105:=Tryz.isAgg275
 z105:=Tryz.sizeOf275
 v105:=Tryz.zeroValue275
 t116:=Tryz.underlying269
 a116:=Tryz.isAgg269
 z116:=Tryz.sizeOf269
 t117:=Tryz.underlying270
 a117:=Tryz.isAgg270
 z117:=Tryz.sizeOf270
 v117:=Tryz.zeroValue270
 t119:=Tryz.underlying292
 a119:=Tryz.isAgg292
 z119:=Tryz.sizeOf292
 t124:=Tryz.underlying273
 a124:=Tryz.isAgg273
 z124:=Tryz.sizeOf273
 v124:=Tryz.zeroValue273
 t138:=Tryz.underlying294
 a138:=Tryz.isAgg294
 z138:=Tryz.sizeOf294
 v138:=Tryz.zeroValue294
 t139:=Tryz.underlying295
 a139:=Tryz.isAgg295
 z139:=Tryz.sizeOf295
 v139:=Tryz.zeroValue295
 g3:=by kernel_rfl
 g4:=by kernel_rfl }
open Go.RowKit in
theorem Tryz.strings_TrimLeft_one (s:ByteArray) (c:UInt8) (hc:c.toNat < 128) (w:World):
 Calls Tryz.prog 252 #[.string s,.string ⟨#[c]⟩] w fun e w'=>e=.returned (.string ⟨(Lib.trimLeftB s.data.toList c).toArray⟩)∧w'=w:=Any.strings_TrimLeft_one Tryz.lays161 s c hc w
def Tryz.lays162_ren:Go.Shelf.Ren:=⟨fun | 162=>253 | 232=>270 | 227=>267 | 234=>271 | 236=>272 | 228=>278 | 271=>281 | 151=>280 | 120=>291 | 197=>279 | 152=>290 | 260=>289 | 137=>297 | 119=>298 | 224=>287 | 225=>286 | 217=>285 | 266=>295 | n=>n,fun | 9=>9 | 4=>4 | 3=>3 | 5=>5 | 117=>270 | 116=>269 | 0=>0 | 124=>273 | 21=>21 | 105=>275 | 46=>179 | 119=>292 | 139=>295 | 138=>294 | n=>n,fun | 3=>1 | 4=>2 | n=>n⟩
theorem Tryz.lays162:Go.Proofs.Lays.n162 Tryz.prog Tryz.lays162_ren:={
 mixed:=by kernel_rfl
 f119:=Tryz.func298.trans (congrArg some (by kernel_rfl))
 f120:=Tryz.func291.trans (congrArg some (by kernel_rfl))
 f137:=Tryz.func297.trans (congrArg some (by kernel_rfl))
 f151:=Tryz.func280.trans (congrArg some (by kernel_rfl))
 f152:=Tryz.func290.trans (congrArg some (by kernel_rfl))
 f162:=Tryz.func253.trans (congrArg some (by kernel_rfl))
 f197:=Tryz.func279.trans (congrArg some (by kernel_rfl))
 f217:=Tryz.func285.trans (congrArg some (by kernel_rfl))
 f224:=Tryz.func287.trans (congrArg some (by kernel_rfl))
 f225:=Tryz.func286.trans (congrArg some (by kernel_rfl))
 f227:=Tryz.func267.trans (congrArg some (by kernel_rfl))
 f228:=Tryz.func278.trans (congrArg some (by kernel_rfl))
 f232:=Tryz.func270.trans (congrArg some (by kernel_rfl))
 f234:=Tryz.func271.trans (congrArg some (by kernel_rfl))
 f236:=Tryz.func272.trans (congrArg some (by kernel_rfl))
 f260:=Tryz.func289.trans (congrArg some (by kernel_rfl))
 f266:=Tryz.func295.trans (congrArg some (by kernel_rfl))
 f271:=Tryz.func281.trans (congrArg some (by kernel_rfl))
 t0:=Tryz.underlying0
 a0:=Tryz.isAgg0
 z0:=Tryz.sizeOf0
 v0:=Tryz.zeroValue0
 t3:=Tryz.underlying3
 a3:=Tryz.isAgg3
 z3:=Tryz.sizeOf3
 v3:=Tryz.zeroValue3
 t4:=Tryz.underlying4
 a4:=Tryz.isAgg4
 z4:=Tryz.sizeOf4
 v4:=Tryz.zeroValue4
 t5:=Tryz.underlying5
 a5:=Tryz.isAgg5
 z5:=Tryz.sizeOf5
 v5:=Tryz.zeroValue5
 t9:=Tryz.underlying9
 a9:=Tryz.isAgg9
 z9:=Tryz.sizeOf9
 v9:=Tryz.zeroValue9
 t21:=Tryz.underlying21
 a21:=Tryz.isAgg21
 z21:=Tryz.sizeOf21
 v21:=Tryz.zeroValue21
 t46:=Tryz.underlying179
 a46:=Tryz.isAgg179
 z46:=Tryz.sizeOf179
 v46:=Tryz.zeroValue179
 t105:=Tryz.underlying275
 a105:=Tryz.isAgg275
 z105:=Tryz.sizeOf275
 v105:=Tryz.zeroValue275
 t116:=Tryz.underlying269
 a116:=Tryz.isAgg269
 z116:=Tryz.sizeOf269
 t117:=Tryz.underlying270
 a117:=Tryz.isAgg270
 z117:=Tryz.sizeOf270
 v117:=Tryz.zeroValue270
 t119:=Tryz.underlying292
 a119:=Tryz.isAgg292
 z119:=Tryz.sizeOf292
 t124:=Tryz.underlying273
 a124:=Tryz.isAgg273
 z124:=Tryz.sizeOf273
 v124:=Tryz.zeroValue273
 t138:=Tryz.underlying294
 a138:=Tryz.isAgg294
 z138:=Tryz.sizeOf294
 v138:=Tryz.zeroValue294
 t139:=Tryz.underlying295
 a139:=Tryz.isAgg295
 z139:=Tryz.sizeOf295
 v139:=Tryz.zeroValue295
 g3:=by kernel_rfl
 g4:=by kernel_rfl }
open Go.RowKit in
theorem Tryz.strings_TrimRight_one (s:ByteArray) (c:UInt8) (hc:c.toNat < 128) (w:World) (hs:s.size≤9223372036854775807):
 Calls Tryz.prog 253 #[.string s,.string ⟨#[c]⟩] w fun e w'=>e=.returned (.string ⟨(Lib.trimRightB s.data.toList c).toArray⟩)∧w'=w:=Any.strings_TrimRight_one Tryz.lays162 s c hc w hs
def Tryz.laysM173_ren:Go.Shelf.Ren:=⟨fun | 173=>294 | 246=>300 | 283=>302 | 284=>303 | 285=>304 | 286=>305 | 129=>204 | 317=>306 | 318=>307 | 319=>308 | 320=>309 | 337=>310 | 338=>311 | n=>n,fun | 2=>2 | 3=>3 | 9=>9 | 4=>4 | 171=>300 | 0=>0 | 53=>213 | 37=>101 | 5=>5 | 173=>302 | 212=>305 | 51=>211 | 20=>20 | 213=>306 | 46=>179 | 232=>307 | 233=>308 | n=>n,fun | 17=>3 | 18=>4 | 19=>5 | n=>n⟩
theorem Tryz.laysM173:Go.Proofs.LaysM.n173 Tryz.prog Tryz.laysM173_ren:={
 mixed:=by kernel_rfl
 f129:=Tryz.func204.trans (congrArg some (by kernel_rfl))
 f173:=Tryz.func294.trans (congrArg some (by kernel_rfl))
 f246:=Tryz.func300.trans (congrArg some (by kernel_rfl))
 f283:=Tryz.func302.trans (congrArg some (by kernel_rfl))
 f284:=Tryz.func303.trans (congrArg some (by kernel_rfl))
 f285:=Tryz.func304.trans (congrArg some (by kernel_rfl))
 f286:=Tryz.func305.trans (congrArg some (by kernel_rfl))
 f317:=Tryz.func306.trans (congrArg some (by kernel_rfl))
 f318:=Tryz.func307.trans (congrArg some (by kernel_rfl))
 f319:=Tryz.func308.trans (congrArg some (by kernel_rfl))
 f320:=Tryz.func309.trans (congrArg some (by kernel_rfl))
 f337:=Tryz.func310.trans (congrArg some (by kernel_rfl))
 f338:=Tryz.func311.trans (congrArg some (by kernel_rfl))
 t0:=Tryz.underlying0
 a0:=Tryz.isAgg0
 z0:=Tryz.sizeOf0
 v0:=Tryz.zeroValue0
 t2:=Tryz.underlying2
 a2:=Tryz.isAgg2
 z2:=Tryz.sizeOf2
 v2:=Tryz.zeroValue2
 t3:=Tryz.underlying3
 a3:=Tryz.isAgg3
 z3:=Tryz.sizeOf3
 v3:=Tryz.zeroValue3
 t4:=Tryz.underlying4
 a4:=Tryz.isAgg4
 z4:=Tryz.sizeOf4
 v4:=Tryz.zeroValue4
 t5:=Tryz.underlying5
 a5:=Tryz.isAgg5
 z5:=Tryz.sizeOf5
 v5:=Tryz.zeroValue5
 t9:=Tryz.underlying9
 a9:=Tryz.isAgg9
 z9:=Tryz.sizeOf9
 v9:=Tryz.zeroValue9
 t20:=Tryz.underlying20
 a20:=Tryz.isAgg20
 z20:=Tryz.sizeOf20
 v20:=Tryz.zeroValue20
 t37:=Tryz.underlying101
 a37:=Tryz.isAgg101
 z37:=Tryz.sizeOf101
 v37:=Tryz.zeroValue101
 t46:=Tryz.underlying179
 a46:=Tryz.isAgg179
 z46:=Tryz.sizeOf179
 v46:=Tryz.zeroValue179
 t51:=Tryz.underlying211
 a51:=Tryz.isAgg211
 z51:=Tryz.sizeOf211
 v51:=Tryz.zeroValue211
 t53:=Tryz.underlying213
 a53:=Tryz.isAgg213
 z53:=Tryz.sizeOf213
 v53:=Tryz.zeroValue213
 t171:=Tryz.underlying300
 a171:=Tryz.isAgg300
 z171:=Tryz.sizeOf300
 v171:=Tryz.zeroValue300
 t173:=Tryz.underlying302
 a173:=Tryz.isAgg302
 z173:=Tryz.sizeOf302
 v173:=Tryz.zeroValue302
 t212:=Tryz.underlying305
 a212:=Tryz.isAgg305
 z212:=Tryz.sizeOf305
 v212:=Tryz.zeroValue305
 t213:=Tryz.underlying306
 a213:=Tryz.isAgg306
 z213:=Tryz.sizeOf306
 t232:=Tryz.underlying307
 a232:=Tryz.isAgg307
 z232:=Tryz.sizeOf307
 v232:=Tryz.zeroValue307
 t233:=Tryz.underlying308
 a233:=Tryz.isAgg308
 z233:=Tryz.sizeOf308
 v233:=Tryz.zeroValue308
 g17:=by kernel_rfl
 g18:=by kernel_rfl
 g19:=by kernel_rfl
 i0:=by kernel_rfl
 i2:=by kernel_rfl
 i3:=by kernel_rfl
 i4:=by kernel_rfl
 i5:=by kernel_rfl
 i9:=by kernel_rfl
 i20:=by kernel_rfl
 i37:=by kernel_rfl
 i46:=by kernel_rfl
 i51:=by kernel_rfl
 i53:=by kernel_rfl
 i171:=by kernel_rfl
 i173:=by kernel_rfl
 i212:=by kernel_rfl
 i232:=by kernel_rfl
 i233:=by kernel_rfl
 m17:=by kernel_rfl
 m18:=by kernel_rfl
 m19:=by kernel_rfl }
open Go.RowKit Go.Sort Go.Lib in
theorem Tryz.strconv_FormatInt_10 (n:Int) (h0:-9223372036854775808≤n) (h1:n≤9223372036854775807) (w:World) (htab:Lib.TabIs Tryz.prog w "internal/strconv.uint64pow10" .u64 Lib.pow10Tab):
 Calls Tryz.prog 294 #[.int .i64 n,.int .i64 10] w fun e w'=>e=.returned (.string ⟨(Lib.itoa n).toArray⟩)∧∃ k os,w'=grow (w.drewN k) os:=Any.strconv_FormatInt_10 Tryz.laysM173 n h0 h1 w htab
def Tryz.lays145_ren:Go.Shelf.Ren:=⟨fun | 145=>250 | 220=>265 | 219=>277 | 217=>285 | 225=>286 | 224=>287 | 267=>288 | 266=>295 | 314=>296 | n=>n,fun | 9=>9 | 4=>4 | 59=>257 | 3=>3 | 5=>5 | 46=>179 | 146=>290 | 51=>211 | n=>n,fun | 1=>0 | n=>n⟩
theorem Tryz.lays145:Go.Proofs.Lays.n145 Tryz.prog Tryz.lays145_ren:={
 mixed:=by kernel_rfl
 f145:=Tryz.func250.trans (congrArg some (by kernel_rfl))
 f217:=Tryz.func285.trans (congrArg some (by kernel_rfl))
 f219:=Tryz.func277.trans (congrArg some (by kernel_rfl))
 f220:=Tryz.func265.trans (congrArg some (by kernel_rfl))
 f224:=Tryz.func287.trans (congrArg some (by kernel_rfl))
 f225:=Tryz.func286.trans (congrArg some (by kernel_rfl))
 f266:=Tryz.func295.trans (congrArg some (by kernel_rfl))
 f267:=Tryz.func288.trans (congrArg some (by kernel_rfl))
 f314:=Tryz.func296.trans (congrArg some (by kernel_rfl))
 t3:=Tryz.underlying3
 a3:=Tryz.isAgg3
 z3:=Tryz.sizeOf3
 v3:=Tryz.zeroValue3
 t4:=Tryz.underlying4
 a4:=Tryz.isAgg4
 z4:=Tryz.sizeOf4
 v4:=Tryz.zeroValue4
 t5:=Tryz.underlying5
 a5:=Tryz.isAgg5
 z5:=Tryz.sizeOf5
 v5:=Tryz.zeroValue5
 t9:=Tryz.underlying9
 a9:=Tryz.isAgg9
 z9:=Tryz.sizeOf9
 v9:=Tryz.zeroValue9
 t46:=Tryz.underlying179
 a46:=Tryz.isAgg179
 z46:=Tryz.sizeOf179
 v46:=Tryz.zeroValue179
 t51:=Tryz.underlying211
 a51:=Tryz.isAgg211
 z51:=Tryz.sizeOf211
 v51:=Tryz.zeroValue211
 t59:=Tryz.underlying257
 a59:=Tryz.isAgg257
 z59:=Tryz.sizeOf257
 v59:=Tryz.zeroValue257
 t146:=Tryz.underlying290
 a146:=Tryz.isAgg290
 z146:=Tryz.sizeOf290
 v146:=Tryz.zeroValue290
 g1:=by kernel_rfl }
open Go.RowKit Go.Lib in
theorem Tryz.strings_Cut (s sep:ByteArray) (m:Int) (w:World) (hs:s.size < 4294967281) (hm:w.cell? ⟨0,0,none⟩=some (.int .i64 m)):
 Calls Tryz.prog 250 #[.string s,.string sep] w fun e w'=>e=.returned (.tuple #[.string ⟨(Lib.cut s.data.toList sep.data.toList).1.toArray⟩,.string ⟨(Lib.cut s.data.toList sep.data.toList).2.1.toArray⟩,.bool (Lib.cut s.data.toList sep.data.toList).2.2])∧∃ n,w'=w.drewN n:=Any.strings_Cut Tryz.lays145 s sep m w hs hm
def Tryz.lays99_ren:Go.Shelf.Ren:=⟨fun | 99=>249 | 206=>264 | n=>n,fun | 9=>9 | 4=>4 | 3=>3 | n=>n,fun | n=>n⟩
theorem Tryz.lays99:Go.Proofs.Lays.n99 Tryz.prog Tryz.lays99_ren:={
 mixed:=by kernel_rfl
 f99:=Tryz.func249.trans (congrArg some (by kernel_rfl))
 f206:=Tryz.func264.trans (congrArg some (by kernel_rfl))
 t3:=Tryz.underlying3
 a3:=Tryz.isAgg3
 z3:=Tryz.sizeOf3
 v3:=Tryz.zeroValue3
 t4:=Tryz.underlying4
 a4:=Tryz.isAgg4
 z4:=Tryz.sizeOf4
 v4:=Tryz.zeroValue4
 t9:=Tryz.underlying9
 a9:=Tryz.isAgg9
 z9:=Tryz.sizeOf9
 v9:=Tryz.zeroValue9 }
open Go.RowKit Go.Lib in
theorem Tryz.strings_HasPrefix (s p:ByteArray) (w:World):
 Calls Tryz.prog 249 #[.string s,.string p] w fun e w'=>e=.returned (.bool (Lib.hasPrefix s.data.toList p.data.toList))∧w'=w:=Any.strings_HasPrefix Tryz.lays99 s p w
end Go.Proofs

/- S2 -/
namespace Go.Proofs.YteclpnfckjfibaaGreatDoor
open Go.RowKit
abbrev bs (l:List UInt8):ByteArray:=⟨l.toArray⟩
theorem trimL (s A:ByteArray) (H:Hid (A=bs (Lib.trimLeftB s.data.toList 48))) (w:World):
 Calls Tryz.prog 252 #[.string s,.string ⟨#[48]⟩] w fun e w'=>e=.returned (.string A)∧w=w':=
 (Tryz.strings_TrimLeft_one s 48 (by decide) w).mono fun _ _ ⟨h,k⟩=>⟨by rw [h,H.out],k.symm⟩
theorem trimR (s A:ByteArray) (H:Hid (A=bs (Lib.trimRightB s.data.toList 48))) (w:World) (hs:s.size≤maxLen):
 Calls Tryz.prog 253 #[.string s,.string ⟨#[48]⟩] w fun e w'=>e=.returned (.string A)∧w=w':=
 (Tryz.strings_TrimRight_one s 48 (by decide) w (by unfold maxLen at hs;omega)).mono fun _ _ ⟨h,k⟩=>⟨by rw [h,H.out],k.symm⟩
theorem zqy (s A:ByteArray) (H:Hid (A=bs (orN s.data.toList))) (w:World):
 Calls Tryz.prog 254 #[.string s] w fun e w'=>e=.returned (.string A)∧w=w':=
 (zvb s w).mono fun _ _ ⟨h,k⟩=>⟨by rw [h,H.out],k.symm⟩
theorem zmu (l:List UInt8) (n:Nat) (h:l.length≤n) (hn:1≤n):(bs (orN l)).size≤n:=by
 unfold orN bs
 split <;> simp [ByteArray.size] <;> omega
theorem zd4 {a b:ByteArray} (h:a.data.toList=b.data.toList):a=b:=by
 obtain ⟨a⟩:=a;obtain ⟨b⟩:=b
 simp only [ByteArray.mk.injEq]
 exact Array.toList_inj.1 h
set_option maxHeartbeats 800000 in
theorem z0x (neg:Bool) (x y A B:ByteArray) (w:World) (_hx:x.size≤maxLen) (hy:y.size≤maxLen) (HA:Hid (A=bs (Lib.trimLeftB x.data.toList 48))) (HB:Hid (B=bs (Lib.trimRightB y.data.toList 48)))
 (hA:A.size≤40) (hB:B.size≤20) (hn:neg=false):
 Calls Tryz.prog 222 #[.bool neg,.string x,.string y] w fun e w'=>e=.returned (.tuple #[.string (bs ( orN A.data.toList++46::orN B.data.toList)),.int .i64 0])∧w=w':=by
 subst hn
 obtain ⟨C,hC⟩:∃ C,C=bs (orN A.data.toList):=⟨_,rfl⟩
 obtain ⟨D,hD⟩:∃ D,D=bs (orN B.data.toList):=⟨_,rfl⟩
 have hCs:C.size≤40:=by rw [hC];exact zmu _ _ (by simpa using hA) (by omega)
 have hDs:D.size≤20:=by rw [hD];exact zmu _ _ (by simpa using hB) (by omega)
 have HC:=Lib.hid hC
 have HD:=Lib.hid hD
 clear hC hD
 go_enter Tryz.func222,Tryz.ntmps222
 go_wp2_with (first
  |(go_at_call 252;(with_reducible refine (trimL x A HA _).mono ?_);rintro e w' ⟨rfl,rfl⟩)
  |(go_at_call 253;(with_reducible refine (trimR y B HB _ hy).mono ?_);rintro e w' ⟨rfl,rfl⟩)
  |(go_at_call 254;(with_reducible refine (zqy A C HC _).mono ?_);rintro e w' ⟨rfl,rfl⟩)
  |(go_at_call 254;(with_reducible refine (zqy B D HD _).mono ?_);rintro e w' ⟨rfl,rfl⟩))
 go_ret2
 refine ⟨?_,rfl⟩
 have e:(({ data:=#[] }:ByteArray)++C++{ data:=#[46] }++D:ByteArray)=bs ( orN A.data.toList++46::orN B.data.toList):=by
  apply zd4
  rw [HC.out,HD.out]
  simp
 exact congrArg (fun z=>Ending.returned (.tuple #[.string z,.int .i64 0])) e
set_option maxHeartbeats 800000 in
theorem z0y (neg:Bool) (x y A B:ByteArray) (w:World) (_hx:x.size≤maxLen) (hy:y.size≤maxLen) (HA:Hid (A=bs (Lib.trimLeftB x.data.toList 48))) (HB:Hid (B=bs (Lib.trimRightB y.data.toList 48)))
 (hA:A.size≤40) (hB:B.size≤20) (hn:neg=true) (hne:(A++B).toList.isEmpty=false):
 Calls Tryz.prog 222 #[.bool neg,.string x,.string y] w fun e w'=>e=.returned (.tuple #[.string (bs (45::orN A.data.toList++46::orN B.data.toList)),.int .i64 0])∧w=w':=by
 subst hn
 obtain ⟨C,hC⟩:∃ C,C=bs (orN A.data.toList):=⟨_,rfl⟩
 obtain ⟨D,hD⟩:∃ D,D=bs (orN B.data.toList):=⟨_,rfl⟩
 have hCs:C.size≤40:=by rw [hC];exact zmu _ _ (by simpa using hA) (by omega)
 have hDs:D.size≤20:=by rw [hD];exact zmu _ _ (by simpa using hB) (by omega)
 have HC:=Lib.hid hC
 have HD:=Lib.hid hD
 clear hC hD
 go_enter Tryz.func222,Tryz.ntmps222
 go_wp2_with (first
  |(go_at_call 252;(with_reducible refine (trimL x A HA _).mono ?_);rintro e w' ⟨rfl,rfl⟩)
  |(go_at_call 253;(with_reducible refine (trimR y B HB _ hy).mono ?_);rintro e w' ⟨rfl,rfl⟩)
  |(go_at_call 254;(with_reducible refine (zqy A C HC _).mono ?_);rintro e w' ⟨rfl,rfl⟩)
  |(go_at_call 254;(with_reducible refine (zqy B D HD _).mono ?_);rintro e w' ⟨rfl,rfl⟩))
 go_ret2
 refine ⟨?_,rfl⟩
 have e:(({ data:=#[45] }:ByteArray)++C++{ data:=#[46] }++D:ByteArray)=bs (45::orN A.data.toList++46::orN B.data.toList):=by
  apply zd4
  rw [HC.out,HD.out]
  simp
 exact congrArg (fun z=>Ending.returned (.tuple #[.string z,.int .i64 0])) e
set_option maxHeartbeats 800000 in
theorem z0z (x y:ByteArray) (w:World) (_hx:x.size≤maxLen) (hy:y.size≤maxLen) (HA:Hid (ByteArray.mk #[]=bs (Lib.trimLeftB x.data.toList 48))) (HB:Hid (ByteArray.mk #[]=bs (Lib.trimRightB y.data.toList 48))):
 Calls Tryz.prog 222 #[.bool true,.string x,.string y] w fun e w'=>e=.returned (.tuple #[.string (bs [48,46,48]),.int .i64 0])∧w=w':=by
 have HC:Hid (bs [48]=bs (orN (ByteArray.mk #[]).data.toList)):=Lib.hid rfl
 have hne:(({ data:=#[] }:ByteArray)++{ data:=#[] }).toList.isEmpty=true:=by rw [ByteArray.toList_eq];rfl
 go_enter Tryz.func222,Tryz.ntmps222
 go_wp2_with (first
  |(go_at_call 252;(with_reducible refine (trimL x _ HA _).mono ?_);rintro e w' ⟨rfl,rfl⟩)
  |(go_at_call 253;(with_reducible refine (trimR y _ HB _ hy).mono ?_);rintro e w' ⟨rfl,rfl⟩)
  |(go_at_call 254;(with_reducible refine (zqy _ _ HC _).mono ?_);rintro e w' ⟨rfl,rfl⟩))
 go_ret2
 exact ⟨rfl,rfl⟩
set_option maxHeartbeats 800000 in
theorem z00 (neg:Bool) (x y A B:ByteArray) (w:World) (_hx:x.size≤maxLen) (hy:y.size≤maxLen) (HA:Hid (A=bs (Lib.trimLeftB x.data.toList 48))) (HB:Hid (B=bs (Lib.trimRightB y.data.toList 48)))
 (h:40 < A.size∨20 < B.size):
 Calls Tryz.prog 222 #[.bool neg,.string x,.string y] w fun e w'=>e=.returned (.tuple #[.string (bs []),.int .i64 2])∧w=w':=by
 by_cases h1:(40:Int) < A.size
 ·clear h
  go_enter Tryz.func222,Tryz.ntmps222
  go_wp2_with (first
   |(go_at_call 252;(with_reducible refine (trimL x A HA _).mono ?_);rintro e w' ⟨rfl,rfl⟩)
   |(go_at_call 253;(with_reducible refine (trimR y B HB _ hy).mono ?_);rintro e w' ⟨rfl,rfl⟩))
  go_ret2
  exact ⟨rfl,rfl⟩
 ·have h2:(20:Int) < B.size:=by omega
  clear h
  go_enter Tryz.func222,Tryz.ntmps222
  go_wp2_with (first
   |(go_at_call 252;(with_reducible refine (trimL x A HA _).mono ?_);rintro e w' ⟨rfl,rfl⟩)
   |(go_at_call 253;(with_reducible refine (trimR y B HB _ hy).mono ?_);rintro e w' ⟨rfl,rfl⟩))
  go_ret2
  exact ⟨rfl,rfl⟩
def said (r:Option (List UInt8)):Value:=match r with
 | some t=>.tuple #[.string (bs t),.int .i64 0]
 | none=>.tuple #[.string (bs []),.int .i64 2]
theorem writeAt (neg:Bool) (x y:ByteArray) (w:World) (hx:x.size≤maxLen) (hy:y.size≤maxLen):
 Calls Tryz.prog 222 #[.bool neg,.string x,.string y] w fun e w'=>e=.returned (said (wr neg x.data.toList y.data.toList))∧w=w':=by
 obtain ⟨A,hA⟩:∃ A,A=bs (Lib.trimLeftB x.data.toList 48):=⟨_,rfl⟩
 obtain ⟨B,hB⟩:∃ B,B=bs (Lib.trimRightB y.data.toList 48):=⟨_,rfl⟩
 have lA:(Lib.trimLeftB x.data.toList 48).length=A.size:=by rw [hA];simp [ByteArray.size]
 have lB:(Lib.trimRightB y.data.toList 48).length=B.size:=by rw [hB];simp [ByteArray.size]
 have tA:Lib.trimLeftB x.data.toList 48=A.data.toList:=by rw [hA]
 have tB:Lib.trimRightB y.data.toList 48=B.data.toList:=by rw [hB]
 have HA:=Lib.hid hA
 have HB:=Lib.hid hB
 unfold wr
 simp only [lA,lB]
 by_cases h:40 < A.size∨20 < B.size
 ·rw [if_pos h]
  exact z00 neg x y A B w hx hy HA HB h
 ·rw [if_neg h,tA,tB]
  cases neg
  ·exact z0x false x y A B w hx hy HA HB (by omega) (by omega) rfl
  ·by_cases hn:(A.data.toList++B.data.toList).isEmpty=true
   ·have e1:A.data.toList=[]:=by simp at hn;simpa using hn.1
    have e2:B.data.toList=[]:=by simp at hn;simpa using hn.2
    have f1:A=ByteArray.mk #[]:=zd4 (by rw [e1])
    have f2:B=ByteArray.mk #[]:=zd4 (by rw [e2])
    subst f1 f2
    exact z0z x y w hx hy HA HB
   ·have hn':(A.data.toList++B.data.toList).isEmpty=false:=by simpa using hn
    rw [hn']
    exact z0y true x y A B w hx hy HA HB (by omega) (by omega) rfl (by rw [ByteArray.toList_eq];simpa using hn')
end Go.Proofs.YteclpnfckjfibaaGreatDoor
