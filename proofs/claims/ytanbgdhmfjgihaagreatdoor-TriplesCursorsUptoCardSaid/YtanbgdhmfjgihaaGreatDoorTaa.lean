/- Texts of one kind, one behind the other: each says ahead of itself what it shows. -/
import Derived.KernelRfl
import Derived.Test.YtanbgdhmfjgihaaGreatDoorProg
import Derived.WalkKit
import Derived.WalkSpells
import Derived.Outline
import Derived.LoopTactic
import Derived.Lib.Hide
import Derived.Below
import Derived.Sort.Grow
import Derived.Deep.QuietTactic
import Derived.BigQuiet
import Derived.Laws.Rows
import Derived.Laws.Tables
import Derived.Deep.MidRow
import Derived.OrdersHeld
import Derived.Deep.RegionHeld
import Derived.Deep.Cut
import Derived.Deep.CutBlock
import Derived.Deep.LoopGhost
import Derived.OwnWalk
import Derived.Maps.AppendAt
import Derived.Shelf.SlSortCmp.KitK
import Derived.Shelf.SlSorted.Search
/- M -/
namespace Go.Proofs.YtanbgdhmfjgihaaGreatDoor
def BASE:Nat:=1000000000
def vN:Nat→(Nat→Nat)→Nat
 | 0,_=>0
 | n+1,f=>vN n f+f n*BASE ^ n
def wval (f:Nat→Nat):Nat:=vN 16 f
def zd7 (f:Nat→Nat):Prop:=∀ j,j < 16→f j < BASE
def upd (f:Nat→Nat) (k v:Nat):Nat→Nat:=fun j=>if j=k then v else f j
theorem zmn (f:Nat→Nat) (k v:Nat):upd f k v k=v:=by simp [upd]
theorem zd8 (f:Nat→Nat) {k j:Nat} (v:Nat) (h:j≠k):upd f k v j=f j:=by simp [upd,h]
theorem zd7.upd {f:Nat→Nat} (h:zd7 f) {k v:Nat} (hv:v < BASE):zd7 (upd f k v):=by
 intro j hj
 by_cases e:j=k
 ·subst e;rw [zmn];exact hv
 ·rw [zd8 _ _ e];exact h j hj
theorem zqq (f g:Nat→Nat) (n:Nat) (h:∀ j,j < n→f j=g j):vN n f=vN n g:=by
 induction n with
 | zero=>rfl
 | succ n ih=>simp only [vN];rw [ih (fun j hj=>h j (by omega)),h n (by omega)]
theorem vN_upd (f:Nat→Nat) (k v n:Nat) (h:n≤k):vN n (upd f k v)=vN n f:=
 zqq _ _ _ fun j hj=>zd8 _ _ (by omega)
theorem vN_lt (f:Nat→Nat) (h:zd7 f) (n:Nat) (hn:n≤16):vN n f < BASE ^ n:=by
 induction n with
 | zero=>simp [vN]
 | succ n ih=>
   have hj:=h n (by omega)
   have ih:=ih (by omega)
   have:f n*BASE ^ n+BASE ^ n≤BASE ^ (n+1):=by
    have:(f n+1)*BASE ^ n≤BASE*BASE ^ n:=Nat.mul_le_mul_right _ hj
    rw [Nat.pow_succ,Nat.mul_comm (BASE ^ n)]
    rw [Nat.add_mul,Nat.one_mul] at this
    exact this
   simp only [vN];omega
theorem zpi (f g:Nat→Nat) (hx:zd7 f) (k:Nat) (hk:k≤16) (h:f k < g k):vN (k+1) f < vN (k+1) g:=by
 have h1:=vN_lt f hx k hk
 have:f k*BASE ^ k+BASE ^ k≤g k*BASE ^ k:=by
  have:(f k+1)*BASE ^ k≤g k*BASE ^ k:=Nat.mul_le_mul_right _ h
  rw [Nat.add_mul,Nat.one_mul] at this
  exact this
 simp only [vN];omega
theorem zqr (f g:Nat→Nat) (k n:Nat) (h:k≤n) (he:∀ j,k≤j→j < n→f j=g j):
 (vN n f:Int) - vN n g=(vN k f:Int) - vN k g:=by
 induction n with
 | zero=>obtain rfl:k=0:=by omega
         rfl
 | succ n ih=>
   by_cases hk:k=n+1
   ·subst hk;rfl
   ·have:=ih (by omega) (fun j a b=>he j a (by omega))
    have e:=he n (by omega) (by omega)
    simp only [vN,e];omega
theorem zll (f g:Nat→Nat) (hx:zd7 f) (k:Nat) (hk:k < 16) (he:∀ j,k < j→j < 16→f j=g j)
 (h:f k < g k):wval f < wval g:=by
 have a:=zqr f g (k+1) 16 (by omega) (fun j p q=>he j (by omega) q)
 have b:=zpi f g hx k (by omega) h
 unfold wval;omega
theorem zr0 (f g:Nat→Nat) (he:∀ j,j < 16→f j=g j):wval f=wval g:=zqq _ _ _ he
def cmpI (a b:Nat):Int:=if a < b then -1 else if b < a then 1 else 0
theorem cmpI_lt {a b:Nat} (h:a < b):cmpI a b=-1:=by simp [cmpI,h]
theorem cmpI_gt {a b:Nat} (h:b < a):cmpI a b=1:=by simp [cmpI,h];omega
theorem cmpI_eq {a b:Nat} (h:a=b):cmpI a b=0:=by simp [cmpI,h]
structure AddTo (f g h:Nat→Nat) (c k:Nat):Prop where
 sum:vN k h+c*BASE ^ k=vN k f+vN k g
 rest:∀ j,k≤j→h j=f j
 words:zd7 h
 one:c≤1
theorem AddTo.zero {f g:Nat→Nat} (hf:zd7 f):AddTo f g f 0 0:=⟨by simp [vN],fun _ _=>rfl,hf,by omega⟩
structure zqs (f g h:Nat→Nat) (c k:Nat):Prop where
 sum:vN k h+vN k g=vN k f+c*BASE ^ k
 rest:∀ j,k≤j→h j=f j
 words:zd7 h
 one:c≤1
theorem zqs.zero {f g:Nat→Nat} (hf:zd7 f):zqs f g f 0 0:=⟨by simp [vN],fun _ _=>rfl,hf,by omega⟩
structure zxs (f:Nat→Nat) (d:Nat) (h:Nat→Nat) (c k:Nat):Prop where
 sum:vN k h+c*BASE ^ k=vN k f*10+d
 rest:∀ j,k≤j→h j=f j
 words:zd7 h
 one:c≤9
theorem zxs.zero {f:Nat→Nat} (hf:zd7 f) {d:Nat} (hd:d≤9):zxs f d f d 0:=⟨by simp [vN],fun _ _=>rfl,hf,by omega⟩
end Go.Proofs.YtanbgdhmfjgihaaGreatDoor

/- A0 -/
namespace Go.Proofs.YtanbgdhmfjgihaaGreatDoor
open Go.RowKit
structure zbz (c:Array Value) (n:Bool) (f:Nat→Nat):Prop where
 neg:c[0]?=some (.bool n)
 word:∀ j,j < 16→c[1+j]?=some (.int .u32 (f j))
 size:c.size=17
 lt:zd7 f
structure Only (b:Nat) (w w':World):Prop where
 os:w'.os=w.os
 tape:w'.tape=w.tape
 output:w'.output=w.output
 size:w.heap.size≤w'.heap.size
 block:∀ k,k < w.heap.size→k≠b→w'.heap[k]?=w.heap[k]?
 drawn:w.drawn≤w'.drawn
theorem Only.refl (b:Nat) (w:World):Only b w w:=⟨rfl,rfl,rfl,Nat.le_refl _,fun _ _ _=>rfl,Nat.le_refl _⟩
theorem Only.trans {b:Nat} {x y z:World} (h:Only b x y) (k:Only b y z):Only b x z:=
 ⟨k.os.trans h.os,k.tape.trans h.tape,k.output.trans h.output,Nat.le_trans h.size k.size,fun i hi e=>(k.block i (Nat.lt_of_lt_of_le hi h.size) e).trans (h.block i hi e),Nat.le_trans h.drawn k.drawn⟩
theorem Only.drewN {b:Nat} {x y:World} (h:Only b x y) (n:Nat):Only b x (y.drewN n):=⟨h.os,h.tape,h.output,h.size,h.block,Nat.le_trans h.drawn (Nat.le_add_right _ _)⟩
theorem Only.drew {b:Nat} {x y:World} (h:Only b x y):Only b x y.drew:=⟨h.os,h.tape,h.output,h.size,h.block,Nat.le_trans h.drawn (Nat.le_add_right _ 1)⟩
theorem Only.setCell {b:Nat} {x y:World} (h:Only b x y) (o:Nat) (s:Option Nat) (v:Value):Only b x (y.setCell ⟨b,o,s⟩ v):=
 h.trans ⟨rfl,rfl,rfl,by simp [World.setCell],fun _ _ e=>Below.heap_setCell _ _ _ _ e,Nat.le_refl _⟩
theorem zag {B b:Nat} {x y z:World} (h:Below B x y) (k:Only b y z) (hb:B≤b) (hs:B≤y.heap.size):Below B x z:=
 h.trans ⟨k.os,k.tape,k.output,k.size,fun i hi=>k.block i (by omega) (by omega)⟩
theorem zim {B:Nat} {a w:World} (h:Below B a w) (n:Nat):Below B a (w.drewN n):=⟨h.os,h.tape,h.output,h.size,h.block⟩
theorem zak {B:Nat} {x y z:World} (h:Below B x y) (k:Below y.heap.size y z) (hs:B≤y.heap.size):Below B x z:=h.trans (k.mono hs)
structure Low (B:Nat) (w w':World):Prop where
 is:Below B w w'
 drawn:w.drawn≤w'.drawn
instance {B:Nat} {w w':World}:Coe (Low B w w') (Below B w w'):=⟨Low.is⟩
section
variable {B B':Nat} {a b c w w':World}
theorem Low.refl (B:Nat) (w:World):Low B w w:=⟨Below.refl _ _,Nat.le_refl _⟩
theorem Low.trans (h:Low B a b) (k:Low B b c):Low B a c:=⟨h.is.trans k.is,Nat.le_trans h.drawn k.drawn⟩
theorem Low.mono (h:Low B w w') (hB:B'≤B):Low B' w w':=⟨h.is.mono hB,h.drawn⟩
theorem Low.drew (h:Low B a w):Low B a w.drew:=⟨h.is.drew,Nat.le_trans h.drawn (Nat.le_add_right _ 1)⟩
theorem Low.alloc (h:Low B a w) (hB:B≤w.heap.size) (o:Obj):Low B a (w.alloc o):=⟨h.is.alloc hB o,h.drawn⟩
theorem Low.size (h:Low B w w'):w.heap.size≤w'.heap.size:=h.is.size
theorem Low.os (h:Low B w w'):w'.os=w.os:=h.is.os
theorem Low.tape (h:Low B w w'):w'.tape=w.tape:=h.is.tape
theorem Low.output (h:Low B w w'):w'.output=w.output:=h.is.output
theorem Low.block (h:Low B w w'):∀ k,k < B→w'.heap[k]?=w.heap[k]?:=h.is.block
theorem Low.cell (h:Low B w w') {p:Addr} (hp:p.block < B):w'.cell? p=w.cell? p:=h.is.cell hp
theorem Low.frozen (h:Low B w w') {p:Addr} (hp:p.block < B):w'.frozen? p=w.frozen? p:=h.is.frozen hp
theorem Only.of_low {b:Nat} {x y:World} (h:Low x.heap.size x y):Only b x y:=⟨h.os,h.tape,h.output,h.size,fun k hk _=>h.block k hk,h.drawn⟩
theorem zbn {B b:Nat} {x y z:World} (h:Low B x y) (k:Only b y z) (hb:B≤b) (hs:B≤y.heap.size):Low B x z:=
 ⟨h.is.trans ⟨k.os,k.tape,k.output,k.size,fun i hi=>k.block i (by omega) (by omega)⟩,Nat.le_trans h.drawn k.drawn⟩
theorem zbx (h:Low B a w) (n:Nat):Low B a (w.drewN n):=⟨⟨h.os,h.tape,h.output,h.size,h.block⟩,Nat.le_trans h.drawn (Nat.le_add_right _ _)⟩
theorem zad {B:Nat} {x y z:World} (h:Low B x y) (k:Low y.heap.size y z) (hs:B≤y.heap.size):Low B x z:=h.trans (k.mono hs)
theorem low1 (w:World) (o:Obj):Low w.heap.size w (w.alloc o):=(Low.refl _ _).alloc (Nat.le_refl _) _
theorem low2 (w:World) (o p:Obj):Low w.heap.size w ((w.alloc o).alloc p):=(low1 w o).alloc (by simp) _
theorem low3 (w:World) (a b c:Obj):Low w.heap.size w (((w.alloc a).alloc b).alloc c):=(low2 w a b).alloc (by simp;omega) _
theorem za0 (w:World) (o:Obj):Below w.heap.size w (w.alloc o):=(low1 w o).is
theorem zfl (w:World) (o p:Obj):Below w.heap.size w ((w.alloc o).alloc p):=(low2 w o p).is
theorem zfm {B e o:Nat} {y z:World} (h:Below B y z) (s:Option Nat) (v:Value) (hb:B≤e) (hs:B≤z.heap.size):Below B y (z.setCell ⟨e,o,s⟩ v):=
 zag h ((Only.refl e z).setCell o s v) hb hs
theorem zbo {B e o:Nat} {y z:World} (h:Low B y z) (s:Option Nat) (v:Value) (hb:B≤e) (hs:B≤z.heap.size):Low B y (z.setCell ⟨e,o,s⟩ v):=
 zbn h ((Only.refl e z).setCell o s v) hb hs
theorem Low.grows (h:Low w.heap.size w w'):∃ q os,w'=Go.Sort.grow (w.drewN q) os:=by
 refine ⟨w'.drawn - w.drawn,w'.heap.extract w.heap.size w'.heap.size,?_⟩
 have hd:=h.drawn
 have hh:w'.heap=w.heap++w'.heap.extract w.heap.size w'.heap.size:=by
  apply Array.ext_getElem?
  intro i
  by_cases hi:i < w.heap.size
  ·rw [h.block i hi,Array.getElem?_append_left hi]
  ·have hs:=h.size
   rw [Array.getElem?_append_right (by omega),Array.getElem?_extract]
   split
   ·congr 1;omega
   ·rw [Array.getElem?_eq_none_iff];omega
 cases w' with
 | mk hp tp dr o out=>
   cases w with
   | mk hp0 tp0 dr0 o0 out0=>
     have e1:=h.os;have e2:=h.tape;have e3:=h.output
     simp only at e1 e2 e3 hd hh ⊢
     subst e1;subst e2;subst e3
     unfold Go.Sort.grow World.drewN
     simp only [World.mk.injEq]
     exact ⟨hh,trivial,by omega,trivial,trivial⟩
end
theorem zab {w:World} {b:Nat} {c:Array Value} {t:TypeId} (h:w.heap[b]?=some (.cells c t)) (o:Nat) {v:Value} (hv:c[o]?=some v):
 w.cell? ⟨b,o,none⟩=some v:=by
 simp [World.cell?,h,hv]
theorem za9 {w:World} {b:Nat} {c:Array Value} {t:TypeId} (h:w.heap[b]?=some (.cells c t)) (o:Nat):w.frozen? ⟨b,o,none⟩=false:=by
 simp [World.frozen?,h]
theorem zah (w:World) (o:Obj) {n:Nat} (h:w.heap.size=n):(w.alloc o).heap[n]?=some o:=by
 show (w.heap.push o)[n]?=_
 simp [← h]
theorem zaw {w:World} (o:Obj) {n:Nat} {x:Obj} (h:w.heap[n]?=some x):(w.alloc o).heap[n]?=some x:=by
 rw [Below.heap_alloc _ _ _ (by have:=Array.getElem?_eq_some_iff.1 h;obtain ⟨a,_⟩:=this;exact a)];exact h
theorem zaz {w:World} {b:Nat} {c:Array Value} {t:TypeId} (h:w.heap[b]?=some (.cells c t)) (o:Nat) (v:Value):
 (w.setCell ⟨b,o,none⟩ v).heap[b]?=some (.cells (c.setIfInBounds o v) t):=by
 simp [World.setCell,Array.getElem?_modify,h]
theorem zac {w:World} {b:Nat} {x:Obj} (h:w.heap[b]?=some x):b < w.heap.size:=by
 obtain ⟨a,_⟩:=Array.getElem?_eq_some_iff.1 h;exact a
theorem zbz.set {c:Array Value} {n:Bool} {f:Nat→Nat} (h:zbz c n f) {k v:Nat} (hk:k < 16) (hv:v < BASE):
 zbz (c.setIfInBounds (1+k) (.int .u32 v)) n (upd f k v):=by
 refine ⟨?_,?_,by simp [h.size],h.lt.upd hv⟩
 ·rw [Array.getElem?_setIfInBounds_ne (by omega)];exact h.neg
 ·intro j hj
  by_cases e:j=k
  ·subst e;rw [zmn,Array.getElem?_setIfInBounds_self_of_lt (by rw [h.size];omega)]
  ·rw [zd8 _ _ e,Array.getElem?_setIfInBounds_ne (by omega)];exact h.word j hj
theorem zin:(Tryz.prog.info? 229).map (·.size)=some 17:=by kernel_rfl
theorem zbz.one {c:Array Value} {n:Bool} {f:Nat→Nat} (h:zbz c n f):c.all (·.oneCell')=true:=by
 rw [Array.all_eq_true]
 intro i hi
 rw [h.size] at hi
 cases i with
 | zero=>have:=h.neg;rw [Array.getElem?_eq_getElem (by rw [h.size];omega)] at this;rw [Option.some.inj this];rfl
 | succ i=>have:=h.word i (by omega);rw [Nat.add_comm] at this;rw [Array.getElem?_eq_getElem (by rw [h.size];omega)] at this;rw [Option.some.inj this];rfl
theorem za6 {w:World} {g:Nat} {c c':Array Value} {t:TypeId} (h:w.heap[g]?=some (.cells c t)):(w.setRow g c').heap[g]?=some (.cells c' t):=by
 simp [World.setRow,Array.getElem?_modify,h]
theorem Only.setRow {b:Nat} (w:World) (c:Array Value):Only b w (w.setRow b c):=
 ⟨rfl,rfl,rfl,by simp [World.setRow],fun k _ e=>by simp only [World.setRow,Array.getElem?_modify];rw [if_neg (by omega)],Nat.le_refl _⟩
theorem zb0 {ops:Array Oper} {rest:List Oper} {o:Oper} {a:Act} {w:World} {Q:Exit→Act→World→Prop} (g:Nat) (c:Array Value) (hg:w.heap[g]?=some (.cells c 229)) (hs:c.size=17)
 (x:Operand) (hgd:o.guard=none) (ho:o.op=.load 229 x) (hx:a.eval x=.pointer (some ⟨g,0,none⟩))
 (h:wpList Tryz.prog ops Q rest (a.put o.dst (.agg c)) w):wpList Tryz.prog ops Q (o::rest) a w:=
 wpList_load_row hgd 229 x ho g hx 229 c (0,0) _ hg Tryz.underlying229 rfl (by rw [hs];exact zin) h
theorem zh7 {ops:Array Oper} {rest:List Oper} {o:Oper} {a:Act} {w:World} {Q:Exit→Act→World→Prop} (g:Nat) (c c':Array Value) (hg:w.heap[g]?=some (.cells c 229)) (hs:c.size=17) (hs':c'.size=17) (h1:c'.all (·.oneCell')=true)
 (x y:Operand) (hgd:o.guard=none) (ho:o.op=.store 229 x y) (hx:a.eval x=.pointer (some ⟨g,0,none⟩)) (hy:a.eval y=.agg c')
 (h:∀ w',Only g w w'→w'.heap[g]?=some (.cells c' 229)→wpList Tryz.prog ops Q rest (a.put o.dst undef) w'):wpList Tryz.prog ops Q (o::rest) a w:=
 wpList_plain hgd fun _ hK=>by
  unfold Oper.wp execOp
  simp only [ho,hx,hy,Instr.storeAt,Instr.sureAddr,Sem.run_bind,Sem.run_pure,Result.andThen_ok,run_storeVar_row (P:=Tryz.prog) w g 229 229 c c' hg (by rw [hs'];exact zin) (by rw [hs,hs']) h1]
  exact hK _ _ (h _ (Only.setRow w c') (za6 hg))
def Lies (w:World) (g:Nat) (c:Array Value) (n:Bool) (f:Nat→Nat):Prop:=w.heap[g]?=some (.cells c 229)∧zbz c n f
theorem Lies.heap {w:World} {g:Nat} {c:Array Value} {n:Bool} {f:Nat→Nat} (h:Lies w g c n f):w.heap[g]?=some (.cells c 229):=h.1
theorem Lies.num {w:World} {g:Nat} {c:Array Value} {n:Bool} {f:Nat→Nat} (h:Lies w g c n f):zbz c n f:=h.2
theorem lies_mk {w:World} {g:Nat} {c:Array Value} {n:Bool} {f:Nat→Nat} (h:w.heap[g]?=some (.cells c 229)) (hn:zbz c n f):Lies w g c n f:=⟨h,hn⟩
theorem Lies.below {w w':World} {g:Nat} {c:Array Value} {n:Bool} {f:Nat→Nat} (h:Lies w g c n f) (k:Below w.heap.size w w'):Lies w' g c n f:=
 ⟨(k.block g (zac h.1)).trans h.1,h.2⟩
theorem Lies.only {w w':World} {g b:Nat} {c:Array Value} {n:Bool} {f:Nat→Nat} (h:Lies w g c n f) (k:Only b w w') (e:g≠b):Lies w' g c n f:=
 ⟨(k.block g (zac h.1) e).trans h.1,h.2⟩
theorem Lies.alloc {w:World} {g:Nat} {c:Array Value} {n:Bool} {f:Nat→Nat} (h:Lies w g c n f) (o:Obj):Lies (w.alloc o) g c n f:=⟨zaw _ h.1,h.2⟩
theorem Lies.lt {w:World} {g:Nat} {c:Array Value} {n:Bool} {f:Nat→Nat} (h:Lies w g c n f):g < w.heap.size:=zac h.1
theorem zd9 {ops:Array Oper} {rest:List Oper} {o:Oper} {a:Act} {w:World} {Q:Exit→Act→World→Prop} {c:Array Value} {n:Bool} {f:Nat→Nat} (x:Operand) (g:Nat) (hg:Lies w g c n f)
 (hgd:o.guard=none) (ho:o.op=.load 229 x) (hx:a.eval x=.pointer (some ⟨g,0,none⟩))
 (h:wpList Tryz.prog ops Q rest (a.put o.dst (.agg c)) w):wpList Tryz.prog ops Q (o::rest) a w:=
 zb0 g c hg.1 hg.2.size x hgd ho hx h
theorem zci {ops:Array Oper} {rest:List Oper} {o:Oper} {a:Act} {w:World} {Q:Exit→Act→World→Prop} {c c':Array Value} {n n':Bool} {f f':Nat→Nat} (x y:Operand) (g:Nat) (hg:Lies w g c n f) (hn:zbz c' n' f')
 (hgd:o.guard=none) (ho:o.op=.store 229 x y) (hx:a.eval x=.pointer (some ⟨g,0,none⟩)) (hy:a.eval y=.agg c')
 (h:∀ w',Only g w w'→Lies w' g c' n' f'→wpList Tryz.prog ops Q rest (a.put o.dst undef) w'):wpList Tryz.prog ops Q (o::rest) a w:=
 zh7 g c c' hg.1 hg.2.size hn.size hn.one x y hgd ho hx hy fun w' k hh=>h w' k ⟨hh,hn⟩
def zhz:Array Value:=#[.bool false,.int .u32 0,.int .u32 0,.int .u32 0,.int .u32 0,.int .u32 0,.int .u32 0,.int .u32 0,.int .u32 0,.int .u32 0,.int .u32 0,.int .u32 0,.int .u32 0,.int .u32 0,.int .u32 0,.int .u32 0,.int .u32 0]
theorem zlm:zbz zhz false (fun _=>0):=by
 refine ⟨rfl,fun j hj=>?_,rfl,fun j _=>by decide⟩
 match j,hj with
 | 0,_=>rfl
 | 1,_=>rfl
 | 2,_=>rfl
 | 3,_=>rfl
 | 4,_=>rfl
 | 5,_=>rfl
 | 6,_=>rfl
 | 7,_=>rfl
 | 8,_=>rfl
 | 9,_=>rfl
 | 10,_=>rfl
 | 11,_=>rfl
 | 12,_=>rfl
 | 13,_=>rfl
 | 14,_=>rfl
 | 15,_=>rfl
 | k+16,h=>exact absurd h (by omega)
theorem zea (w:World) {g:Nat} (e:w.heap.size=g):Lies (w.alloc (.cells #[.bool false,.int .u32 0,.int .u32 0,.int .u32 0,.int .u32 0,.int .u32 0,.int .u32 0,.int .u32 0,.int .u32 0,.int .u32 0,.int .u32 0,.int .u32 0,.int .u32 0,.int .u32 0,.int .u32 0,.int .u32 0,.int .u32 0] 229)) g zhz false (fun _=>0):=
 ⟨zah _ _ e,zlm⟩
theorem putS:(∀ (a:Act) (d:Tmp) (v:Value),a.put (some d) v={ a with tmps:=a.tmps.setIfInBounds d v })∧(∀ (a:Act) (v:Value),a.put none v=a)∧(∀ (l:List Value) (i:Nat) (v:Value),l.toArray.setIfInBounds i v=(l.set i v).toArray)∧(∀ (a v:Value) (l:List Value),(a::l).set 0 v=v::l)∧(∀ (a v:Value) (l:List Value) (n:Nat),(a::l).set (n+1) v=a::l.set n v)∧
 (∀ (l:List Oper) (i:Nat) (h:i < l.toArray.size),l.toArray[i]=l[i]'(by simpa using h))∧(∀ (a:Oper) (l:List Oper) (h:0 < (a::l).length),(a::l)[0]=a)∧(∀ (a:Oper) (l:List Oper) (i:Nat) (h:i+1 < (a::l).length),(a::l)[i+1]=l[i]'(by simpa using h)):=
 ⟨fun _ _ _=>rfl,fun _ _=>rfl,fun _ _ _=>List.setIfInBounds_toArray _ _ _,fun _ _ _=>rfl,fun _ _ _ _=>rfl,fun _ _ h=>List.getElem_toArray h,fun _ _ _=>rfl,fun _ _ _ _=>rfl⟩
section
variable {ops:Array Oper} {Q:Exit→Act→World→Prop} {md:Region.Mode} {S:World→Prop}
theorem tk {i:Nat} {oi:Oper} {v:Value} {fuel:Nat} {listed l':Array Bool} {a a':Act} {w:World} (hi:ops[i]?=some oi) (hy:YieldsIf Tryz.prog ops S oi v a) (hS:S w)
 (h:wpAnyH Tryz.prog md ops Q S fuel l' a' w) (hs:Region.noSelect ops=true:=by kernel_rfl) (hf:Region.free md ops listed i=true:=by kernel_rfl) (hr:(Region.ready md ops listed).contains i=true:=by kernel_rfl)
 (hQ:∀ c a w,Q (.panic c) (a.put oi.dst v) w→Q (.panic c) a w:=by exact fun _ _ _ h=>h) (ha:a.put oi.dst v=a':=by (try simp only [putS]);exact rfl) (hl:listed.setIfInBounds i true=l':=by (try simp only [putS]);exact rfl):wpAnyH Tryz.prog md ops Q S (fuel+1) listed a w:=by
 subst ha hl
 exact wpAnyH_take hi hs hf hr hQ hy hS h
theorem tg {i:Nat} {oi:Oper} (v:Value) {fuel:Nat} {listed l':Array Bool} {a a':Act} {w:World} (hi:ops[i]?=some oi) (hS:S w)
 (h:wpAnyH Tryz.prog md ops Q S fuel l' a' w) (hy:YieldsIf Tryz.prog ops S oi v a:=by exact Or.inl ⟨by rfl,fun W _=>by go_simp⟩) (hs:Region.noSelect ops=true:=by kernel_rfl) (hf:Region.free md ops listed i=true:=by kernel_rfl) (hr:(Region.ready md ops listed).contains i=true:=by kernel_rfl)
 (hQ:∀ c a w,Q (.panic c) (a.put oi.dst v) w→Q (.panic c) a w:=by exact fun _ _ _ h=>h) (ha:a.put oi.dst v=a':=by (try simp only [putS]);exact rfl) (hl:listed.setIfInBounds i true=l':=by (try simp only [putS]);exact rfl):wpAnyH Tryz.prog md ops Q S (fuel+1) listed a w:=by
 subst ha hl
 exact wpAnyH_take hi hs hf hr hQ hy hS h
theorem tn {i:Nat} {oi:Oper} {fuel:Nat} {listed l':Array Bool} {a a':Act} {w:World} (hi:ops[i]?=some oi) (hS:S w)
 (h:wpAnyH Tryz.prog md ops Q S fuel l' a' w) (hy:YieldsIf Tryz.prog ops S oi undef a:=by exact Or.inr ⟨by rfl,rfl⟩) (hs:Region.noSelect ops=true:=by kernel_rfl) (hf:Region.free md ops listed i=true:=by kernel_rfl) (hr:(Region.ready md ops listed).contains i=true:=by kernel_rfl)
 (hQ:∀ c a w,Q (.panic c) (a.put oi.dst undef) w→Q (.panic c) a w:=by exact fun _ _ _ h=>h) (ha:a.put oi.dst undef=a':=by (try simp only [putS]);exact rfl) (hl:listed.setIfInBounds i true=l':=by (try simp only [putS]);exact rfl):wpAnyH Tryz.prog md ops Q S (fuel+1) listed a w:=by
 subst ha hl
 exact wpAnyH_take hi hs hf hr hQ hy hS h
theorem tr (i:Nat) {oi:Oper} {fuel:Nat} {listed:Array Bool} {a:Act} {w:World} (ho:ops[i]?=some oi)
 (h:∀ K':Act→World→Prop,Shut (∀ a w,S w→(S w→wpAnyH Tryz.prog md ops Q S fuel (listed.setIfInBounds i true) a w)→K' a w)→if Region.wanted oi (yielded ops a.tmps)=true then Oper.wp Tryz.prog oi a w K' Q else K' (a.put oi.dst undef) w)
 (hr:Region.ready md ops listed=[i]:=by kernel_rfl):wpAnyH Tryz.prog md ops Q S (fuel+1) listed a w:=
 wpAnyH_ready hr (by simp) (AllReadyH.cons ho h AllReadyH.nil)
end
end Go.Proofs.YtanbgdhmfjgihaaGreatDoor

/- WA -/
namespace Go.Proofs.YtanbgdhmfjgihaaGreatDoor
open Go.RowKit
theorem zb9:(Tryz.prog.info? 90).map (·.size)=some 2:=by kernel_rfl
theorem zs9:(Tryz.prog.info? 78).map (·.size)=some 3:=by kernel_rfl
theorem zln:(Tryz.prog.info? 81).map (·.size)=some 3:=by kernel_rfl
structure CS where
 sp:Nat
 pl:Option Addr
 n:Nat
 cl:Nat
 l0:Nat
 l1:Nat
 l2:Nat
 a0:Nat
 e0:Nat
 a1:Nat
 e1:Nat
 a2:Nat
 e2:Nat
 d:Nat
def CS.cells (c:CS):Array Value:=#[.pointer (some ⟨c.sp,0,none⟩),.slice c.pl c.n c.cl,.int .i64 c.l0,.int .i64 c.l1,.int .i64 c.l2,.int .i64 c.a0,.int .i64 c.e0,.int .i64 c.a1,.int .i64 c.e1,.int .i64 c.a2,.int .i64 c.e2,.int .i64 c.d]
def Cur (w:World) (g:Nat) (c:CS):Prop:=w.heap[g]?=some (.cells c.cells 93)
section
variable {w w':World} {g e:Nat} {c:CS}
theorem Cur.below (h:Cur w g c) (b:Below w.heap.size w w'):Cur w' g c:=(b.block g (zac h)).trans h
theorem Cur.low (h:Cur w g c) (b:Low w.heap.size w w'):Cur w' g c:=h.below b.is
theorem Cur.only (h:Cur w g c) (b:Only e w w') (d:g≠e):Cur w' g c:=(b.block g (zac h) d).trans h
theorem Cur.lt (h:Cur w g c):g < w.heap.size:=zac h
theorem Cur.cell (h:Cur w g c) (i:Nat) (v:Value) (hv:c.cells[i]?=some v):w.cell? ⟨g,i,none⟩=some v:=zab h _ hv
end
theorem Cur.c11 {w:World} {g:Nat} {c:CS} (h:Cur w g c):w.cell? ⟨g,11,none⟩=some (.int .i64 c.d):=h.cell 11 _ rfl
theorem zqt {w:World} {g o:Nat} {u v:Value} (h0:w.cell? ⟨g,o,none⟩=some u) (h1:w.cell? ⟨g,o+1,none⟩=some v):w.rangeAt g o [u,v]:=by
 intro i x hx
 match i,hx with
 | 0,e=>obtain rfl:=Option.some.inj e;exact h0
 | 1,e=>obtain rfl:=Option.some.inj e;exact h1
 | i+2,e=>simp at e
def CS.pos (c:CS):Nat:=match c.d with | 1=>c.a0 | 2=>c.a1 | _=>c.a2
def CS.fin (c:CS):Nat:=match c.d with | 1=>c.e0 | 2=>c.e1 | _=>c.e2
def CS.lev (c:CS):Nat:=match c.d with | 1=>c.l0 | 2=>c.l1 | _=>c.l2
set_option maxHeartbeats 3200000 in
set_option maxRecDepth 20000 in
theorem here1 (g:Nat) (a e:Int) (w:World) (k11:w.cell? ⟨g,11,none⟩=some (.int .i64 1)) (r0:w.rangeAt g 5 [.int .i64 a,.int .i64 e]):
 Calls Tryz.prog 65 #[.pointer (some ⟨g,0,none⟩)] w fun e' w'=>e'=.returned (.agg #[.int .i64 a,.int .i64 e])∧Low w.heap.size w w':=by
 obtain ⟨W1,hW1⟩:∃ W1,W1=w.alloc (.cells #[.int .i64 0,.int .i64 0] 90):=⟨_,rfl⟩
 have B:W1.heap[w.heap.size]?=some (.cells #[.int .i64 0,.int .i64 0] 90):=by rw [hW1];exact zah _ _ rfl
 have b0:Low w.heap.size w W1:=by rw [hW1];exact low1 _ _
 have c11:W1.drew.cell? ⟨g,11,none⟩=some (.int .i64 1):=(b0.drew.cell (p:=⟨g,11,none⟩) (World.block_lt_of_cell? w _ k11)).trans k11
 have rr:W1.drew.rangeAt g 5 [.int .i64 a,.int .i64 e]:=fun i v hv=>(b0.drew.cell (p:=⟨g,5+i,none⟩) (World.block_lt_of_cell? w _ (r0 i v hv))).trans (r0 i v hv)
 have HW:=Lib.hid hW1
 have HK:=Lib.hid (And.intro k11 r0)
 clear hW1 k11 r0
 go_enter Tryz.func65,Tryz.ntmps65
 go_upto_region 1 with fail
 rw [← HW.out]
 refine wp_region_held_drew (S:=fun w'=>w'.cell? ⟨g,11,none⟩=some (.int .i64 1)∧w'.rangeAt g 5 [.int .i64 a,.int .i64 e]) (by kernel_rfl) ⟨c11,rr⟩ (fun hHeld=>?_)
 refine tg (i:=0) (.pointer (some ⟨g,0,none⟩)) rfl hHeld ?_
 refine tg (i:=1) (.pointer (some ⟨g,0,none⟩)) rfl hHeld ?_
 refine tg (i:=2) (.pointer (some ⟨g,0,none⟩)) rfl hHeld ?_
 refine tg (i:=3) (.pointer (some ⟨g,11,none⟩)) rfl hHeld ?_
 refine tk (i:=4) (v:=.int .i64 1) rfl (Or.inl ⟨by rfl,fun W h=>by have c0:=h.1;go_simp⟩) hHeld ?_
 refine tk (i:=5) (v:=.int .i64 0) rfl (Or.inl ⟨by rfl,fun W _=>by go_simp;try rfl⟩) hHeld ?_
 refine tg (i:=6) (.pointer (some ⟨g,0,none⟩)) rfl hHeld ?_
 refine tg (i:=7) (.pointer (some ⟨g,5,none⟩)) rfl hHeld ?_
 refine tg (i:=8) (.pointer (some ⟨g,5,none⟩)) rfl hHeld ?_
 refine tk (i:=9) rfl (yieldsIf_load_mid (by rfl) 90 (.tmp 11) rfl (g) (5) rfl _ _ (fun w h=>h.2) Tryz.underlying90 rfl zb9) hHeld ?_
 refine tr 10 rfl (fun K hK=>?_)
 rw [if_pos (by rfl)]
 replace b0:=b0.drew
 have b1:=zbn b0 (Only.setRow (b:=w.heap.size) W1.drew #[.int .i64 a,.int .i64 e]) (Nat.le_refl _) b0.size
 have l1:=World.block_lt_of_cell? w _ HK.out.1
 have f2:(W1.drew.setRow w.heap.size #[.int .i64 a,.int .i64 e]).cell? ⟨g,11,none⟩=some (.int .i64 1):=(b1.cell (p:=⟨g,11,none⟩) l1).trans HK.out.1
 have f3:(W1.drew.setRow w.heap.size #[.int .i64 a,.int .i64 e]).rangeAt g 5 [.int .i64 a,.int .i64 e]:=fun i v hv=>(b1.cell (p:=⟨g,5+i,none⟩) l1).trans (HK.out.2 i v hv)
 refine wp_store_row 90 (.tmp 2) (.tmp 12) rfl w.heap.size #[.int .i64 a,.int .i64 e] rfl rfl 90 _ B zb9 rfl (by simp [Value.oneCell']) ?_
 refine hK.out _ _ ⟨f2,f3⟩ (fun _=>?_)
 have u5:=za6 (w:=W1.drew) (g:=w.heap.size) (c':=#[.int .i64 a,.int .i64 e]) B
 generalize W1.drew.setRow w.heap.size #[.int .i64 a,.int .i64 e]=w5 at*
 clear hK K
 refine wpAnyH_done (by kernel_rfl) ?_ _
 go_wp2_with fail
 exact bodyPost_ret (v:=.agg #[.int .i64 a,.int .i64 e]) (results_cell_row (p:=2) (ty:=90) Tryz.results65 _ _ w.heap.size 90 _ (0,0) _ rfl u5 Tryz.underlying90 rfl (by exact zb9)) rfl ⟨rfl,b1⟩
set_option maxHeartbeats 3200000 in
set_option maxRecDepth 20000 in
theorem here2 (g:Nat) (a e:Int) (w:World) (k11:w.cell? ⟨g,11,none⟩=some (.int .i64 2)) (r0:w.rangeAt g 7 [.int .i64 a,.int .i64 e]):
 Calls Tryz.prog 65 #[.pointer (some ⟨g,0,none⟩)] w fun e' w'=>e'=.returned (.agg #[.int .i64 a,.int .i64 e])∧Low w.heap.size w w':=by
 obtain ⟨W1,hW1⟩:∃ W1,W1=w.alloc (.cells #[.int .i64 0,.int .i64 0] 90):=⟨_,rfl⟩
 have B:W1.heap[w.heap.size]?=some (.cells #[.int .i64 0,.int .i64 0] 90):=by rw [hW1];exact zah _ _ rfl
 have b0:Low w.heap.size w W1:=by rw [hW1];exact low1 _ _
 have c11:W1.drew.cell? ⟨g,11,none⟩=some (.int .i64 2):=(b0.drew.cell (p:=⟨g,11,none⟩) (World.block_lt_of_cell? w _ k11)).trans k11
 have rr:W1.drew.rangeAt g 7 [.int .i64 a,.int .i64 e]:=fun i v hv=>(b0.drew.cell (p:=⟨g,7+i,none⟩) (World.block_lt_of_cell? w _ (r0 i v hv))).trans (r0 i v hv)
 have HW:=Lib.hid hW1
 have HK:=Lib.hid (And.intro k11 r0)
 clear hW1 k11 r0
 go_enter Tryz.func65,Tryz.ntmps65
 go_upto_region 1 with fail
 rw [← HW.out]
 refine wp_region_held_drew (S:=fun w'=>w'.cell? ⟨g,11,none⟩=some (.int .i64 2)∧w'.rangeAt g 7 [.int .i64 a,.int .i64 e]) (by kernel_rfl) ⟨c11,rr⟩ (fun hHeld=>?_)
 refine tg (i:=0) (.pointer (some ⟨g,0,none⟩)) rfl hHeld ?_
 refine tg (i:=1) (.pointer (some ⟨g,0,none⟩)) rfl hHeld ?_
 refine tg (i:=2) (.pointer (some ⟨g,0,none⟩)) rfl hHeld ?_
 refine tg (i:=3) (.pointer (some ⟨g,11,none⟩)) rfl hHeld ?_
 refine tk (i:=4) (v:=.int .i64 2) rfl (Or.inl ⟨by rfl,fun W h=>by have c0:=h.1;go_simp⟩) hHeld ?_
 refine tk (i:=5) (v:=.int .i64 1) rfl (Or.inl ⟨by rfl,fun W _=>by go_simp;try rfl⟩) hHeld ?_
 refine tg (i:=6) (.pointer (some ⟨g,0,none⟩)) rfl hHeld ?_
 refine tg (i:=7) (.pointer (some ⟨g,5,none⟩)) rfl hHeld ?_
 refine tg (i:=8) (.pointer (some ⟨g,7,none⟩)) rfl hHeld ?_
 refine tk (i:=9) rfl (yieldsIf_load_mid (by rfl) 90 (.tmp 11) rfl (g) (7) rfl _ _ (fun w h=>h.2) Tryz.underlying90 rfl zb9) hHeld ?_
 refine tr 10 rfl (fun K hK=>?_)
 rw [if_pos (by rfl)]
 replace b0:=b0.drew
 have b1:=zbn b0 (Only.setRow (b:=w.heap.size) W1.drew #[.int .i64 a,.int .i64 e]) (Nat.le_refl _) b0.size
 have l1:=World.block_lt_of_cell? w _ HK.out.1
 have f2:(W1.drew.setRow w.heap.size #[.int .i64 a,.int .i64 e]).cell? ⟨g,11,none⟩=some (.int .i64 2):=(b1.cell (p:=⟨g,11,none⟩) l1).trans HK.out.1
 have f3:(W1.drew.setRow w.heap.size #[.int .i64 a,.int .i64 e]).rangeAt g 7 [.int .i64 a,.int .i64 e]:=fun i v hv=>(b1.cell (p:=⟨g,7+i,none⟩) l1).trans (HK.out.2 i v hv)
 refine wp_store_row 90 (.tmp 2) (.tmp 12) rfl w.heap.size #[.int .i64 a,.int .i64 e] rfl rfl 90 _ B zb9 rfl (by simp [Value.oneCell']) ?_
 refine hK.out _ _ ⟨f2,f3⟩ (fun _=>?_)
 have u5:=za6 (w:=W1.drew) (g:=w.heap.size) (c':=#[.int .i64 a,.int .i64 e]) B
 generalize W1.drew.setRow w.heap.size #[.int .i64 a,.int .i64 e]=w5 at*
 clear hK K
 refine wpAnyH_done (by kernel_rfl) ?_ _
 go_wp2_with fail
 exact bodyPost_ret (v:=.agg #[.int .i64 a,.int .i64 e]) (results_cell_row (p:=2) (ty:=90) Tryz.results65 _ _ w.heap.size 90 _ (0,0) _ rfl u5 Tryz.underlying90 rfl (by exact zb9)) rfl ⟨rfl,b1⟩
set_option maxHeartbeats 3200000 in
set_option maxRecDepth 20000 in
theorem here3 (g:Nat) (a e:Int) (w:World) (k11:w.cell? ⟨g,11,none⟩=some (.int .i64 3)) (r0:w.rangeAt g 9 [.int .i64 a,.int .i64 e]):
 Calls Tryz.prog 65 #[.pointer (some ⟨g,0,none⟩)] w fun e' w'=>e'=.returned (.agg #[.int .i64 a,.int .i64 e])∧Low w.heap.size w w':=by
 obtain ⟨W1,hW1⟩:∃ W1,W1=w.alloc (.cells #[.int .i64 0,.int .i64 0] 90):=⟨_,rfl⟩
 have B:W1.heap[w.heap.size]?=some (.cells #[.int .i64 0,.int .i64 0] 90):=by rw [hW1];exact zah _ _ rfl
 have b0:Low w.heap.size w W1:=by rw [hW1];exact low1 _ _
 have c11:W1.drew.cell? ⟨g,11,none⟩=some (.int .i64 3):=(b0.drew.cell (p:=⟨g,11,none⟩) (World.block_lt_of_cell? w _ k11)).trans k11
 have rr:W1.drew.rangeAt g 9 [.int .i64 a,.int .i64 e]:=fun i v hv=>(b0.drew.cell (p:=⟨g,9+i,none⟩) (World.block_lt_of_cell? w _ (r0 i v hv))).trans (r0 i v hv)
 have HW:=Lib.hid hW1
 have HK:=Lib.hid (And.intro k11 r0)
 clear hW1 k11 r0
 go_enter Tryz.func65,Tryz.ntmps65
 go_upto_region 1 with fail
 rw [← HW.out]
 refine wp_region_held_drew (S:=fun w'=>w'.cell? ⟨g,11,none⟩=some (.int .i64 3)∧w'.rangeAt g 9 [.int .i64 a,.int .i64 e]) (by kernel_rfl) ⟨c11,rr⟩ (fun hHeld=>?_)
 refine tg (i:=0) (.pointer (some ⟨g,0,none⟩)) rfl hHeld ?_
 refine tg (i:=1) (.pointer (some ⟨g,0,none⟩)) rfl hHeld ?_
 refine tg (i:=2) (.pointer (some ⟨g,0,none⟩)) rfl hHeld ?_
 refine tg (i:=3) (.pointer (some ⟨g,11,none⟩)) rfl hHeld ?_
 refine tk (i:=4) (v:=.int .i64 3) rfl (Or.inl ⟨by rfl,fun W h=>by have c0:=h.1;go_simp⟩) hHeld ?_
 refine tk (i:=5) (v:=.int .i64 2) rfl (Or.inl ⟨by rfl,fun W _=>by go_simp;try rfl⟩) hHeld ?_
 refine tg (i:=6) (.pointer (some ⟨g,0,none⟩)) rfl hHeld ?_
 refine tg (i:=7) (.pointer (some ⟨g,5,none⟩)) rfl hHeld ?_
 refine tg (i:=8) (.pointer (some ⟨g,9,none⟩)) rfl hHeld ?_
 refine tk (i:=9) rfl (yieldsIf_load_mid (by rfl) 90 (.tmp 11) rfl (g) (9) rfl _ _ (fun w h=>h.2) Tryz.underlying90 rfl zb9) hHeld ?_
 refine tr 10 rfl (fun K hK=>?_)
 rw [if_pos (by rfl)]
 replace b0:=b0.drew
 have b1:=zbn b0 (Only.setRow (b:=w.heap.size) W1.drew #[.int .i64 a,.int .i64 e]) (Nat.le_refl _) b0.size
 have l1:=World.block_lt_of_cell? w _ HK.out.1
 have f2:(W1.drew.setRow w.heap.size #[.int .i64 a,.int .i64 e]).cell? ⟨g,11,none⟩=some (.int .i64 3):=(b1.cell (p:=⟨g,11,none⟩) l1).trans HK.out.1
 have f3:(W1.drew.setRow w.heap.size #[.int .i64 a,.int .i64 e]).rangeAt g 9 [.int .i64 a,.int .i64 e]:=fun i v hv=>(b1.cell (p:=⟨g,9+i,none⟩) l1).trans (HK.out.2 i v hv)
 refine wp_store_row 90 (.tmp 2) (.tmp 12) rfl w.heap.size #[.int .i64 a,.int .i64 e] rfl rfl 90 _ B zb9 rfl (by simp [Value.oneCell']) ?_
 refine hK.out _ _ ⟨f2,f3⟩ (fun _=>?_)
 have u5:=za6 (w:=W1.drew) (g:=w.heap.size) (c':=#[.int .i64 a,.int .i64 e]) B
 generalize W1.drew.setRow w.heap.size #[.int .i64 a,.int .i64 e]=w5 at*
 clear hK K
 refine wpAnyH_done (by kernel_rfl) ?_ _
 go_wp2_with fail
 exact bodyPost_ret (v:=.agg #[.int .i64 a,.int .i64 e]) (results_cell_row (p:=2) (ty:=90) Tryz.results65 _ _ w.heap.size 90 _ (0,0) _ rfl u5 Tryz.underlying90 rfl (by exact zb9)) rfl ⟨rfl,b1⟩
end Go.Proofs.YtanbgdhmfjgihaaGreatDoor

/- WB -/
namespace Go.Proofs.YtanbgdhmfjgihaaGreatDoor
open Go.RowKit
set_option maxHeartbeats 3200000 in
set_option maxRecDepth 20000 in
theorem zeb (a e:Nat) (w:World):Calls Tryz.prog 56 #[.agg #[.int .i64 a,.int .i64 e]] w fun e' w'=>e'=.returned (.bool (decide (e≤a)))∧Low w.heap.size w w':=by
 obtain ⟨W1,hW1⟩:∃ W1,W1=w.alloc (.cells #[.int .i64 a,.int .i64 e] 90):=⟨_,rfl⟩
 have B:W1.heap[w.heap.size]?=some (.cells #[.int .i64 a,.int .i64 e] 90):=by rw [hW1];exact zah _ _ rfl
 have b0:Low w.heap.size w W1:=by rw [hW1];exact low1 _ _
 have c0:W1.cell? ⟨w.heap.size,0,none⟩=some (.int .i64 a):=zab B _ rfl
 have c1:W1.cell? ⟨w.heap.size,1,none⟩=some (.int .i64 e):=zab B _ rfl
 have HW:=Lib.hid hW1
 clear hW1
 go_enter Tryz.func56,Tryz.ntmps56
 go_upto_region 1 with fail
 rw [← HW.out]
 go_wp2_with fail
 go_ret
 exact ⟨rfl,b0⟩
set_option maxHeartbeats 6400000 in
set_option maxRecDepth 20000 in
theorem numAt (g sp gl ol n cl gr fr m cr k v j r:Nat) (z:Int) (w:World) (hk:k < 3) (hv:v < 3) (hj:j < n) (hr:r < m)
 (k0:w.cell? ⟨g,0,none⟩=some (.pointer (some ⟨sp,0,none⟩))) (k1:w.cell? ⟨g,1,none⟩=some (.slice (some ⟨gl,ol,none⟩) n cl)) (k11:w.cell? ⟨g,11,none⟩=some (.int .i64 (k+1:Nat)))
 (kl:w.cell? ⟨g,2+k,none⟩=some (.int .i64 v)) (s1:w.cell? ⟨sp,1,none⟩=some (.slice (some ⟨gr,fr,none⟩) m cr)) (q:w.cell? ⟨gl,ol+j,none⟩=some (.int .i64 r)) (hz:w.cell? ⟨gr,fr+r*3+v,none⟩=some (.int .i64 z)):
 Calls Tryz.prog 93 #[.pointer (some ⟨g,0,none⟩),.int .i64 j] w fun e' w'=>e'=.returned (.int .i64 z)∧Low w.heap.size w w':=by
 have hk1:((k+1:Nat):Int) - 1=k:=by omega
 have hk2:IntKind.i64.wrap (k:Int)=k:=IntWalk.i64_in _ (by omega)
 have hk3:(k:Int) < 3:=by omega
 have hv3:(v:Int) < 3:=by omega
 have hj3:(j:Int) < n:=by omega
 have hr3:(r:Int) < m:=by omega
 generalize ((k+1:Nat):Int)=d at k11 hk1
 go_enter Tryz.func93,Tryz.ntmps93
 go_wp2_with fail
 go_quiet (fail)
 go_wp2_with fail
 go_ret
 exact ⟨rfl,zbx (Low.refl _ _) _⟩
end Go.Proofs.YtanbgdhmfjgihaaGreatDoor

/- WC -/
namespace Go.Proofs
open Go.Shelf
namespace YtanbgdhmfjgihaaGreatDoor
open Go.RowKit
def gal (p:Nat→Bool) (a:Nat):Nat→Nat
 | 0=>a
 | n+1=>if p a then gal p (a+1) n else a
theorem zh0 (p:Nat→Bool):(n a:Nat)→a≤gal p a n
 | 0,_=>Nat.le_refl _
 | n+1,a=>by
   unfold gal
   split
   ·exact Nat.le_trans (Nat.le_succ a) (zh0 p n (a+1))
   ·exact Nat.le_refl _
theorem zdc (p:Nat→Bool):(n a:Nat)→gal p a n≤a+n
 | 0,_=>Nat.le_refl _
 | n+1,a=>by
   unfold gal
   split
   ·have:=zdc p n (a+1);omega
   ·omega
theorem zct (p:Nat→Bool):(n a j:Nat)→a≤j→j < gal p a n→p j=true
 | 0,a,j,h,h2=>absurd h2 (by unfold gal;omega)
 | n+1,a,j,h,h2=>by
   unfold gal at h2
   split at h2
   ·rename_i hp
    by_cases e:j=a
    ·subst e;exact hp
    ·exact zct p n (a+1) j (by omega) h2
   ·omega
theorem zh1 (p:Nat→Bool):(n a:Nat)→gal p a n < a+n→p (gal p a n)=false
 | 0,a,h=>absurd h (by unfold gal;omega)
 | n+1,a,h=>by
   unfold gal at h ⊢
   split at h
   ·rename_i hp
    rw [if_pos hp]
    exact zh1 p n (a+1) (by omega)
   ·rename_i hp
    rw [if_neg hp]
    simpa using hp
theorem gal_is (p:Nat→Bool) (a n r:Nat) (h1:a≤r) (h2:r≤a+n) (hy:∀ j,a≤j→j < r→p j=true) (hn:r < a+n→p r=false):gal p a n=r:=by
 have g1:=zh0 p n a
 have g2:=zdc p n a
 rcases Nat.lt_trichotomy (gal p a n) r with h | h | h
 ·have:=zh1 p n a (by omega)
  rw [hy _ g1 h] at this
  cases this
 ·exact h
 ·have:=zct p n a r h1 h
  rw [hn (by omega)] at this
  cases this
set_option maxHeartbeats 1600000 in
theorem zxt (g:Nat) (b0:Value) (eg:∀ args w,(callFunc g args).run Tryz.prog w=.ok (.enter g args) w) (x y first i:Nat) (r:Bool) (w:World) (hb:first+i < 4611686018427387904)
 (k0:w.cell? ⟨x,0,none⟩=some (.func (.func g) #[b0] #[])) (k1:w.cell? ⟨y,0,none⟩=some (.int .i64 first))
 (hc:Calls Tryz.prog g #[b0,.int .i64 ((first:Int)+i)] w fun e w'=>e=.returned (.bool r)∧Low w.heap.size w w'):
 Calls Tryz.prog 118 #[.int .i64 i,.pointer (some ⟨x,0,none⟩),.pointer (some ⟨y,0,none⟩)] w fun e w'=>e=.returned (.bool (!r))∧Low w.heap.size w w':=by
 have h1:IntKind.i64.wrap ((first:Int)+i)=(first:Int)+i:=IntWalk.i64_in _ (by omega)
 go_enter Tryz.func118,Tryz.ntmps118
 go_wp2_with (go_at_fn g;refine hc.mono ?_;rintro e w' ⟨rfl,hb3⟩)
 go_ret
 exact ⟨rfl,hb3⟩
end YtanbgdhmfjgihaaGreatDoor
end Go.Proofs

/- WS -/
namespace Go.Proofs
open Go.Shelf
def Tryz.searchN_ren:Go.Shelf.Ren:=⟨fun | 16=>117 | n=>n,fun | 3=>3 | 35=>98 | 4=>4 | 38=>139 | n=>n,fun | n=>n⟩
theorem Tryz.searchN:Go.Proofs.SlLaysO.n16 Tryz.prog Tryz.searchN_ren:={
 mixed:=by kernel_rfl
 f16:=Tryz.func117.trans (congrArg some (by kernel_rfl))
 t3:=Tryz.underlying3
 a3:=Tryz.isAgg3
 z3:=Tryz.sizeOf3
 v3:=Tryz.zeroValue3
 t4:=Tryz.underlying4
 a4:=Tryz.isAgg4
 z4:=Tryz.sizeOf4
 v4:=Tryz.zeroValue4
 t35:=Tryz.underlying98
 a35:=Tryz.isAgg98
 z35:=Tryz.sizeOf98
 v35:=Tryz.zeroValue98
 t38:=Tryz.underlying139
 a38:=Tryz.isAgg139
 z38:=Tryz.sizeOf139
 v38:=Tryz.zeroValue139 }
namespace YtanbgdhmfjgihaaGreatDoor
open Go.RowKit
theorem zta (g:Nat) (cb:Array Value) (n:Nat) (p:Nat→Bool) (w:World) (eg:∀ args w,(callFunc g args).run Tryz.prog w=.ok (.enter g args) w) (hsz:n < 4611686018427387904)
 (hf:∀ W,Low w.heap.size w W→∀ i:Nat,i < n→Calls Tryz.prog g (#[.int .i64 i]++cb) W fun e w'=>e=.returned (.bool (p i))∧Low W.heap.size W w')
 (hmono:∀ a b,a≤b→b < n→p a=true→p b=true):
 Calls Tryz.prog 117 #[.int .i64 n,.func (.func g) #[] cb] w fun e w'=>e=.returned (.int .i64 ((List.range n).countP (fun i=>!p i):Nat))∧Low w.heap.size w w':=by
 have hgrow:∀ m os,Low w.heap.size w (Go.Sort.grow (w.drewN m) os):=fun m os=>⟨below_grown_sl _ _ _ _ (Nat.le_refl _),Nat.le_add_right _ _⟩
 refine (Any.sort_Search Tryz.searchN g cb n p w eg hsz (fun m os i hi=>?_) hmono).mono ?_
 ·exact (hf _ (hgrow m os) i hi).mono fun e w' h=>⟨h.1,h.2.grows⟩
 ·rintro e w' ⟨he,q,os,rfl⟩
  exact ⟨he,hgrow q os⟩
end YtanbgdhmfjgihaaGreatDoor
end Go.Proofs

/- WD -/
namespace Go.Proofs.YtanbgdhmfjgihaaGreatDoor
open Go.RowKit
theorem zfc (q:Nat→Bool):(n c:Nat)→c≤n→(∀ t,t < c→q t=true)→(∀ t,c≤t→t < n→q t=false)→(List.range n).countP q=c
 | 0,c,h,_,_=>by
   obtain rfl:c=0:=by omega
   rfl
 | n+1,c,h,h1,h2=>by
   rw [List.range_succ,List.countP_append]
   by_cases e:c=n+1
   ·subst e
    rw [zfc q n n (Nat.le_refl _) (fun t ht=>h1 t (by omega)) (fun t h3 h4=>by omega)]
    simp [h1 n (by omega)]
   ·rw [zfc q n c (by omega) h1 (fun t h3 h4=>h2 t h3 (by omega))]
    simp [h2 n (by omega) (by omega)]
theorem ztb (p:Nat→Bool) (f n:Nat) (mono:∀ i j,i≤j→j < n→p (f+j)=true→p (f+i)=true):(List.range n).countP (fun i=>!(!p (f+i)))=gal p f n - f:=by
 have g1:=zh0 p n f
 have g2:=zdc p n f
 refine zfc _ n (gal p f n - f) (by omega) (fun t ht=>?_) (fun t h3 h5=>?_)
 ·show (!(!p (f+t)))=true
  rw [zct p n f (f+t) (by omega) (by omega)];rfl
 ·show (!(!p (f+t)))=false
  cases h:p (f+t) with
  | false=>rfl
  | true=>
    have:=mono (gal p f n - f) t h3 h5 h
    rw [show f+(gal p f n - f)=gal p f n by omega,zh1 p n f (by omega)] at this
    cases this
theorem zio {W:World} {b a e:Nat} (h:W.heap[b]?=some (.cells #[.int .i64 a,.int .i64 e] 90)):W.rangeAt b 0 [.int .i64 a,.int .i64 e]:=zqt (zab h _ rfl) (zab h _ rfl)
theorem zcf {ops:Array Oper} {rest:List Oper} {o:Oper} {a:Act} {w:World} {Q:Exit→Act→World→Prop} (y:Operand) (g off:Nat) (u v:Nat) (h6:w.rangeAt g off [.int .i64 u,.int .i64 v])
 (hgd:o.guard=none) (ho:o.op=.load 90 y) (hx:a.eval y=.pointer (some ⟨g,off,none⟩))
 (h:wpList Tryz.prog ops Q rest (a.put o.dst (.agg #[.int .i64 u,.int .i64 v])) w):wpList Tryz.prog ops Q (o::rest) a w:=
 wpList_load_mid hgd 90 y ho g off hx [.int .i64 u,.int .i64 v] _ h6 Tryz.underlying90 rfl zb9 h
set_option maxHeartbeats 3200000 in
set_option maxRecDepth 20000 in
theorem zr1 (g:Nat) (b0:Value) (a e:Nat) (w:World) (h:e≤a):
 Calls Tryz.prog 91 #[.agg #[.int .i64 a,.int .i64 e],.func (.func g) #[b0] #[]] w fun x w'=>x=.returned (.int .i64 a)∧Low w.heap.size w w':=by
 obtain ⟨W1,hW1⟩:∃ W1,W1=(w.alloc (.cells #[.int .i64 a,.int .i64 e] 90)).alloc (.cells #[.func (.func g) #[b0] #[]] 98):=⟨_,rfl⟩
 have B:W1.heap[w.heap.size]?=some (.cells #[.int .i64 a,.int .i64 e] 90):=by rw [hW1];exact zaw _ (zah _ _ rfl)
 have b0':Low w.heap.size w W1:=by rw [hW1];exact low2 _ _ _
 have he:=fun W=>zeb a e W
 rw [decide_eq_true h] at he
 have HW:=Lib.hid hW1
 clear hW1
 go_enter Tryz.func91,Tryz.ntmps91
 go_wp2_with (first
  |(rw [← HW.out];(with_reducible refine zcf (.tmp 2) w.heap.size 0 a e (zio B) ?_ ?_ ?_ ?_);rfl;rfl;rfl)
  |(go_at_call 56;(with_reducible refine (he _).mono ?_);rintro e w3 ⟨rfl,hb3⟩;replace b0':=zad b0' hb3 b0'.size;replace B:=(hb3.block _ (zac B)).trans B;clear hb3;have c0:=zab B 0 rfl))
 go_ret
 exact ⟨rfl,b0'⟩
set_option maxHeartbeats 3200000 in
set_option maxRecDepth 20000 in
theorem zr2 (g:Nat) (b0:Value) (eg:∀ args w,(callFunc g args).run Tryz.prog w=.ok (.enter g args) w) (a e:Nat) (w:World) (h:a < e)
 (hf:∀ W,Low w.heap.size w W→Calls Tryz.prog g #[b0,.int .i64 a] W fun x w'=>x=.returned (.bool false)∧Low W.heap.size W w'):
 Calls Tryz.prog 91 #[.agg #[.int .i64 a,.int .i64 e],.func (.func g) #[b0] #[]] w fun x w'=>x=.returned (.int .i64 a)∧Low w.heap.size w w':=by
 obtain ⟨W1,hW1⟩:∃ W1,W1=(w.alloc (.cells #[.int .i64 a,.int .i64 e] 90)).alloc (.cells #[.func (.func g) #[b0] #[]] 98):=⟨_,rfl⟩
 have B:W1.heap[w.heap.size]?=some (.cells #[.int .i64 a,.int .i64 e] 90):=by rw [hW1];exact zaw _ (zah _ _ rfl)
 have B2:W1.heap[w.heap.size+1]?=some (.cells #[.func (.func g) #[b0] #[]] 98):=by rw [hW1];exact zah _ _ (by simp)
 have b0':Low w.heap.size w W1:=by rw [hW1];exact low2 _ _ _
 have he:=fun W=>zeb a e W
 rw [decide_eq_false (by omega)] at he
 have HW:=Lib.hid hW1
 clear hW1
 go_enter Tryz.func91,Tryz.ntmps91
 go_wp2_with (first
  |(rw [← HW.out];(with_reducible refine zcf (.tmp 2) w.heap.size 0 a e (zio B) ?_ ?_ ?_ ?_);rfl;rfl;rfl)
  |(go_at_call 56;(with_reducible refine (he _).mono ?_);rintro e w3 ⟨rfl,hb3⟩;replace b0':=zad b0' hb3 b0'.size;replace B:=(hb3.block _ (zac B)).trans B;replace B2:=(hb3.block _ (zac B2)).trans B2;clear hb3;have c0:=zab B 0 rfl;have c1:=zab B2 0 rfl)
  |(go_at_fn g;(with_reducible refine (hf _ b0').mono ?_);rintro e w3 ⟨rfl,hb3⟩;replace b0':=zad b0' hb3 b0'.size;replace B:=(hb3.block _ (zac B)).trans B;clear hb3 c0 c1;have c0:=zab B 0 rfl))
 go_ret
 exact ⟨rfl,b0'⟩
end Go.Proofs.YtanbgdhmfjgihaaGreatDoor
