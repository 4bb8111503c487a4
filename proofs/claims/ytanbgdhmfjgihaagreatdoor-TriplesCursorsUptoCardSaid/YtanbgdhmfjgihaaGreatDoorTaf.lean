/- Texts of one kind, one behind the other: each says ahead of itself what it shows. -/
import Derived.Test.YtanbgdhmfjgihaaGreatDoorTae
import Derived.Deep.MidRow
import Derived.Test.YtanbgdhmfjgihaaGreatDoorTaa
import Derived.Deep.DeepCutAuto
import Derived.Laws.StructEq
import Derived.Deep.RegionWith
import Derived.Test.YtanbgdhmfjgihaaGreatDoorTab
namespace Go.Proofs.YtanbgdhmfjgihaaGreatDoor
open Go.RowKit
set_option maxHeartbeats 12800000
set_option maxRecDepth 20000
theorem ztn (b:Bool) (n:Int) (t x:ByteArray) (p:Option Addr) (len cap:Nat) (d:Int) (w:World) (hs:x.size≤maxLen) (hn:(t.size:Int)≤1048576) (h:zb1 x=true):
 Calls Tryz.prog 86 #[.agg #[.int .i64 10,.bool b,.int .i64 n,.string t,.string x,.slice p len cap],.int .i64 d] w fun e w'=>e=.returned (.bool (zbm b n ⟨#[]⟩ ⟨#[]⟩ len))∧Low w.heap.size w w':=by
 have l0:Six ((w.alloc (.cells #[.int .i64 10,.bool b,.int .i64 n,.string t,.string x,.slice p len cap] 39)).alloc (.cells #[.int .i64 10,.bool b,.int .i64 n,.string t,.string x,.slice p len cap] 39)) w.heap.size 10 b n t x p len cap:=(zaf w rfl).alloc _
 have l1:Six ((w.alloc (.cells #[.int .i64 10,.bool b,.int .i64 n,.string t,.string x,.slice p len cap] 39)).alloc (.cells #[.int .i64 10,.bool b,.int .i64 n,.string t,.string x,.slice p len cap] 39)) (w.heap.size+1) 10 b n t x p len cap:=zaf _ (by simp)
 have b0:=low2 w (.cells #[.int .i64 10,.bool b,.int .i64 n,.string t,.string x,.slice p len cap] 39) (.cells #[.int .i64 10,.bool b,.int .i64 n,.string t,.string x,.slice p len cap] 39)
 have l00:=zaf (k:=10) (b:=b) (n:=n) (t:=t) (x:=x) (p:=p) (len:=len) (cap:=cap) w rfl
 go_enter Tryz.func86,Tryz.ntmps86
 go_wp2_with (first
  |((with_reducible refine zaa (.tmp 2) w.heap.size (by assumption) ?_ ?_ ?_ ?_);rfl;rfl;rfl)
  |((with_reducible refine zaj (.tmp 5) (w.heap.size+1) (by assumption) ?_ ?_ ?_ ?_);rfl;rfl;rfl)
  |(go_at_call 107;(with_reducible refine (zap 10 b n t x _ 154 rfl _).mono ?_);rintro e w2 ⟨rfl,hb2⟩;have k2:=l0.below hb2.is;have m2:=l1.below hb2.is;have b2:=zad b0 hb2 (by have:=l0.lt;omega);have z2:w.heap.size≤w2.heap.size:=by have:=k2.lt;omega
    clear l0 l1 l00 hb2 b0
    have c3:=k2.c3;have c4:=k2.c4)
  |(simp only [zgu,zee,zef,zeg,zeh,zei,zgv,zgw,zgx,zgy,Result.andThen_ok])
  |(go_at_call 109;(with_reducible refine (zqv x _ h _ hs).mono ?_);rintro e w3 ⟨rfl,hb3⟩;have b3:=zad b2 hb3 z2;have m3:=m2.below hb3.is;have z3:w.heap.size≤w3.heap.size:=(by have:=m3.lt;omega);have e3:=m3.c3;have f3:=m3.free 3;have n3:=m3.set3 ⟨#[]⟩;have e4:=n3.c4;have f4:=n3.free 4;have n4:=n3.set4 ⟨#[]⟩;have y3:w.heap.size≤(w3.setCell ⟨w.heap.size+1,3,none⟩ (.string ⟨#[]⟩)).heap.size:=(by have:=n3.lt;omega);have y4:w.heap.size≤((w3.setCell ⟨w.heap.size+1,3,none⟩ (.string ⟨#[]⟩)).setCell ⟨w.heap.size+1,4,none⟩ (.string ⟨#[]⟩)).heap.size:=(by have:=n4.lt;omega);have b4:=zbo (o:=4) (zbo (o:=3) b3 none (.string ⟨#[]⟩) (show w.heap.size≤w.heap.size+1 by omega) z3) none (.string ⟨#[]⟩) (show w.heap.size≤w.heap.size+1 by omega) y3)
  |(go_at_call 112;(with_reducible refine (zck 10 _ _ _ _ _ _ _ _).mono ?_);rintro e w9 ⟨rfl,hb9⟩;have b9:=zad b4 hb9 y4))
 go_ret
 exact ⟨rfl,b9⟩
theorem zv9 (b:Bool) (n:Int) (t x:ByteArray) (p:Option Addr) (len cap:Nat) (d:Int) (w:World) (hs:x.size≤maxLen) (hn:(t.size:Int)≤1048576) (h:zb1 x=false):
 Calls Tryz.prog 86 #[.agg #[.int .i64 10,.bool b,.int .i64 n,.string t,.string x,.slice p len cap],.int .i64 d] w fun e w'=>e=.returned (.bool (false))∧Low w.heap.size w w':=by
 have l0:Six ((w.alloc (.cells #[.int .i64 10,.bool b,.int .i64 n,.string t,.string x,.slice p len cap] 39)).alloc (.cells #[.int .i64 10,.bool b,.int .i64 n,.string t,.string x,.slice p len cap] 39)) w.heap.size 10 b n t x p len cap:=(zaf w rfl).alloc _
 have l1:Six ((w.alloc (.cells #[.int .i64 10,.bool b,.int .i64 n,.string t,.string x,.slice p len cap] 39)).alloc (.cells #[.int .i64 10,.bool b,.int .i64 n,.string t,.string x,.slice p len cap] 39)) (w.heap.size+1) 10 b n t x p len cap:=zaf _ (by simp)
 have b0:=low2 w (.cells #[.int .i64 10,.bool b,.int .i64 n,.string t,.string x,.slice p len cap] 39) (.cells #[.int .i64 10,.bool b,.int .i64 n,.string t,.string x,.slice p len cap] 39)
 have l00:=zaf (k:=10) (b:=b) (n:=n) (t:=t) (x:=x) (p:=p) (len:=len) (cap:=cap) w rfl
 go_enter Tryz.func86,Tryz.ntmps86
 go_wp2_with (first
  |((with_reducible refine zaa (.tmp 2) w.heap.size (by assumption) ?_ ?_ ?_ ?_);rfl;rfl;rfl)
  |((with_reducible refine zaj (.tmp 5) (w.heap.size+1) (by assumption) ?_ ?_ ?_ ?_);rfl;rfl;rfl)
  |(go_at_call 107;(with_reducible refine (zap 10 b n t x _ 154 rfl _).mono ?_);rintro e w2 ⟨rfl,hb2⟩;have k2:=l0.below hb2.is;have m2:=l1.below hb2.is;have b2:=zad b0 hb2 (by have:=l0.lt;omega);have z2:w.heap.size≤w2.heap.size:=by have:=k2.lt;omega
    clear l0 l1 l00 hb2 b0
    have c3:=k2.c3;have c4:=k2.c4)
  |(simp only [zgu,zee,zef,zeg,zeh,zei,zgv,zgw,zgx,zgy,Result.andThen_ok])
  |(go_at_call 109;(with_reducible refine (zqv x _ h _ hs).mono ?_);rintro e w3 ⟨rfl,hb3⟩;have b3:=zad b2 hb3 z2;have m3:=m2.below hb3.is;have z3:w.heap.size≤w3.heap.size:=(by have:=m3.lt;omega);have e3:=m3.c3;have f3:=m3.free 3;have n3:=m3.set3 ⟨#[]⟩;have e4:=n3.c4;have f4:=n3.free 4;have n4:=n3.set4 ⟨#[]⟩;have y3:w.heap.size≤(w3.setCell ⟨w.heap.size+1,3,none⟩ (.string ⟨#[]⟩)).heap.size:=(by have:=n3.lt;omega);have y4:w.heap.size≤((w3.setCell ⟨w.heap.size+1,3,none⟩ (.string ⟨#[]⟩)).setCell ⟨w.heap.size+1,4,none⟩ (.string ⟨#[]⟩)).heap.size:=(by have:=n4.lt;omega);have b4:=zbo (o:=4) (zbo (o:=3) b3 none (.string ⟨#[]⟩) (show w.heap.size≤w.heap.size+1 by omega) z3) none (.string ⟨#[]⟩) (show w.heap.size≤w.heap.size+1 by omega) y3))
 go_ret
 exact ⟨rfl,b4⟩
theorem zsg (b:Bool) (n:Int) (t x:ByteArray) (p:Option Addr) (len cap:Nat) (d:Int) (w:World) (hn:¬ (t.size:Int)≤1048576):
 Calls Tryz.prog 86 #[.agg #[.int .i64 10,.bool b,.int .i64 n,.string t,.string x,.slice p len cap],.int .i64 d] w fun e w'=>e=.returned (.bool (false))∧Low w.heap.size w w':=by
 have l0:Six ((w.alloc (.cells #[.int .i64 10,.bool b,.int .i64 n,.string t,.string x,.slice p len cap] 39)).alloc (.cells #[.int .i64 10,.bool b,.int .i64 n,.string t,.string x,.slice p len cap] 39)) w.heap.size 10 b n t x p len cap:=(zaf w rfl).alloc _
 have l1:Six ((w.alloc (.cells #[.int .i64 10,.bool b,.int .i64 n,.string t,.string x,.slice p len cap] 39)).alloc (.cells #[.int .i64 10,.bool b,.int .i64 n,.string t,.string x,.slice p len cap] 39)) (w.heap.size+1) 10 b n t x p len cap:=zaf _ (by simp)
 have b0:=low2 w (.cells #[.int .i64 10,.bool b,.int .i64 n,.string t,.string x,.slice p len cap] 39) (.cells #[.int .i64 10,.bool b,.int .i64 n,.string t,.string x,.slice p len cap] 39)
 have l00:=zaf (k:=10) (b:=b) (n:=n) (t:=t) (x:=x) (p:=p) (len:=len) (cap:=cap) w rfl
 go_enter Tryz.func86,Tryz.ntmps86
 go_wp2_with (first
  |((with_reducible refine zaa (.tmp 2) w.heap.size (by assumption) ?_ ?_ ?_ ?_);rfl;rfl;rfl)
  |((with_reducible refine zaj (.tmp 5) (w.heap.size+1) (by assumption) ?_ ?_ ?_ ?_);rfl;rfl;rfl)
  |(go_at_call 107;(with_reducible refine (zap 10 b n t x _ 154 rfl _).mono ?_);rintro e w2 ⟨rfl,hb2⟩;have k2:=l0.below hb2.is;have m2:=l1.below hb2.is;have b2:=zad b0 hb2 (by have:=l0.lt;omega);have z2:w.heap.size≤w2.heap.size:=by have:=k2.lt;omega
    clear l0 l1 l00 hb2 b0
    have c3:=k2.c3;have c4:=k2.c4;have e3:=m2.c3;have f3:=m2.free 3;have n3:=m2.set3 ⟨#[]⟩;have e4:=n3.c4;have f4:=n3.free 4;have n4:=n3.set4 ⟨#[]⟩;have y3:w.heap.size≤(w2.setCell ⟨w.heap.size+1,3,none⟩ (.string ⟨#[]⟩)).heap.size:=(by have:=n3.lt;omega);have y4:w.heap.size≤((w2.setCell ⟨w.heap.size+1,3,none⟩ (.string ⟨#[]⟩)).setCell ⟨w.heap.size+1,4,none⟩ (.string ⟨#[]⟩)).heap.size:=(by have:=n4.lt;omega);have b4:=zbo (o:=4) (zbo (o:=3) b2 none (.string ⟨#[]⟩) (show w.heap.size≤w.heap.size+1 by omega) z2) none (.string ⟨#[]⟩) (show w.heap.size≤w.heap.size+1 by omega) y3)
  |(simp only [zgu,zee,zef,zeg,zeh,zei,zgv,zgw,zgx,zgy,Result.andThen_ok]))
 go_ret
 exact ⟨rfl,b4⟩
def zbg (k:Int) (b:Bool) (n:Int) (t x:ByteArray) (len:Nat) (r:Bool):Bool:=
 if k=0 then zbm b n t x len else if k=1 then zbm false n t x len else if k=2 then zbm b 0 t x len
 else if k=3 then chk t.data.toList && zbm b n ⟨#[]⟩ x len
 else if k=4 then decide (t.size≤1048576) && zbm b n ⟨#[]⟩ x len
 else if k=5 then r && zbm b n t x 0
 else if k=6∨k=7 then decide (0≤n) && zbm b 0 t x len
 else if k=8 then zb1 t && zbm b n ⟨#[]⟩ x len
 else if k=9 then zcu t && zbm b n ⟨#[]⟩ x len
 else if k=10 then decide (t.size≤1048576) && (zb1 x && zbm b n ⟨#[]⟩ ⟨#[]⟩ len)
 else false
theorem mayBeOf (k:Int) (b:Bool) (n:Int) (t x:ByteArray) (p:Option Addr) (len cap:Nat) (d:Int) (w:World) (r:Bool) (hG:Gd w) (ht:t.size < 4294967281) (hx:x.size < 4294967281) (d0:0≤d) (d1:d≤1000)
 (hc:k=5→∀ W,Low w.heap.size w W→Calls Tryz.prog 111 #[.slice p len cap,.int .i64 (d+1)] W fun e w'=>e=.returned (.bool r)∧Low W.heap.size W w'):
 Calls Tryz.prog 86 #[.agg #[.int .i64 k,.bool b,.int .i64 n,.string t,.string x,.slice p len cap],.int .i64 d] w fun e w'=>e=.returned (.bool (zbg k b n t x len r))∧Low w.heap.size w w':=by
 have st:t.size≤maxLen:=by unfold maxLen;omega
 have sx:x.size≤maxLen:=by unfold maxLen;omega
 unfold zbg
 split
 case isTrue h=>subst h;exact mayNull b n t x p len cap d w
 split
 case isTrue h=>subst h;exact zv6 b n t x p len cap d w
 split
 case isTrue h=>subst h;exact zv7 b n t x p len cap d w
 split
 case isTrue h=>
  subst h
  by_cases e:chk t.data.toList=true
  ·rw [e];exact zpl b n t x p len cap d w hG ht e
  ·have e:chk t.data.toList=false:=by simpa using e
   rw [e];exact zsa b n t x p len cap d w hG ht e
 split
 case isTrue h=>
  subst h
  by_cases e:t.size≤1048576
  ·rw [decide_eq_true e];exact zsf b n t x p len cap d w (by omega)
  ·rw [decide_eq_false e];exact ztm b n t x p len cap d w (by omega)
 split
 case isTrue h=>
  subst h
  cases r with
  | true=>exact zsc b n t x p len cap d w d0 d1 (hc rfl)
  | false=>exact ztj b n t x p len cap d w d0 d1 (hc rfl)
 split
 case isTrue h=>
  rcases h with rfl | rfl
  ·by_cases e:0≤n
   ·rw [decide_eq_true e];exact zsd b n t x p len cap d w e
   ·rw [decide_eq_false e];exact ztk b n t x p len cap d w e
  ·by_cases e:0≤n
   ·rw [decide_eq_true e];exact zse b n t x p len cap d w e
   ·rw [decide_eq_false e];exact ztl b n t x p len cap d w e
 split
 case isTrue h=>
  subst h
  by_cases e:zb1 t=true
  ·rw [e];exact zti b n t x p len cap d w st e
  ·have e:zb1 t=false:=by simpa using e
   rw [e];exact zv8 b n t x p len cap d w st e
 split
 case isTrue h=>
  subst h
  by_cases e:zcu t=true
  ·rw [e];exact zpm b n t x p len cap d w st e
  ·have e:zcu t=false:=by simpa using e
   rw [e];exact zsb b n t x p len cap d w st e
 split
 case isTrue h=>
  subst h
  by_cases e:t.size≤1048576
  ·rw [decide_eq_true e]
   by_cases e2:zb1 x=true
   ·rw [e2];exact ztn b n t x p len cap d w sx (by omega) e2
   ·have e2:zb1 x=false:=by simpa using e2
    rw [e2];exact zv9 b n t x p len cap d w sx (by omega) e2
  ·rw [decide_eq_false e];exact zsg b n t x p len cap d w (by omega)
 have hk:zk6 k=188:=by
  unfold zk6
  simp only [*,if_false]
  rename_i h67 _ _ _
  have a6:k≠6:=fun e=>h67 (.inl e)
  have a7:k≠7:=fun e=>h67 (.inr e)
  simp only [a6,a7,if_false]
 exact zpn k b n t x p len cap d w hk
inductive Val where
 | mk (k:Int) (b:Bool) (n:Int) (t x:ByteArray) (l:List Val)
structure Fine (n:Int) (t x:ByteArray) (len:Nat):Prop where
 ht:t.size≤2097152
 hx:x.size≤2097152
 hn:len≤2097152
 lo:-9223372036854775808≤n
 hi:n≤9223372036854775807
mutual
def zay (w:World) (g off:Nat):Val→Prop
 | .mk k b n t x l=>w.cell? ⟨g,off,none⟩=some (.int .i64 k)∧w.cell? ⟨g,off+1,none⟩=some (.bool b)∧w.cell? ⟨g,off+2,none⟩=some (.int .i64 n)∧
   w.cell? ⟨g,off+3,none⟩=some (.string t)∧w.cell? ⟨g,off+4,none⟩=some (.string x)∧Fine n t x l.length∧
   ∃ L,w.cell? ⟨g,off+5,none⟩=some L∧Held w L l
def Held (w:World) (L:Value):List Val→Prop
 | []=>∃ p cap,L=.slice p 0 cap
 | v::r=>∃ g off cap,L=.slice (some ⟨g,off,none⟩) (r.length+1) cap∧zay w g off v∧zar w g (off+6) r
def zar (w:World) (g off:Nat):List Val→Prop
 | []=>True
 | v::r=>zay w g off v∧zar w g (off+6) r
end
mutual
theorem zay.below {w w':World} {g off:Nat}:(v:Val)→zay w g off v→Below w.heap.size w w'→zay w' g off v
 | .mk _ _ _ _ _ l,h,q=>by
   unfold zay at h ⊢
   obtain ⟨h0,h1,h2,h3,h4,hf,L,h5,hl⟩:=h
   have hg:=World.block_lt_of_cell? w _ h0
   exact ⟨(q.cell (p:=⟨g,off,none⟩) hg).trans h0,(q.cell (p:=⟨g,off+1,none⟩) hg).trans h1,(q.cell (p:=⟨g,off+2,none⟩) hg).trans h2,(q.cell (p:=⟨g,off+3,none⟩) hg).trans h3,
    (q.cell (p:=⟨g,off+4,none⟩) hg).trans h4,hf,L,(q.cell (p:=⟨g,off+5,none⟩) hg).trans h5,Held.below l hl q⟩
theorem Held.below {w w':World} {L:Value}:(l:List Val)→Held w L l→Below w.heap.size w w'→Held w' L l
 | [],h,_=>by
   unfold Held at h ⊢
   exact h
 | v::r,h,q=>by
   unfold Held at h ⊢
   obtain ⟨g,off,cap,e,hv,hr⟩:=h
   exact ⟨g,off,cap,e,zay.below v hv q,zar.below r hr q⟩
theorem zar.below {w w':World} {g off:Nat}:(l:List Val)→zar w g off l→Below w.heap.size w w'→zar w' g off l
 | [],_,_=>by
   unfold zar
   trivial
 | v::r,h,q=>by
   unfold zar at h ⊢
   exact ⟨zay.below v h.1 q,zar.below r h.2 q⟩
end
mutual
def mayP:Val→Nat→Bool
 | .mk k b n t x l,d=>zbg k b n t x l.length (decide (l.length≤4096) && decide (d+1≤60) && zdv l (d+1))
def zdv:List Val→Nat→Bool
 | [],_=>true
 | v::r,d=>mayP v d && zdv r d
end
theorem zcy {w:World} {g off:Nat} {a b c d e f:Value} (h0:w.cell? ⟨g,off,none⟩=some a) (h1:w.cell? ⟨g,off+1,none⟩=some b) (h2:w.cell? ⟨g,off+2,none⟩=some c)
 (h3:w.cell? ⟨g,off+3,none⟩=some d) (h4:w.cell? ⟨g,off+4,none⟩=some e) (h5:w.cell? ⟨g,off+5,none⟩=some f):w.rangeAt g off [a,b,c,d,e,f]:=by
 intro j v hv
 match j,hv with
 | 0,e=>cases e;exact h0
 | 1,e=>cases e;exact h1
 | 2,e=>cases e;exact h2
 | 3,e=>cases e;exact h3
 | 4,e=>cases e;exact h4
 | 5,e=>cases e;exact h5
 | j+6,e=>simp at e
theorem zax {ops:Array Oper} {rest:List Oper} {o:Oper} {a:Act} {w:World} {Q:Exit→Act→World→Prop} (y:Operand) (g off:Nat) (k:Int) (b:Bool) (n:Int) (t x:ByteArray) (L:Value)
 (h0:w.cell? ⟨g,off,none⟩=some (.int .i64 k)) (h1:w.cell? ⟨g,off+1,none⟩=some (.bool b)) (h2:w.cell? ⟨g,off+2,none⟩=some (.int .i64 n))
 (h3:w.cell? ⟨g,off+3,none⟩=some (.string t)) (h4:w.cell? ⟨g,off+4,none⟩=some (.string x)) (h5:w.cell? ⟨g,off+5,none⟩=some L)
 (hgd:o.guard=none) (ho:o.op=.load 39 y) (hx:a.eval y=.pointer (some ⟨g,off,none⟩))
 (h:wpList Tryz.prog ops Q rest (a.put o.dst (.agg #[.int .i64 k,.bool b,.int .i64 n,.string t,.string x,L])) w):wpList Tryz.prog ops Q (o::rest) a w:=
 wpList_load_mid hgd 39 y ho g off hx [.int .i64 k,.bool b,.int .i64 n,.string t,.string x,L] _ (zcy h0 h1 h2 h3 h4 h5) Tryz.underlying39 rfl zas h
theorem zar.at_ {w:World} {g:Nat}:(l:List Val)→(off:Nat)→zar w g off l→∀ (i:Nat) (h:i < l.length),zay w g (off+i*6) l[i]
 | [],_,_,i,h=>absurd h (by simp)
 | v::r,off,hh,i,h=>by
   unfold zar at hh
   match i,h with
   | 0,_=>rw [Nat.zero_mul];exact hh.1
   | i+1,h=>
     have:=zar.at_ r (off+6) hh.2 i (by simpa using h)
     rw [show off+(i+1)*6=off+6+i*6 by omega]
     exact this
theorem zmq:(l:List Val)→(d:Nat)→∀ (i:Nat) (h:i < l.length),mayP l[i] d=false→zdv l d=false
 | [],_,i,h,_=>absurd h (by simp)
 | v::r,d,i,h,e=>by
   unfold zdv
   match i,h with
   | 0,_=>rw [show mayP v d=false from e];rfl
   | i+1,h=>rw [zmq r d i (by simpa using h) e,Bool.and_false]
theorem zkd:(l:List Val)→(d:Nat)→(∀ (i:Nat) (h:i < l.length),mayP l[i] d=true)→zdv l d=true
 | [],_,_=>by unfold zdv;rfl
 | v::r,d,e=>by
   unfold zdv
   rw [show mayP v d=true from e 0 (by simp),zkd r d fun i h=>e (i+1) (by simpa using h)]
   rfl
def zke (v:Val) (d:Nat):Prop:=∀ (W:World) (k:Int) (b:Bool) (n:Int) (t x:ByteArray) (l:List Val) (L:Value),v=.mk k b n t x l→Gd W→t.size≤2097152→x.size≤2097152→Held W L l→
 Calls Tryz.prog 86 #[.agg #[.int .i64 k,.bool b,.int .i64 n,.string t,.string x,L],.int .i64 d] W fun e w'=>e=.returned (.bool (mayP v d))∧Low W.heap.size W w'
theorem zwa (l:List Val) (g off cap d:Nat) (w:World) (hG:Gd w) (hl:zar w g off l) (h1:l.length≤4096) (h2:d≤60) (each:∀ v∈l,zke v d):
 Calls Tryz.prog 111 #[.slice (some ⟨g,off,none⟩) l.length cap,.int .i64 d] w fun e w'=>e=.returned (.bool (zdv l d))∧Low w.heap.size w w':=by
 have a1:(l.length:Int)≤4096:=by omega
 have a2:(d:Int)≤60:=by omega
 have HH:=Lib.hid hl
 have HE:=Lib.hid each
 clear hl each
 go_enter Tryz.func111,Tryz.ntmps111
 go_wp2_with fail
 go_loopw [16] (fun i wr=>∃ j:Nat,j≤l.length∧i=.int .i64 j∧Low w.heap.size w wr∧∀ (i:Nat) (h:i < l.length),i < j→mayP l[i] d=true) (fun i _=>l.length - (intOf i).toNat)
 case atStart=>exact ⟨0,Nat.zero_le _,rfl,Low.refl _ _,fun _ _ h=>absurd h (by omega)⟩
 case round=>
  obtain ⟨j,hj,rfl,hb,hall⟩:=hrel
  have HA:=Lib.hid hall
  clear hall
  by_cases hlt:j < l.length
  ·have ho:=(zar.at_ l off HH.out j hlt).below _ hb.is
   have hev:=HE.out l[j] (List.getElem_mem hlt)
   obtain ⟨k,b,n,t,x,q,ev⟩:∃ k b n t x q,l[j]=Val.mk k b n t x q:=by cases l[j] with | mk k b n t x q=>exact ⟨k,b,n,t,x,q,rfl⟩
   rw [ev] at ho
   unfold zay at ho
   obtain ⟨c0,c1,c2,c3,c4,hf,L,c5,hL⟩:=ho
   have ht:=hf.ht
   have hx:=hf.hx
   clear hf
   obtain ⟨p,len,cp,rfl⟩:∃ p len cp,L=.slice p len cp:=by
    cases q with
    | nil=>unfold Held at hL;obtain ⟨p,cp,e⟩:=hL;exact ⟨p,0,cp,e⟩
    | cons v r=>unfold Held at hL;obtain ⟨g',off',cp,e,_⟩:=hL;exact ⟨_,_,_,e⟩
   have gr:=hG.below hb.is
   cases hr:mayP l[j] d with
   | true=>
     have hc:=(hev (wr.alloc (.cells #[.int .i64 k,.bool b,.int .i64 n,.string t,.string x,.slice p len cp] 39)) k b n t x q (.slice p len cp) ev (gr.alloc _) ht hx (Held.below q hL (low1 _ _).is))
     rw [hr] at hc
     have hs:w.heap.size≤wr.heap.size:=hb.size
     have l0:Six (wr.alloc (.cells #[.int .i64 k,.bool b,.int .i64 n,.string t,.string x,.slice p len cp] 39)) wr.heap.size k b n t x p len cp:=zaf _ rfl
     have b0:Low w.heap.size w (wr.alloc (.cells #[.int .i64 k,.bool b,.int .i64 n,.string t,.string x,.slice p len cp] 39)):=hb.alloc hs _
     have z0:w.heap.size≤(wr.alloc (.cells #[.int .i64 k,.bool b,.int .i64 n,.string t,.string x,.slice p len cp] 39)).heap.size:=by have:=l0.lt;omega
     go_wp2_with (first
      |((with_reducible refine zax (.tmp 18) g (off+j*6) k b n t x (.slice p len cp) c0 c1 c2 c3 c4 c5 ?_ ?_ ?_ ?_);rfl;rfl;rfl)
      |((with_reducible refine zaa (.tmp 6) wr.heap.size l0 ?_ ?_ ?_ ?_);rfl;rfl;rfl)
      |(go_at_call 86;(with_reducible refine hc.mono ?_);rintro e w3 ⟨rfl,hb3⟩;have b3:=zad b0 hb3 z0))
     go_roundw
     case rel=>
      refine ⟨j+1,by omega,by go_num,b3,fun i hi hlt'=>?_⟩
      by_cases e:i=j
      ·subst e;exact hr
      ·exact HA.out i hi (by omega)
     case measure=>simp [intOf];omega
   | false=>
     have hc:=(hev (wr.alloc (.cells #[.int .i64 k,.bool b,.int .i64 n,.string t,.string x,.slice p len cp] 39)) k b n t x q (.slice p len cp) ev (gr.alloc _) ht hx (Held.below q hL (low1 _ _).is))
     rw [hr] at hc
     have hs:w.heap.size≤wr.heap.size:=hb.size
     have l0:Six (wr.alloc (.cells #[.int .i64 k,.bool b,.int .i64 n,.string t,.string x,.slice p len cp] 39)) wr.heap.size k b n t x p len cp:=zaf _ rfl
     have b0:Low w.heap.size w (wr.alloc (.cells #[.int .i64 k,.bool b,.int .i64 n,.string t,.string x,.slice p len cp] 39)):=hb.alloc hs _
     have z0:w.heap.size≤(wr.alloc (.cells #[.int .i64 k,.bool b,.int .i64 n,.string t,.string x,.slice p len cp] 39)).heap.size:=by have:=l0.lt;omega
     go_wp2_with (first
      |((with_reducible refine zax (.tmp 18) g (off+j*6) k b n t x (.slice p len cp) c0 c1 c2 c3 c4 c5 ?_ ?_ ?_ ?_);rfl;rfl;rfl)
      |((with_reducible refine zaa (.tmp 6) wr.heap.size l0 ?_ ?_ ?_ ?_);rfl;rfl;rfl)
      |(go_at_call 86;(with_reducible refine hc.mono ?_);rintro e w3 ⟨rfl,hb3⟩;have b3:=zad b0 hb3 z0))
     go_ret
     exact ⟨by rw [zmq l d j hlt hr];rfl,b3⟩
  ·go_wp2_with fail
   go_ret
   exact ⟨by rw [zkd l d fun i h=>HA.out i h (by omega)];rfl,hb⟩
theorem zdm {W:World} {L:Value} {l:List Val} (h:Held W L l):∃ p cap,L=.slice p l.length cap:=by
 cases l with
 | nil=>unfold Held at h;exact h
 | cons v r=>unfold Held at h;obtain ⟨g,off,cap,e,_⟩:=h;exact ⟨_,cap,e⟩
theorem allBig (p:Option Addr) (len cap:Nat) (d:Int) (w:World) (h:(4096:Int) < len):
 Calls Tryz.prog 111 #[.slice p len cap,.int .i64 d] w fun e w'=>e=.returned (.bool false)∧Low w.heap.size w w':=by
 go_enter Tryz.func111,Tryz.ntmps111
 go_wp2_with fail
 go_ret
 exact ⟨rfl,Low.refl _ _⟩
theorem allDeep (p:Option Addr) (len cap:Nat) (d:Int) (w:World) (h:¬ (4096:Int) < len) (h2:60 < d):
 Calls Tryz.prog 111 #[.slice p len cap,.int .i64 d] w fun e w'=>e=.returned (.bool false)∧Low w.heap.size w w':=by
 go_enter Tryz.func111,Tryz.ntmps111
 go_wp2_with fail
 go_ret
 exact ⟨rfl,Low.refl _ _⟩
theorem allNone (p:Option Addr) (cap:Nat) (d:Int) (w:World) (h2:¬ 60 < d):
 Calls Tryz.prog 111 #[.slice p 0 cap,.int .i64 d] w fun e w'=>e=.returned (.bool true)∧Low w.heap.size w w':=by
 go_enter Tryz.func111,Tryz.ntmps111
 go_wp2_with fail
 go_loopw [16] (fun i wr=>i=.int .i64 0∧wr=w) (fun _ _=>0)
 case atStart=>exact ⟨rfl,rfl⟩
 case round=>
  obtain ⟨rfl,rfl⟩:=hrel
  go_wp2_with fail
  go_ret
  exact ⟨rfl,Low.refl _ _⟩
theorem allAny (l:List Val) (L:Value) (d:Nat) (w:World) (hG:Gd w) (hl:Held w L l) (each:d≤60→∀ v∈l,zke v d):
 Calls Tryz.prog 111 #[L,.int .i64 d] w fun e w'=>e=.returned (.bool (decide (l.length≤4096) && decide (d≤60) && zdv l d))∧Low w.heap.size w w':=by
 obtain ⟨p,cap,rfl⟩:=zdm hl
 by_cases h1:l.length≤4096
 ·rw [decide_eq_true h1,Bool.true_and]
  by_cases h2:d≤60
  ·rw [decide_eq_true h2,Bool.true_and]
   cases l with
   | nil=>
     unfold zdv
     exact allNone p cap d w (by omega)
   | cons v r=>
     unfold Held at hl
     obtain ⟨g,off,cap',e,hv,hr⟩:=hl
     cases e
     refine zwa (v::r) g off cap d w hG ?_ h1 h2 (each h2)
     unfold zar
     exact ⟨hv,hr⟩
  ·rw [decide_eq_false h2,Bool.false_and]
   exact allDeep p _ cap d w (by omega) (by omega)
 ·rw [decide_eq_false h1,Bool.false_and,Bool.false_and]
  exact allBig p _ cap d w (by omega)
theorem zlt (d:Nat) (hd:d≤60) (next:d+1≤60→∀ v,zke v (d+1)) (v:Val):zke v d:=by
 intro W k b n t x l L e hG ht hx hL
 subst e
 obtain ⟨p,cap,rfl⟩:=zdm hL
 unfold mayP
 refine mayBeOf k b n t x p l.length cap d W _ hG (by omega) (by omega) (by omega) (by omega) fun _ W' hb=>?_
 have:=allAny l _ (d+1) W' (hG.below hb.is) (Held.below l hL hb.is) fun h v _=>next h v
 simpa using this
theorem zqw:∀ (m d:Nat),m+d=60→∀ v,zke v d
 | 0,d,e,v=>zlt d (by omega) (fun h=>absurd h (by omega)) v
 | m+1,d,e,v=>zlt d (by omega) (fun _=>zqw m (d+1) (by omega)) v
theorem zmr (v:Val) (k:Int) (b:Bool) (n:Int) (t x:ByteArray) (l:List Val) (L:Value) (W:World) (e:v=.mk k b n t x l) (hG:Gd W) (ht:t.size≤2097152) (hx:x.size≤2097152) (hL:Held W L l):
 Calls Tryz.prog 48 #[.agg #[.int .i64 k,.bool b,.int .i64 n,.string t,.string x,L]] W fun e w'=>e=.returned (.bool (mayP v 0))∧Low W.heap.size W w':=by
 obtain ⟨p,cap,rfl⟩:=zdm hL
 have l0:Six (W.alloc (.cells #[.int .i64 k,.bool b,.int .i64 n,.string t,.string x,.slice p l.length cap] 39)) W.heap.size k b n t x p l.length cap:=zaf _ rfl
 have b0:=low1 W (.cells #[.int .i64 k,.bool b,.int .i64 n,.string t,.string x,.slice p l.length cap] 39)
 have hc:Calls Tryz.prog 86 #[.agg #[.int .i64 k,.bool b,.int .i64 n,.string t,.string x,.slice p l.length cap],.int .i64 0] (W.alloc (.cells #[.int .i64 k,.bool b,.int .i64 n,.string t,.string x,.slice p l.length cap] 39)) _:=
  zqw 60 0 rfl v _ k b n t x l _ e (hG.alloc _) ht hx (Held.below l hL b0.is)
 go_enter Tryz.func48,Tryz.ntmps48
 go_wp2_with (first
  |((with_reducible refine zaa (.tmp 1) W.heap.size l0 ?_ ?_ ?_ ?_);rfl;rfl;rfl)
  |(go_at_call 86;(with_reducible refine hc.mono ?_);rintro e w' ⟨rfl,hb⟩;have b3:=zad b0 hb (Nat.le_of_lt l0.lt)))
 go_ret
 exact ⟨by first | rfl |(subst e;rfl),b3⟩
theorem zxw (c d:Array Value) (n m:Bool) (xs ys:Nat→Nat) (hc:zbz c n xs) (hd:zbz d m ys) (w:World):
 Calls Tryz.prog 214 #[.agg c,.agg d] w fun e w'=>e=.returned (.int .i64 (cmpI (wval xs) (wval ys)))∧Low w.heap.size w w':=by
 go_enter Tryz.func214,Tryz.ntmps214
 go_wp2
 go_loopw [5] (fun i wr=>∃ k:Int,-1≤k∧k≤15∧i=.int .i64 k∧(∀ j:Nat,k < j→j < 16→xs j=ys j)∧wr.heap[w.heap.size]?=some (.cells c 229)∧wr.heap[w.heap.size+1]?=some (.cells d 229)∧Low w.heap.size w wr) (fun i _=>(intOf i+1).toNat)
 case atStart=>
  refine ⟨15,by omega,by omega,rfl,fun j a b=>by omega,?_,?_,?_⟩
  ·rw [Below.heap_alloc _ _ _ (by simp)];exact zah _ _ rfl
  ·exact zah _ _ (by simp)
  ·exact ((Low.refl _ _).alloc (Nat.le_refl _) _).alloc (by simp) _
 case round=>
  obtain ⟨k,hk1,hk2,rfl,heq,hb1,hb2,hbel⟩:=hrel
  have HE:=Lib.hid heq
  clear heq
  have B1:=Lib.hid hb1
  have B2:=Lib.hid hb2
  clear hb1 hb2
  by_cases hk:0≤k
  ·obtain ⟨k,rfl⟩:=Int.eq_ofNat_of_zero_le hk
   have hx:wr.cell? ⟨w.heap.size,1+k,none⟩=some (.int .u32 (xs k)):=zab B1.out _ (hc.word k (by omega))
   have hy:wr.cell? ⟨w.heap.size+1,1+k,none⟩=some (.int .u32 (ys k)):=zab B2.out _ (hd.word k (by omega))
   have hkk:(k:Int) < 16:=by omega
   rcases Nat.lt_trichotomy (xs k) (ys k) with h | h | h
   ·go_wp2
    go_quiet (fail)
    go_wp2
    go_ret
    refine ⟨?_,zbx hbel _⟩
    rw [cmpI_lt (zll xs ys hc.lt k (by omega) (fun j a b=>HE.out j (by omega) b) h)];rfl
   ·have HH:=Lib.hid h
    clear h
    have h1:decide (xs k < ys k)=false:=by have:=HH.out;simp;omega
    have h2:decide (ys k < xs k)=false:=by have:=HH.out;simp;omega
    go_wp2
    go_quiet (fail)
    go_wp2
    go_quiet (fail)
    go_wp2
    go_roundw
    case rel=>exact ⟨_,by omega,by omega,rfl,fun j a b=>(if e:j=k then by rw [e];exact HH.out else HE.out j (by omega) b),B1.out,B2.out,zbx hbel _⟩
    case measure=>simp [intOf]
   ·go_wp2
    go_quiet (fail)
    go_wp2
    go_quiet (fail)
    go_wp2
    go_ret
    refine ⟨?_,zbx (zbx hbel _) _⟩
    rw [cmpI_gt (zll ys xs hd.lt k (by omega) (fun j a b=>(HE.out j (by omega) b).symm) h)];rfl
  ·go_wp2
   go_ret
   refine ⟨?_,hbel⟩
   rw [cmpI_eq (zr0 xs ys fun j hj=>HE.out j (by omega) hj)];rfl
def cmpS (n:Bool) (x:Nat) (m:Bool) (y:Nat):Int:=
 if n && !m then -1 else if m && !n then 1 else if n then cmpI y x else cmpI x y
def valD:List UInt8→Nat
 | []=>0
 | c::r=>(c.toNat - 48)*10 ^ r.length+valD r
theorem zbv (l r:List UInt8):valD (l++r)=valD l*10 ^ r.length+valD r:=by
 induction l with
 | nil=>simp [valD]
 | cons c l ih=>
   simp only [List.cons_append,valD,ih,List.length_append,Nat.pow_add,Nat.add_mul]
   rw [← Nat.mul_assoc];omega
theorem zlu {c:UInt8} (h:za1 c=true):48≤c.toNat∧c.toNat≤57:=by
 have:=(zca c).1 h;omega
theorem zhm (l:List UInt8) (h:l.all za1=true):valD l < 10 ^ l.length:=by
 induction l with
 | nil=>simp [valD]
 | cons c l ih=>
   simp only [List.all_cons,Bool.and_eq_true] at h
   have:=zlu h.1
   have ih:=ih h.2
   have:(c.toNat - 48)*10 ^ l.length≤9*10 ^ l.length:=Nat.mul_le_mul_right _ (by omega)
   simp only [valD,List.length_cons,Nat.pow_succ]
   omega
theorem zdn:∀ (a b:List UInt8),a.all za1=true→b.all za1=true→a.length=b.length→valD a=valD b→a=b
 | [],[],_,_,_,_=>rfl
 | [],_::_,_,_,h,_=>by simp at h
 | _::_,[],_,_,h,_=>by simp at h
 | c::a,d::b,ha,hb,hl,hv=>by
   simp only [List.all_cons,Bool.and_eq_true] at ha hb
   have hl':a.length=b.length:=by simpa using hl
   have l1:=zhm a ha.2
   have l2:=zhm b hb.2
   have c1:=zlu ha.1
   have c2:=zlu hb.1
   simp only [valD] at hv
   rw [← hl'] at hv l2
   have key:c.toNat - 48=d.toNat - 48∧valD a=valD b:=by
    generalize c.toNat - 48=p at*
    generalize d.toNat - 48=q at*
    generalize 10 ^ a.length=B at*
    rcases Nat.lt_trichotomy p q with h | h | h
    ·have:(p+1)*B≤q*B:=Nat.mul_le_mul_right _ h
     rw [Nat.add_mul,Nat.one_mul] at this
     omega
    ·subst h;exact ⟨rfl,by omega⟩
    ·have:(q+1)*B≤p*B:=Nat.mul_le_mul_right _ h
     rw [Nat.add_mul,Nat.one_mul] at this
     omega
   have:c=d:=UInt8.toNat_inj.1 (by omega)
   rw [this,zdn a b ha.2 hb.2 hl' key.2]
def zto (N p:Nat):UInt8:=UInt8.ofNat (48+N / 10 ^ p % 10)
def ze9 (N lo:Nat):Nat→List UInt8
 | 0=>[]
 | n+1=>zto N (lo+n)::ze9 N lo n
theorem zkf (N p:Nat):(zto N p).toNat=48+N / 10 ^ p % 10:=by
 unfold zto
 have:N / 10 ^ p % 10 < 10:=Nat.mod_lt _ (by omega)
 rw [UInt8.toNat_ofNat']
 omega
theorem ztp (N p:Nat):za1 (zto N p)=true:=by
 rw [zca,zkf]
 have:N / 10 ^ p % 10 < 10:=Nat.mod_lt _ (by omega)
 omega
theorem zhn (N lo n:Nat):(ze9 N lo n).length=n:=by
 induction n with
 | zero=>rfl
 | succ n ih=>simp [ze9,ih]
theorem ze0 (N lo n:Nat):(ze9 N lo n).all za1=true:=by
 induction n with
 | zero=>rfl
 | succ n ih=>simp [ze9,ih,ztp]
theorem ze1 (N lo n:Nat):valD (ze9 N lo n)=N / 10 ^ lo % 10 ^ n:=by
 induction n with
 | zero=>simp [ze9,valD,Nat.mod_one]
 | succ n ih=>
   simp only [ze9,valD,ih,zhn,zkf]
   rw [Nat.pow_add,← Nat.div_div_eq_div_mul,Nat.add_sub_cancel_left,Nat.pow_succ]
   generalize N / 10 ^ lo=M
   rw [Nat.mod_mul,Nat.mul_comm (M / 10 ^ n % 10)]
   omega
theorem zkg (k:Nat):(List.replicate k (48:UInt8)).all za1=true:=by
 induction k with
 | zero=>rfl
 | succ k ih=>rw [List.replicate_succ,List.all_cons,ih];rfl
theorem zfe (k:Nat):valD (List.replicate k (48:UInt8))=0:=by
 induction k with
 | zero=>rfl
 | succ k ih=>rw [List.replicate_succ];simp [valD,ih]
theorem zek (k:Nat) (l:List UInt8):Lib.trimLeftB (List.replicate k 48++l) 48=Lib.trimLeftB l 48:=by
 unfold Lib.trimLeftB
 induction k with
 | zero=>simp
 | succ k ih=>rw [List.replicate_succ,List.cons_append,List.dropWhile_cons,if_pos (by simp)];exact ih
theorem zel (k:Nat) (l:List UInt8):Lib.trimRightB (l++List.replicate k 48) 48=Lib.trimRightB l 48:=by
 have:=zek k l.reverse
 unfold Lib.trimLeftB at this
 unfold Lib.trimRightB
 rw [List.reverse_append,List.reverse_replicate,this]
def wrN (neg:Bool) (N:Nat):Option (List UInt8):=wr neg (ze9 N 54 90) (ze9 N 0 54)
theorem ztq (a b:List UInt8) (ha:a.all za1=true) (hb:b.all za1=true) (hv:valD a=valD b):Lib.trimLeftB a 48=Lib.trimLeftB b 48:=by
 rcases Nat.le_total a.length b.length with h | h
 ·rw [← zek (b.length - a.length) a]
  congr 1
  exact zdn _ _ (by rw [List.all_append,zkg,ha];rfl) hb (by simp;omega) (by rw [zbv,zfe];omega)
 ·rw [← zek (a.length - b.length) b]
  congr 1
  exact zdn _ _ ha (by rw [List.all_append,zkg,hb];rfl) (by simp;omega) (by rw [zbv,zfe];omega)
theorem ztr (a b:List UInt8) (ha:a.all za1=true) (hb:b.all za1=true) (n:Nat) (la:a.length≤n) (lb:b.length≤n) (hv:valD a*10 ^ (n - a.length)=valD b*10 ^ (n - b.length)):Lib.trimRightB a 48=Lib.trimRightB b 48:=by
 rw [← zel (n - a.length) a,← zel (n - b.length) b]
 congr 1
 exact zdn _ _ (by rw [List.all_append,zkg,ha];rfl) (by rw [List.all_append,zkg,hb];rfl) (by simp;omega) (by rw [zbv,zbv,zfe,zfe,List.length_replicate,List.length_replicate];omega)
theorem zwb (neg:Bool) {a a' b b':List UInt8} (h:Lib.trimLeftB a 48=Lib.trimLeftB a' 48) (k:Lib.trimRightB b 48=Lib.trimRightB b' 48):wr neg a b=wr neg a' b':=by
 unfold wr;rw [h,k]
theorem wr_wrN (neg:Bool) (a b:List UInt8) (ha:a.all za1=true) (hb:b.all za1=true) (hv:valD a < 10 ^ 90) (lb:b.length≤54):
 wr neg a b=wrN neg (valD a*10 ^ 54+valD b*10 ^ (54 - b.length)):=by
 have hlt:valD b*10 ^ (54 - b.length) < 10 ^ 54:=by
  have h1:=zhm b hb
  have h2:10 ^ b.length*10 ^ (54 - b.length)=10 ^ 54:=by rw [← Nat.pow_add];congr 1;omega
  have h3:valD b*10 ^ (54 - b.length) < 10 ^ b.length*10 ^ (54 - b.length):=Nat.mul_lt_mul_of_pos_right h1 (Nat.pow_pos (by omega))
  omega
 unfold wrN
 refine zwb neg (ztq _ _ ha (ze0 _ _ _) ?_) (ztr _ _ hb (ze0 _ _ _) 54 lb (by rw [zhn];omega) ?_)
 ·rw [ze1,Nat.mul_comm,Nat.mul_add_div (Nat.pow_pos (by omega)),Nat.div_eq_of_lt hlt,Nat.add_zero,Nat.mod_eq_of_lt hv]
 ·rw [ze1,zhn,Nat.sub_self,Nat.pow_zero,Nat.mul_one,Nat.div_one,Nat.add_comm,Nat.add_mul_mod_self_right,Nat.mod_eq_of_lt hlt]
theorem zts:Lib.cut [] [46]=([],[],false):=by simp [Lib.cut,Lib.index]
theorem cut_hit (r:List UInt8):Lib.cut (46::r) [46]=([],r,true):=by simp [Lib.cut,Lib.index]
theorem zms (c:UInt8) (r:List UInt8) (h:c≠46):Lib.cut (c::r) [46]=(c::(Lib.cut r [46]).1,(Lib.cut r [46]).2.1,(Lib.cut r [46]).2.2):=by
 have hp:[46].isPrefixOf (c::r)=false:=by simp [List.isPrefixOf,beq_eq_false_iff_ne.2 (fun e:(46:UInt8)=c=>h e.symm)]
 have hge:=Lib.index_ge r [46]
 unfold Lib.cut
 rw [Lib.index,hp]
 by_cases h0:0≤Lib.index r [46]
 ·have e1:(Lib.index r [46] == -1)=false:=by simp;omega
  simp only [Bool.false_eq_true,if_false,e1]
  rw [if_pos h0,if_pos (by omega)]
  have e2:(Lib.index r [46]+1).toNat=(Lib.index r [46]).toNat+1:=by omega
  rw [e2]
  simp
 ·have e1:Lib.index r [46]=-1:=by omega
  rw [e1]
  simp
theorem zmt (d e:List UInt8) (h:d.all za1=true):Lib.cut (d++46::e) [46]=(d,e,true):=by
 induction d with
 | nil=>exact cut_hit e
 | cons c d ih=>
   simp only [List.all_cons,Bool.and_eq_true] at h
   rw [List.cons_append,zms _ _ (by rintro rfl;exact absurd h.1 (by decide)),ih h.2]
theorem ztt {l:List UInt8} (h:l.all za1=true) (hne:l≠[]):digs l=true:=by
 unfold digs;rw [h];cases l with
 | nil=>exact absurd rfl hne
 | cons _ _=>rfl
theorem sgn_dig {x r:List UInt8} (h:x.all za1=true) (hne:x≠[]):sgn (x++r)=(false,x++r):=by
 cases x with
 | nil=>exact absurd rfl hne
 | cons c x=>
   simp only [List.all_cons,Bool.and_eq_true] at h
   have h45:c≠45:=by rintro rfl;exact absurd h.1 (by decide)
   have h43:c≠43:=by rintro rfl;exact absurd h.1 (by decide)
   simp [sgn,h45,h43]
theorem zem (n:Bool) (x y:List UInt8) (hx:x.all za1=true) (hx0:x≠[]) (hy:y.all za1=true) (hy0:y≠[]):
 zcg ((if n then [45] else [])++(x++46::y))=some (n,x,y):=by
 have e:sgn ((if n then [45] else [])++(x++46::y))=(n,x++46::y):=by
  cases n
  ·show sgn ([]++(x++46::y))=_
   rw [List.nil_append]
   exact sgn_dig hx hx0
  ·simp [sgn]
 unfold zcg
 rw [e]
 simp only [zmt x y hx,ztt hx hx0,ztt hy hy0]
 rfl
theorem zmu {x:List UInt8} (h:x.all za1=true):(orN x).all za1=true:=by
 unfold orN;split
 ·rfl
 ·exact h
theorem zxx (x:List UInt8):orN x≠[]:=by
 unfold orN;cases x <;> simp
theorem ztu {x:List UInt8} {n:Nat} (h:x.length≤n) (hn:1≤n):(orN x).length≤n:=by
 unfold orN;split
 ·simpa using hn
 ·exact h
theorem orN_val (x:List UInt8):valD (orN x)=valD x:=by
 cases x <;> simp [orN,valD]
theorem zdw (l:List UInt8):∃ k,l=List.replicate k 48++Lib.trimLeftB l 48:=by
 unfold Lib.trimLeftB
 induction l with
 | nil=>exact ⟨0,rfl⟩
 | cons c l ih=>
   by_cases h:c=48
   ·obtain ⟨k,hk⟩:=ih
    refine ⟨k+1,?_⟩
    rw [List.dropWhile_cons,if_pos (by simp [h]),List.replicate_succ,List.cons_append,← hk,h]
   ·exact ⟨0,by rw [List.dropWhile_cons,if_neg (by simp [h])];rfl⟩
theorem zdx (l:List UInt8):∃ k,l=Lib.trimRightB l 48++List.replicate k 48:=by
 obtain ⟨k,hk⟩:=zdw l.reverse
 refine ⟨k,?_⟩
 unfold Lib.trimLeftB at hk
 unfold Lib.trimRightB
 have:=congrArg List.reverse hk
 rw [List.reverse_reverse,List.reverse_append,List.reverse_replicate] at this
 exact this
theorem zkh {l:List UInt8} (h:l.all za1=true):(Lib.trimLeftB l 48).all za1=true:=by
 obtain ⟨k,hk⟩:=zdw l
 rw [hk,List.all_append,Bool.and_eq_true] at h
 exact h.2
theorem zn1 {l:List UInt8} (h:l.all za1=true):(Lib.trimRightB l 48).all za1=true:=by
 obtain ⟨k,hk⟩:=zdx l
 rw [hk,List.all_append,Bool.and_eq_true] at h
 exact h.1
theorem zho (l:List UInt8):valD (Lib.trimLeftB l 48)=valD l:=by
 obtain ⟨k,hk⟩:=zdw l
 have:=congrArg valD hk
 rw [zbv,zfe] at this
 omega
theorem zlv (l:List UInt8) {n:Nat} (h:l.length≤n):valD (Lib.trimRightB l 48)*10 ^ (n - (Lib.trimRightB l 48).length)=valD l*10 ^ (n - l.length):=by
 obtain ⟨k,hk⟩:=zdx l
 generalize Lib.trimRightB l 48=t at*
 subst hk
 rw [zbv,zfe,List.length_append,List.length_replicate,Nat.add_zero,Nat.mul_assoc,← Nat.pow_add]
 simp only [List.length_append,List.length_replicate] at h
 congr 2
 omega
theorem zsh (l:List UInt8):Lib.trimLeftB (orN (Lib.trimLeftB l 48)) 48=Lib.trimLeftB l 48:=by
 obtain ⟨k,hk⟩:=zdw l
 have e:Lib.trimLeftB l 48=Lib.trimLeftB (Lib.trimLeftB l 48) 48:=by
  have:=congrArg (Lib.trimLeftB · 48) hk
  simp only [zek] at this
  exact this
 unfold orN
 split
 ·rename_i h
  have:Lib.trimLeftB l 48=[]:=by simpa using h
  rw [this];rfl
 ·exact e.symm
theorem zsi (l:List UInt8):Lib.trimRightB (orN (Lib.trimRightB l 48)) 48=Lib.trimRightB l 48:=by
 obtain ⟨k,hk⟩:=zdx l
 have e:Lib.trimRightB l 48=Lib.trimRightB (Lib.trimRightB l 48) 48:=by
  have:=congrArg (Lib.trimRightB · 48) hk
  simp only [zel] at this
  exact this
 unfold orN
 split
 ·rename_i h
  have:Lib.trimRightB l 48=[]:=by simpa using h
  rw [this];rfl
 ·exact e.symm
theorem ztv (l:List UInt8):∀ c r,Lib.trimLeftB l 48=c::r→c≠48:=by
 intro c r h e
 have:=List.head?_dropWhile_not (fun x:UInt8=>x == 48) l
 unfold Lib.trimLeftB at h
 rw [h,e] at this
 simp at this
theorem zki {l:List UInt8} (hd:l.all za1=true):Lib.trimLeftB l 48=[]↔valD l=0:=by
 constructor
 ·intro h;rw [← zho,h];rfl
 ·intro h
  cases e:Lib.trimLeftB l 48 with
  | nil=>rfl
  | cons c r=>
    have hc:=ztv l c r e
    have hdd:=zkh hd
    rw [e,List.all_cons,Bool.and_eq_true] at hdd
    have:=zlu hdd.1
    have h2:=zho l
    rw [e,h] at h2
    simp only [valD] at h2
    have hne:c.toNat≠48:=fun h=>hc (UInt8.toNat_inj.1 h)
    have:0 < (c.toNat - 48)*10 ^ r.length:=Nat.mul_pos (by omega) (Nat.pow_pos (by omega))
    omega
theorem zkj {l:List UInt8} (hd:l.all za1=true):Lib.trimRightB l 48=[]↔valD l=0:=by
 constructor
 ·intro h
  have:=zlv l (Nat.le_refl _)
  rw [h] at this
  simpa [valD] using this.symm
 ·intro h
  obtain ⟨k,hk⟩:=zdx l
  have:l=List.replicate l.length 48:=zdn _ _ hd (zkg _) (by simp) (by rw [h,zfe])
  rw [this]
  have e:=zel l.length []
  rw [List.nil_append] at e
  rw [e];rfl
theorem wr_back (neg:Bool) (a b t:List UInt8) (ha:a.all za1=true) (hb:b.all za1=true) (h:wr neg a b=some t):
 ∃ x y,zcg t=some (neg && !(decide (valD a=0) && decide (valD b=0)),x,y)∧x.all za1=true∧y.all za1=true∧x.length≤40∧y.length≤20∧valD x=valD a∧
  (∀ n,b.length≤n→20≤n→valD y*10 ^ (n - y.length)=valD b*10 ^ (n - b.length))∧chk t=true:=by
 have hiff:(Lib.trimLeftB a 48++Lib.trimRightB b 48).isEmpty=(decide (valD a=0) && decide (valD b=0)):=by
  rw [Bool.eq_iff_iff]
  simp only [List.isEmpty_iff,List.append_eq_nil_iff,zki ha,zkj hb,Bool.and_eq_true,decide_eq_true_iff]
 have h0:=h
 unfold wr at h
 simp only at h
 split at h
 ·cases h
 ·rename_i hl
  have hl1:(Lib.trimLeftB a 48).length≤40:=by omega
  have hl2:(Lib.trimRightB b 48).length≤20:=by omega
  rw [hiff,Option.some.injEq] at h
  have hsp:=zem (neg && !(decide (valD a=0) && decide (valD b=0))) (orN (Lib.trimLeftB a 48)) (orN (Lib.trimRightB b 48)) (zmu (zkh ha)) (zxx _) (zmu (zn1 hb)) (zxx _)
  rw [h] at hsp
  refine ⟨_,_,hsp,zmu (zkh ha),zmu (zn1 hb),ztu hl1 (by omega),ztu hl2 (by omega),by rw [orN_val,zho],?_,?_⟩
  ·intro n hn hn2
   rw [← zlv b hn]
   unfold orN
   split
   ·rename_i he
    have:Lib.trimRightB b 48=[]:=by simpa using he
    rw [this]
    simp [valD]
   ·rfl
  ·unfold chk zhk
   rw [hsp]
   simp only [Option.map_some]
   have:wr (neg && !(decide (valD a=0) && decide (valD b=0))) (orN (Lib.trimLeftB a 48)) (orN (Lib.trimRightB b 48))=some t:=by
    unfold wr
    simp only [zsh,zsi]
    rw [if_neg hl,hiff,← h,Bool.and_assoc,Bool.and_self]
   rw [this]
   simp
theorem zn2 (l:List UInt8) (h:chk l=true):∃ n a b,zcg l=some (n,a,b)∧a.all za1=true∧b.all za1=true∧a.length≤40∧b.length≤20∧wr n a b=some l∧
 (n=true→¬ (valD a=0∧valD b=0)):=by
 have h':zhk l=some (some l):=by simpa [chk] using h
 unfold zhk at h'
 cases hs:zcg l with
 | none=>rw [hs] at h';cases h'
 | some x=>
   obtain ⟨n,a,b⟩:=x
   rw [hs] at h'
   simp only [Option.map_some,Option.some.injEq] at h'
   have hd:a.all za1=true∧b.all za1=true:=by
    have hs':=hs
    unfold zcg at hs'
    simp only at hs'
    split at hs'
    ·rename_i hc
     simp only [Option.some.injEq,Prod.mk.injEq] at hs'
     obtain ⟨_,rfl,rfl⟩:=hs'
     rw [Bool.and_eq_true,Bool.or_eq_true] at hc
     refine ⟨?_,?_⟩
     ·have:=hc.1;unfold digs at this;rw [Bool.and_eq_true] at this;exact this.2
     ·rcases hc.2 with h | h
      ·have hf:(Lib.cut (sgn l).2 [46]).2.2=false:=by simpa using h
       have:(Lib.cut (sgn l).2 [46]).2.1=[]:=by
        unfold Lib.cut at hf ⊢
        split at hf
        ·cases hf
        ·rw [if_neg (by assumption)]
       rw [this];rfl
      ·unfold digs at h;rw [Bool.and_eq_true] at h;exact h.2
    ·cases hs'
   obtain ⟨x,y,e1,e2,e3,e4,e5,e6,e7,e8⟩:=wr_back n a b l hd.1 hd.2 h'
   rw [hs,Option.some.injEq,Prod.mk.injEq,Prod.mk.injEq] at e1
   obtain ⟨f1,rfl,rfl⟩:=e1
   refine ⟨n,a,b,rfl,hd.1,hd.2,e4,e5,h',?_⟩
   rintro rfl ⟨g1,g2⟩
   rw [g1,g2] at f1
   simp at f1
def ze8 (a b:List UInt8):Nat:=valD a*10 ^ 54+valD b*10 ^ (54 - b.length)
end Go.Proofs.YtanbgdhmfjgihaaGreatDoor
