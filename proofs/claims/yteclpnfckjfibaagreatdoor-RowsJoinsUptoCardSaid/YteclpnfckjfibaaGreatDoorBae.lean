/- Texts of one kind, one behind the other: each says ahead of itself what it shows. -/
import Derived.Test.YteclpnfckjfibaaGreatDoorBad
import Derived.Deep.MidRow
import Derived.Test.YteclpnfckjfibaaGreatDoorBac
import Derived.Deep.RegionHeld3
import Derived.StillTailTactics
import Derived.Deep.QuietTactic
import Derived.BigQuiet
/- N9 -/
namespace Go.Proofs.YteclpnfckjfibaaGreatDoor
open Go.RowKit
set_option maxRecDepth 4000 in
set_option maxHeartbeats 1600000 in
theorem zun (b:Bool) (n:Int) (t x:ByteArray) (p:Option Addr) (len cap:Nat) (d:Int) (w:World) (hs:x.size≤maxLen) (hn:(t.size:Int)≤1048576) (h:zco x=true):
 Calls Tryz.prog 99 #[.agg #[.int .i64 10,.bool b,.int .i64 n,.string t,.string x,.slice p len cap],.int .i64 d] w fun e w'=>e=.returned (.bool (zb7 b n ⟨#[]⟩ ⟨#[]⟩ len))∧Low w.heap.size w w':=by
 have l0:Six ((w.alloc (.cells #[.int .i64 10,.bool b,.int .i64 n,.string t,.string x,.slice p len cap] 48)).alloc (.cells #[.int .i64 10,.bool b,.int .i64 n,.string t,.string x,.slice p len cap] 48)) w.heap.size 10 b n t x p len cap:=(zak w rfl).alloc _
 have l1:Six ((w.alloc (.cells #[.int .i64 10,.bool b,.int .i64 n,.string t,.string x,.slice p len cap] 48)).alloc (.cells #[.int .i64 10,.bool b,.int .i64 n,.string t,.string x,.slice p len cap] 48)) (w.heap.size+1) 10 b n t x p len cap:=zak _ (by simp)
 have b0:=low2 w (.cells #[.int .i64 10,.bool b,.int .i64 n,.string t,.string x,.slice p len cap] 48) (.cells #[.int .i64 10,.bool b,.int .i64 n,.string t,.string x,.slice p len cap] 48)
 have l00:=zak (k:=10) (b:=b) (n:=n) (t:=t) (x:=x) (p:=p) (len:=len) (cap:=cap) w rfl
 go_enter Tryz.func99,Tryz.ntmps99
 go_wp2_with (first
  |((with_reducible refine zaj (.tmp 2) w.heap.size (by assumption) ?_ ?_ ?_ ?_);rfl;rfl;rfl)
  |((with_reducible refine zav (.tmp 5) (w.heap.size+1) (by assumption) ?_ ?_ ?_ ?_);rfl;rfl;rfl)
  |(go_at_call 156;(with_reducible refine (za5 10 b n t x _ 173 rfl _).mono ?_);rintro e w2 ⟨rfl,hb2⟩;have k2:=l0.below hb2.is;have m2:=l1.below hb2.is;have b2:=za1 b0 hb2 (by have:=l0.lt;omega);have z2:w.heap.size≤w2.heap.size:=by have:=k2.lt;omega
    clear l0 l1 l00 hb2 b0
    have c3:=k2.c3;have c4:=k2.c4)
  |(simp only [zgb,zgc,zgd,zge,zgf,zgg,zgh,zgi,zgj,zgk,zgl,Result.andThen_ok])
  |(go_at_call 158;(with_reducible refine (zrn x _ h _ hs).mono ?_);rintro e w3 ⟨rfl,hb3⟩;have b3:=za1 b2 hb3 z2;have m3:=m2.below hb3.is;have z3:w.heap.size≤w3.heap.size:=(by have:=m3.lt;omega);have e3:=m3.c3;have f3:=m3.free 3;have n3:=m3.set3 ⟨#[]⟩;have e4:=n3.c4;have f4:=n3.free 4;have n4:=n3.set4 ⟨#[]⟩;have y3:w.heap.size≤(w3.setCell ⟨w.heap.size+1,3,none⟩ (.string ⟨#[]⟩)).heap.size:=(by have:=n3.lt;omega);have y4:w.heap.size≤((w3.setCell ⟨w.heap.size+1,3,none⟩ (.string ⟨#[]⟩)).setCell ⟨w.heap.size+1,4,none⟩ (.string ⟨#[]⟩)).heap.size:=(by have:=n4.lt;omega);have b4:=zb9 (o:=4) (zb9 (o:=3) b3 none (.string ⟨#[]⟩) (show w.heap.size≤w.heap.size+1 by omega) z3) none (.string ⟨#[]⟩) (show w.heap.size≤w.heap.size+1 by omega) y3)
  |(go_at_call 161;(with_reducible refine (zdc 10 _ _ _ _ _ _ _ _).mono ?_);rintro e w9 ⟨rfl,hb9⟩;have b9:=za1 b4 hb9 y4))
 go_ret
 exact ⟨rfl,b9⟩
set_option maxRecDepth 4000 in
set_option maxHeartbeats 1600000 in
theorem zxm (b:Bool) (n:Int) (t x:ByteArray) (p:Option Addr) (len cap:Nat) (d:Int) (w:World) (hs:x.size≤maxLen) (hn:(t.size:Int)≤1048576) (h:zco x=false):
 Calls Tryz.prog 99 #[.agg #[.int .i64 10,.bool b,.int .i64 n,.string t,.string x,.slice p len cap],.int .i64 d] w fun e w'=>e=.returned (.bool (false))∧Low w.heap.size w w':=by
 have l0:Six ((w.alloc (.cells #[.int .i64 10,.bool b,.int .i64 n,.string t,.string x,.slice p len cap] 48)).alloc (.cells #[.int .i64 10,.bool b,.int .i64 n,.string t,.string x,.slice p len cap] 48)) w.heap.size 10 b n t x p len cap:=(zak w rfl).alloc _
 have l1:Six ((w.alloc (.cells #[.int .i64 10,.bool b,.int .i64 n,.string t,.string x,.slice p len cap] 48)).alloc (.cells #[.int .i64 10,.bool b,.int .i64 n,.string t,.string x,.slice p len cap] 48)) (w.heap.size+1) 10 b n t x p len cap:=zak _ (by simp)
 have b0:=low2 w (.cells #[.int .i64 10,.bool b,.int .i64 n,.string t,.string x,.slice p len cap] 48) (.cells #[.int .i64 10,.bool b,.int .i64 n,.string t,.string x,.slice p len cap] 48)
 have l00:=zak (k:=10) (b:=b) (n:=n) (t:=t) (x:=x) (p:=p) (len:=len) (cap:=cap) w rfl
 go_enter Tryz.func99,Tryz.ntmps99
 go_wp2_with (first
  |((with_reducible refine zaj (.tmp 2) w.heap.size (by assumption) ?_ ?_ ?_ ?_);rfl;rfl;rfl)
  |((with_reducible refine zav (.tmp 5) (w.heap.size+1) (by assumption) ?_ ?_ ?_ ?_);rfl;rfl;rfl)
  |(go_at_call 156;(with_reducible refine (za5 10 b n t x _ 173 rfl _).mono ?_);rintro e w2 ⟨rfl,hb2⟩;have k2:=l0.below hb2.is;have m2:=l1.below hb2.is;have b2:=za1 b0 hb2 (by have:=l0.lt;omega);have z2:w.heap.size≤w2.heap.size:=by have:=k2.lt;omega
    clear l0 l1 l00 hb2 b0
    have c3:=k2.c3;have c4:=k2.c4)
  |(simp only [zgb,zgc,zgd,zge,zgf,zgg,zgh,zgi,zgj,zgk,zgl,Result.andThen_ok])
  |(go_at_call 158;(with_reducible refine (zrn x _ h _ hs).mono ?_);rintro e w3 ⟨rfl,hb3⟩;have b3:=za1 b2 hb3 z2;have m3:=m2.below hb3.is;have z3:w.heap.size≤w3.heap.size:=(by have:=m3.lt;omega);have e3:=m3.c3;have f3:=m3.free 3;have n3:=m3.set3 ⟨#[]⟩;have e4:=n3.c4;have f4:=n3.free 4;have n4:=n3.set4 ⟨#[]⟩;have y3:w.heap.size≤(w3.setCell ⟨w.heap.size+1,3,none⟩ (.string ⟨#[]⟩)).heap.size:=(by have:=n3.lt;omega);have y4:w.heap.size≤((w3.setCell ⟨w.heap.size+1,3,none⟩ (.string ⟨#[]⟩)).setCell ⟨w.heap.size+1,4,none⟩ (.string ⟨#[]⟩)).heap.size:=(by have:=n4.lt;omega);have b4:=zb9 (o:=4) (zb9 (o:=3) b3 none (.string ⟨#[]⟩) (show w.heap.size≤w.heap.size+1 by omega) z3) none (.string ⟨#[]⟩) (show w.heap.size≤w.heap.size+1 by omega) y3))
 go_ret
 exact ⟨rfl,b4⟩
set_option maxRecDepth 4000 in
set_option maxHeartbeats 1600000 in
theorem zsu (b:Bool) (n:Int) (t x:ByteArray) (p:Option Addr) (len cap:Nat) (d:Int) (w:World) (hn:¬ (t.size:Int)≤1048576):
 Calls Tryz.prog 99 #[.agg #[.int .i64 10,.bool b,.int .i64 n,.string t,.string x,.slice p len cap],.int .i64 d] w fun e w'=>e=.returned (.bool (false))∧Low w.heap.size w w':=by
 have l0:Six ((w.alloc (.cells #[.int .i64 10,.bool b,.int .i64 n,.string t,.string x,.slice p len cap] 48)).alloc (.cells #[.int .i64 10,.bool b,.int .i64 n,.string t,.string x,.slice p len cap] 48)) w.heap.size 10 b n t x p len cap:=(zak w rfl).alloc _
 have l1:Six ((w.alloc (.cells #[.int .i64 10,.bool b,.int .i64 n,.string t,.string x,.slice p len cap] 48)).alloc (.cells #[.int .i64 10,.bool b,.int .i64 n,.string t,.string x,.slice p len cap] 48)) (w.heap.size+1) 10 b n t x p len cap:=zak _ (by simp)
 have b0:=low2 w (.cells #[.int .i64 10,.bool b,.int .i64 n,.string t,.string x,.slice p len cap] 48) (.cells #[.int .i64 10,.bool b,.int .i64 n,.string t,.string x,.slice p len cap] 48)
 have l00:=zak (k:=10) (b:=b) (n:=n) (t:=t) (x:=x) (p:=p) (len:=len) (cap:=cap) w rfl
 go_enter Tryz.func99,Tryz.ntmps99
 go_wp2_with (first
  |((with_reducible refine zaj (.tmp 2) w.heap.size (by assumption) ?_ ?_ ?_ ?_);rfl;rfl;rfl)
  |((with_reducible refine zav (.tmp 5) (w.heap.size+1) (by assumption) ?_ ?_ ?_ ?_);rfl;rfl;rfl)
  |(go_at_call 156;(with_reducible refine (za5 10 b n t x _ 173 rfl _).mono ?_);rintro e w2 ⟨rfl,hb2⟩;have k2:=l0.below hb2.is;have m2:=l1.below hb2.is;have b2:=za1 b0 hb2 (by have:=l0.lt;omega);have z2:w.heap.size≤w2.heap.size:=by have:=k2.lt;omega
    clear l0 l1 l00 hb2 b0
    have c3:=k2.c3;have c4:=k2.c4;have e3:=m2.c3;have f3:=m2.free 3;have n3:=m2.set3 ⟨#[]⟩;have e4:=n3.c4;have f4:=n3.free 4;have n4:=n3.set4 ⟨#[]⟩;have y3:w.heap.size≤(w2.setCell ⟨w.heap.size+1,3,none⟩ (.string ⟨#[]⟩)).heap.size:=(by have:=n3.lt;omega);have y4:w.heap.size≤((w2.setCell ⟨w.heap.size+1,3,none⟩ (.string ⟨#[]⟩)).setCell ⟨w.heap.size+1,4,none⟩ (.string ⟨#[]⟩)).heap.size:=(by have:=n4.lt;omega);have b4:=zb9 (o:=4) (zb9 (o:=3) b2 none (.string ⟨#[]⟩) (show w.heap.size≤w.heap.size+1 by omega) z2) none (.string ⟨#[]⟩) (show w.heap.size≤w.heap.size+1 by omega) y3)
  |(simp only [zgb,zgc,zgd,zge,zgf,zgg,zgh,zgi,zgj,zgk,zgl,Result.andThen_ok]))
 go_ret
 exact ⟨rfl,b4⟩
end Go.Proofs.YteclpnfckjfibaaGreatDoor

/- O1 -/
namespace Go.Proofs.YteclpnfckjfibaaGreatDoor
open Go.RowKit
def zcb (k:Int) (b:Bool) (n:Int) (t x:ByteArray) (len:Nat) (r:Bool):Bool:=
 if k=0 then zb7 b n t x len else if k=1 then zb7 false n t x len else if k=2 then zb7 b 0 t x len
 else if k=3 then chk t.data.toList && zb7 b n ⟨#[]⟩ x len
 else if k=4 then decide (t.size≤1048576) && zb7 b n ⟨#[]⟩ x len
 else if k=5 then r && zb7 b n t x 0
 else if k=6∨k=7 then decide (0≤n) && zb7 b 0 t x len
 else if k=8 then zco t && zb7 b n ⟨#[]⟩ x len
 else if k=9 then zca t && zb7 b n ⟨#[]⟩ x len
 else if k=10 then decide (t.size≤1048576) && (zco x && zb7 b n ⟨#[]⟩ ⟨#[]⟩ len)
 else false
theorem mayBeOf (k:Int) (b:Bool) (n:Int) (t x:ByteArray) (p:Option Addr) (len cap:Nat) (d:Int) (w:World) (r:Bool) (hG:Gd w) (ht:t.size < 4294967281) (hx:x.size < 4294967281) (d0:0≤d) (d1:d≤1000)
 (hc:k=5→∀ W,Low w.heap.size w W→Calls Tryz.prog 160 #[.slice p len cap,.int .i64 (d+1)] W fun e w'=>e=.returned (.bool r)∧Low W.heap.size W w'):
 Calls Tryz.prog 99 #[.agg #[.int .i64 k,.bool b,.int .i64 n,.string t,.string x,.slice p len cap],.int .i64 d] w fun e w'=>e=.returned (.bool (zcb k b n t x len r))∧Low w.heap.size w w':=by
 have st:t.size≤maxLen:=by unfold maxLen;omega
 have sx:x.size≤maxLen:=by unfold maxLen;omega
 unfold zcb
 split
 case isTrue h=>subst h;exact mayNull b n t x p len cap d w
 split
 case isTrue h=>subst h;exact zxj b n t x p len cap d w
 split
 case isTrue h=>subst h;exact zxk b n t x p len cap d w
 split
 case isTrue h=>
  subst h
  by_cases e:chk t.data.toList=true
  ·rw [e];exact zqe b n t x p len cap d w hG ht e
  ·have e:chk t.data.toList=false:=by simpa using e
   rw [e];exact zso b n t x p len cap d w hG ht e
 split
 case isTrue h=>
  subst h
  by_cases e:t.size≤1048576
  ·rw [decide_eq_true e];exact zst b n t x p len cap d w (by omega)
  ·rw [decide_eq_false e];exact zum b n t x p len cap d w (by omega)
 split
 case isTrue h=>
  subst h
  cases r with
  | true=>exact zsq b n t x p len cap d w d0 d1 (hc rfl)
  | false=>exact zuj b n t x p len cap d w d0 d1 (hc rfl)
 split
 case isTrue h=>
  rcases h with rfl | rfl
  ·by_cases e:0≤n
   ·rw [decide_eq_true e];exact zsr b n t x p len cap d w e
   ·rw [decide_eq_false e];exact zuk b n t x p len cap d w e
  ·by_cases e:0≤n
   ·rw [decide_eq_true e];exact zss b n t x p len cap d w e
   ·rw [decide_eq_false e];exact zul b n t x p len cap d w e
 split
 case isTrue h=>
  subst h
  by_cases e:zco t=true
  ·rw [e];exact zui b n t x p len cap d w st e
  ·have e:zco t=false:=by simpa using e
   rw [e];exact zxl b n t x p len cap d w st e
 split
 case isTrue h=>
  subst h
  by_cases e:zca t=true
  ·rw [e];exact zqf b n t x p len cap d w st e
  ·have e:zca t=false:=by simpa using e
   rw [e];exact zsp b n t x p len cap d w st e
 split
 case isTrue h=>
  subst h
  by_cases e:t.size≤1048576
  ·rw [decide_eq_true e]
   by_cases e2:zco x=true
   ·rw [e2];exact zun b n t x p len cap d w sx (by omega) e2
   ·have e2:zco x=false:=by simpa using e2
    rw [e2];exact zxm b n t x p len cap d w sx (by omega) e2
  ·rw [decide_eq_false e];exact zsu b n t x p len cap d w (by omega)
 have hk:zm2 k=200:=by
  unfold zm2
  simp only [*,if_false]
  rename_i h67 _ _ _
  have a6:k≠6:=fun e=>h67 (.inl e)
  have a7:k≠7:=fun e=>h67 (.inr e)
  simp only [a6,a7,if_false]
 exact zqg k b n t x p len cap d w hk
end Go.Proofs.YteclpnfckjfibaaGreatDoor

/- O2 -/
namespace Go.Proofs.YteclpnfckjfibaaGreatDoor
open Go.RowKit
inductive Val where
 | mk (k:Int) (b:Bool) (n:Int) (t x:ByteArray) (l:List Val)
structure Fine (n:Int) (t x:ByteArray) (len:Nat):Prop where
 ht:t.size≤2097152
 hx:x.size≤2097152
 hn:len≤2097152
 lo:-9223372036854775808≤n
 hi:n≤9223372036854775807
mutual
def zba (w:World) (g off:Nat):Val→Prop
 | .mk k b n t x l=>w.cell? ⟨g,off,none⟩=some (.int .i64 k)∧w.cell? ⟨g,off+1,none⟩=some (.bool b)∧w.cell? ⟨g,off+2,none⟩=some (.int .i64 n)∧
   w.cell? ⟨g,off+3,none⟩=some (.string t)∧w.cell? ⟨g,off+4,none⟩=some (.string x)∧Fine n t x l.length∧
   ∃ L,w.cell? ⟨g,off+5,none⟩=some L∧Held w L l
def Held (w:World) (L:Value):List Val→Prop
 | []=>∃ p cap,L=.slice p 0 cap
 | v::r=>∃ g off cap,L=.slice (some ⟨g,off,none⟩) (r.length+1) cap∧zba w g off v∧zb2 w g (off+6) r
def zb2 (w:World) (g off:Nat):List Val→Prop
 | []=>True
 | v::r=>zba w g off v∧zb2 w g (off+6) r
end
mutual
theorem zba.below {w w':World} {g off:Nat}:(v:Val)→zba w g off v→Below w.heap.size w w'→zba w' g off v
 | .mk _ _ _ _ _ l,h,q=>by
   unfold zba at h ⊢
   obtain ⟨h0,h1,h2,h3,h4,hf,L,h5,hl⟩:=h
   have hg:=World.block_lt_of_cell? w _ h0
   exact ⟨(q.cell (p:=⟨g,off,none⟩) hg).trans h0,(q.cell (p:=⟨g,off+1,none⟩) hg).trans h1,(q.cell (p:=⟨g,off+2,none⟩) hg).trans h2,(q.cell (p:=⟨g,off+3,none⟩) hg).trans h3,
    (q.cell (p:=⟨g,off+4,none⟩) hg).trans h4,hf,L,(q.cell (p:=⟨g,off+5,none⟩) hg).trans h5,Held.below l hl q⟩
theorem Held.below {w w':World} {L:Value}:(l:List Val)→Held w L l→Below w.heap.size w w'→Held w' L l
 | [],h,_=>by
   unfold Held at h ⊢
   exact h
 | v::r,h,q=>by
   unfold Held at h ⊢
   obtain ⟨g,off,cap,e,hv,hr⟩:=h
   exact ⟨g,off,cap,e,zba.below v hv q,zb2.below r hr q⟩
theorem zb2.below {w w':World} {g off:Nat}:(l:List Val)→zb2 w g off l→Below w.heap.size w w'→zb2 w' g off l
 | [],_,_=>by
   unfold zb2
   trivial
 | v::r,h,q=>by
   unfold zb2 at h ⊢
   exact ⟨zba.below v h.1 q,zb2.below r h.2 q⟩
end
mutual
def mayP:Val→Nat→Bool
 | .mk k b n t x l,d=>zcb k b n t x l.length (decide (l.length≤4096) && decide (d+1≤60) && zd2 l (d+1))
def zd2:List Val→Nat→Bool
 | [],_=>true
 | v::r,d=>mayP v d && zd2 r d
end
end Go.Proofs.YteclpnfckjfibaaGreatDoor

/- O3 -/
namespace Go.Proofs.YteclpnfckjfibaaGreatDoor
open Go.RowKit
theorem zuo {w:World} {g off:Nat} {a b c d e f:Value} (h0:w.cell? ⟨g,off,none⟩=some a) (h1:w.cell? ⟨g,off+1,none⟩=some b) (h2:w.cell? ⟨g,off+2,none⟩=some c)
 (h3:w.cell? ⟨g,off+3,none⟩=some d) (h4:w.cell? ⟨g,off+4,none⟩=some e) (h5:w.cell? ⟨g,off+5,none⟩=some f):w.rangeAt g off [a,b,c,d,e,f]:=by
 intro j v hv
 match j,hv with
 | 0,e=>cases e;exact h0
 | 1,e=>cases e;exact h1
 | 2,e=>cases e;exact h2
 | 3,e=>cases e;exact h3
 | 4,e=>cases e;exact h4
 | 5,e=>cases e;exact h5
 | j+6,e=>simp at e
theorem zbp {ops:Array Oper} {rest:List Oper} {o:Oper} {a:Act} {w:World} {Q:Exit→Act→World→Prop} (y:Operand) (g off:Nat) (k:Int) (b:Bool) (n:Int) (t x:ByteArray) (L:Value)
 (h0:w.cell? ⟨g,off,none⟩=some (.int .i64 k)) (h1:w.cell? ⟨g,off+1,none⟩=some (.bool b)) (h2:w.cell? ⟨g,off+2,none⟩=some (.int .i64 n))
 (h3:w.cell? ⟨g,off+3,none⟩=some (.string t)) (h4:w.cell? ⟨g,off+4,none⟩=some (.string x)) (h5:w.cell? ⟨g,off+5,none⟩=some L)
 (hgd:o.guard=none) (ho:o.op=.load 48 y) (hx:a.eval y=.pointer (some ⟨g,off,none⟩))
 (h:wpList Tryz.prog ops Q rest (a.put o.dst (.agg #[.int .i64 k,.bool b,.int .i64 n,.string t,.string x,L])) w):wpList Tryz.prog ops Q (o::rest) a w:=
 wpList_load_mid hgd 48 y ho g off hx [.int .i64 k,.bool b,.int .i64 n,.string t,.string x,L] _ (zuo h0 h1 h2 h3 h4 h5) Tryz.underlying48 rfl zix h
end Go.Proofs.YteclpnfckjfibaaGreatDoor

/- O4 -/
namespace Go.Proofs.YteclpnfckjfibaaGreatDoor
open Go.RowKit
theorem zb2.at_ {w:World} {g:Nat}:(l:List Val)→(off:Nat)→zb2 w g off l→∀ (i:Nat) (h:i < l.length),zba w g (off+i*6) l[i]
 | [],_,_,i,h=>absurd h (by simp)
 | v::r,off,hh,i,h=>by
   unfold zb2 at hh
   match i,h with
   | 0,_=>rw [Nat.zero_mul];exact hh.1
   | i+1,h=>
     have:=zb2.at_ r (off+6) hh.2 i (by simpa using h)
     rw [show off+(i+1)*6=off+6+i*6 by omega]
     exact this
theorem zm3:(l:List Val)→(d:Nat)→∀ (i:Nat) (h:i < l.length),mayP l[i] d=false→zd2 l d=false
 | [],_,i,h,_=>absurd h (by simp)
 | v::r,d,i,h,e=>by
   unfold zd2
   match i,h with
   | 0,_=>rw [show mayP v d=false from e];rfl
   | i+1,h=>rw [zm3 r d i (by simpa using h) e,Bool.and_false]
theorem zk3:(l:List Val)→(d:Nat)→(∀ (i:Nat) (h:i < l.length),mayP l[i] d=true)→zd2 l d=true
 | [],_,_=>by unfold zd2;rfl
 | v::r,d,e=>by
   unfold zd2
   rw [show mayP v d=true from e 0 (by simp),zk3 r d fun i h=>e (i+1) (by simpa using h)]
   rfl
def zk4 (v:Val) (d:Nat):Prop:=∀ (W:World) (k:Int) (b:Bool) (n:Int) (t x:ByteArray) (l:List Val) (L:Value),v=.mk k b n t x l→Gd W→t.size≤2097152→x.size≤2097152→Held W L l→
 Calls Tryz.prog 99 #[.agg #[.int .i64 k,.bool b,.int .i64 n,.string t,.string x,L],.int .i64 d] W fun e w'=>e=.returned (.bool (mayP v d))∧Low W.heap.size W w'
set_option maxHeartbeats 1600000 in
theorem zxn (l:List Val) (g off cap d:Nat) (w:World) (hG:Gd w) (hl:zb2 w g off l) (h1:l.length≤4096) (h2:d≤60) (each:∀ v∈l,zk4 v d):
 Calls Tryz.prog 160 #[.slice (some ⟨g,off,none⟩) l.length cap,.int .i64 d] w fun e w'=>e=.returned (.bool (zd2 l d))∧Low w.heap.size w w':=by
 have a1:(l.length:Int)≤4096:=by omega
 have a2:(d:Int)≤60:=by omega
 have HH:=Lib.hid hl
 have HE:=Lib.hid each
 clear hl each
 go_enter Tryz.func160,Tryz.ntmps160
 go_wp2_with fail
 go_loopw [16] (fun i wr=>∃ j:Nat,j≤l.length∧i=.int .i64 j∧Low w.heap.size w wr∧∀ (i:Nat) (h:i < l.length),i < j→mayP l[i] d=true) (fun i _=>l.length - (intOf i).toNat)
 case atStart=>exact ⟨0,Nat.zero_le _,rfl,Low.refl _ _,fun _ _ h=>absurd h (by omega)⟩
 case round=>
  obtain ⟨j,hj,rfl,hb,hall⟩:=hrel
  have HA:=Lib.hid hall
  clear hall
  by_cases hlt:j < l.length
  ·have ho:=(zb2.at_ l off HH.out j hlt).below _ hb.is
   have hev:=HE.out l[j] (List.getElem_mem hlt)
   obtain ⟨k,b,n,t,x,q,ev⟩:∃ k b n t x q,l[j]=Val.mk k b n t x q:=by cases l[j] with | mk k b n t x q=>exact ⟨k,b,n,t,x,q,rfl⟩
   rw [ev] at ho
   unfold zba at ho
   obtain ⟨c0,c1,c2,c3,c4,hf,L,c5,hL⟩:=ho
   have ht:=hf.ht
   have hx:=hf.hx
   clear hf
   obtain ⟨p,len,cp,rfl⟩:∃ p len cp,L=.slice p len cp:=by
    cases q with
    | nil=>unfold Held at hL;obtain ⟨p,cp,e⟩:=hL;exact ⟨p,0,cp,e⟩
    | cons v r=>unfold Held at hL;obtain ⟨g',off',cp,e,_⟩:=hL;exact ⟨_,_,_,e⟩
   have gr:=hG.below hb.is
   cases hr:mayP l[j] d with
   | true=>
     have hc:=(hev (wr.alloc (.cells #[.int .i64 k,.bool b,.int .i64 n,.string t,.string x,.slice p len cp] 48)) k b n t x q (.slice p len cp) ev (gr.alloc _) ht hx (Held.below q hL (low1 _ _).is))
     rw [hr] at hc
     have hs:w.heap.size≤wr.heap.size:=hb.size
     have l0:Six (wr.alloc (.cells #[.int .i64 k,.bool b,.int .i64 n,.string t,.string x,.slice p len cp] 48)) wr.heap.size k b n t x p len cp:=zak _ rfl
     have b0:Low w.heap.size w (wr.alloc (.cells #[.int .i64 k,.bool b,.int .i64 n,.string t,.string x,.slice p len cp] 48)):=hb.alloc hs _
     have z0:w.heap.size≤(wr.alloc (.cells #[.int .i64 k,.bool b,.int .i64 n,.string t,.string x,.slice p len cp] 48)).heap.size:=by have:=l0.lt;omega
     go_wp2_with (first
      |((with_reducible refine zbp (.tmp 18) g (off+j*6) k b n t x (.slice p len cp) c0 c1 c2 c3 c4 c5 ?_ ?_ ?_ ?_);rfl;rfl;rfl)
      |((with_reducible refine zaj (.tmp 6) wr.heap.size l0 ?_ ?_ ?_ ?_);rfl;rfl;rfl)
      |(go_at_call 99;(with_reducible refine hc.mono ?_);rintro e w3 ⟨rfl,hb3⟩;have b3:=za1 b0 hb3 z0))
     go_roundw
     case rel=>
      refine ⟨j+1,by omega,by go_num,b3,fun i hi hlt'=>?_⟩
      by_cases e:i=j
      ·subst e;exact hr
      ·exact HA.out i hi (by omega)
     case measure=>simp [intOf];omega
   | false=>
     have hc:=(hev (wr.alloc (.cells #[.int .i64 k,.bool b,.int .i64 n,.string t,.string x,.slice p len cp] 48)) k b n t x q (.slice p len cp) ev (gr.alloc _) ht hx (Held.below q hL (low1 _ _).is))
     rw [hr] at hc
     have hs:w.heap.size≤wr.heap.size:=hb.size
     have l0:Six (wr.alloc (.cells #[.int .i64 k,.bool b,.int .i64 n,.string t,.string x,.slice p len cp] 48)) wr.heap.size k b n t x p len cp:=zak _ rfl
     have b0:Low w.heap.size w (wr.alloc (.cells #[.int .i64 k,.bool b,.int .i64 n,.string t,.string x,.slice p len cp] 48)):=hb.alloc hs _
     have z0:w.heap.size≤(wr.alloc (.cells #[.int .i64 k,.bool b,.int .i64 n,.string t,.string x,.slice p len cp] 48)).heap.size:=by have:=l0.lt;omega
     go_wp2_with (first
      |((with_reducible refine zbp (.tmp 18) g (off+j*6) k b n t x (.slice p len cp) c0 c1 c2 c3 c4 c5 ?_ ?_ ?_ ?_);rfl;rfl;rfl)
      |((with_reducible refine zaj (.tmp 6) wr.heap.size l0 ?_ ?_ ?_ ?_);rfl;rfl;rfl)
      |(go_at_call 99;(with_reducible refine hc.mono ?_);rintro e w3 ⟨rfl,hb3⟩;have b3:=za1 b0 hb3 z0))
     go_ret
     exact ⟨by rw [zm3 l d j hlt hr];rfl,b3⟩
  ·go_wp2_with fail
   go_ret
   exact ⟨by rw [zk3 l d fun i h=>HA.out i h (by omega)];rfl,hb⟩
end Go.Proofs.YteclpnfckjfibaaGreatDoor

/- O5 -/
namespace Go.Proofs.YteclpnfckjfibaaGreatDoor
open Go.RowKit
theorem zbt {W:World} {L:Value} {l:List Val} (h:Held W L l):∃ p cap,L=.slice p l.length cap:=by
 cases l with
 | nil=>unfold Held at h;exact h
 | cons v r=>unfold Held at h;obtain ⟨g,off,cap,e,_⟩:=h;exact ⟨_,cap,e⟩
theorem allBig (p:Option Addr) (len cap:Nat) (d:Int) (w:World) (h:(4096:Int) < len):
 Calls Tryz.prog 160 #[.slice p len cap,.int .i64 d] w fun e w'=>e=.returned (.bool false)∧Low w.heap.size w w':=by
 go_enter Tryz.func160,Tryz.ntmps160
 go_wp2_with fail
 go_ret
 exact ⟨rfl,Low.refl _ _⟩
theorem allDeep (p:Option Addr) (len cap:Nat) (d:Int) (w:World) (h:¬ (4096:Int) < len) (h2:60 < d):
 Calls Tryz.prog 160 #[.slice p len cap,.int .i64 d] w fun e w'=>e=.returned (.bool false)∧Low w.heap.size w w':=by
 go_enter Tryz.func160,Tryz.ntmps160
 go_wp2_with fail
 go_ret
 exact ⟨rfl,Low.refl _ _⟩
theorem allNone (p:Option Addr) (cap:Nat) (d:Int) (w:World) (h2:¬ 60 < d):
 Calls Tryz.prog 160 #[.slice p 0 cap,.int .i64 d] w fun e w'=>e=.returned (.bool true)∧Low w.heap.size w w':=by
 go_enter Tryz.func160,Tryz.ntmps160
 go_wp2_with fail
 go_loopw [16] (fun i wr=>i=.int .i64 0∧wr=w) (fun _ _=>0)
 case atStart=>exact ⟨rfl,rfl⟩
 case round=>
  obtain ⟨rfl,rfl⟩:=hrel
  go_wp2_with fail
  go_ret
  exact ⟨rfl,Low.refl _ _⟩
theorem allAny (l:List Val) (L:Value) (d:Nat) (w:World) (hG:Gd w) (hl:Held w L l) (each:d≤60→∀ v∈l,zk4 v d):
 Calls Tryz.prog 160 #[L,.int .i64 d] w fun e w'=>e=.returned (.bool (decide (l.length≤4096) && decide (d≤60) && zd2 l d))∧Low w.heap.size w w':=by
 obtain ⟨p,cap,rfl⟩:=zbt hl
 by_cases h1:l.length≤4096
 ·rw [decide_eq_true h1,Bool.true_and]
  by_cases h2:d≤60
  ·rw [decide_eq_true h2,Bool.true_and]
   cases l with
   | nil=>
     unfold zd2
     exact allNone p cap d w (by omega)
   | cons v r=>
     unfold Held at hl
     obtain ⟨g,off,cap',e,hv,hr⟩:=hl
     cases e
     refine zxn (v::r) g off cap d w hG ?_ h1 h2 (each h2)
     unfold zb2
     exact ⟨hv,hr⟩
  ·rw [decide_eq_false h2,Bool.false_and]
   exact allDeep p _ cap d w (by omega) (by omega)
 ·rw [decide_eq_false h1,Bool.false_and,Bool.false_and]
  exact allBig p _ cap d w (by omega)
theorem zma (d:Nat) (hd:d≤60) (next:d+1≤60→∀ v,zk4 v (d+1)) (v:Val):zk4 v d:=by
 intro W k b n t x l L e hG ht hx hL
 subst e
 obtain ⟨p,cap,rfl⟩:=zbt hL
 unfold mayP
 refine mayBeOf k b n t x p l.length cap d W _ hG (by omega) (by omega) (by omega) (by omega) fun _ W' hb=>?_
 have:=allAny l _ (d+1) W' (hG.below hb.is) (Held.below l hL hb.is) fun h v _=>next h v
 simpa using this
theorem zro:∀ (m d:Nat),m+d=60→∀ v,zk4 v d
 | 0,d,e,v=>zma d (by omega) (fun h=>absurd h (by omega)) v
 | m+1,d,e,v=>zma d (by omega) (fun _=>zro m (d+1) (by omega)) v
theorem zrp (v:Val) (k:Int) (b:Bool) (n:Int) (t x:ByteArray) (l:List Val) (L:Value) (W:World) (e:v=.mk k b n t x l) (hG:Gd W) (ht:t.size≤2097152) (hx:x.size≤2097152) (hL:Held W L l):
 Calls Tryz.prog 56 #[.agg #[.int .i64 k,.bool b,.int .i64 n,.string t,.string x,L]] W fun e w'=>e=.returned (.bool (mayP v 0))∧Low W.heap.size W w':=by
 obtain ⟨p,cap,rfl⟩:=zbt hL
 have l0:Six (W.alloc (.cells #[.int .i64 k,.bool b,.int .i64 n,.string t,.string x,.slice p l.length cap] 48)) W.heap.size k b n t x p l.length cap:=zak _ rfl
 have b0:=low1 W (.cells #[.int .i64 k,.bool b,.int .i64 n,.string t,.string x,.slice p l.length cap] 48)
 have hc:Calls Tryz.prog 99 #[.agg #[.int .i64 k,.bool b,.int .i64 n,.string t,.string x,.slice p l.length cap],.int .i64 0] (W.alloc (.cells #[.int .i64 k,.bool b,.int .i64 n,.string t,.string x,.slice p l.length cap] 48)) _:=
  zro 60 0 rfl v _ k b n t x l _ e (hG.alloc _) ht hx (Held.below l hL b0.is)
 go_enter Tryz.func56,Tryz.ntmps56
 go_wp2_with (first
  |((with_reducible refine zaj (.tmp 1) W.heap.size l0 ?_ ?_ ?_ ?_);rfl;rfl;rfl)
  |(go_at_call 99;(with_reducible refine hc.mono ?_);rintro e w' ⟨rfl,hb⟩;have b3:=za1 b0 hb (Nat.le_of_lt l0.lt)))
 go_ret
 exact ⟨by first | rfl |(subst e;rfl),b3⟩
end Go.Proofs.YteclpnfckjfibaaGreatDoor

/- V1 -/
namespace Go.Proofs.YteclpnfckjfibaaGreatDoor
open Go.RowKit
mutual
def zc1:Val→Val→Bool
 | .mk k b n t x l,.mk k2 b2 n2 t2 x2 l2=>(k == k2) && ((b == b2) && ((n == n2) && ((t.toList == t2.toList) && ((x.toList == x2.toList) && ((l.length == l2.length) && zbz l l2)))))
def zbz:List Val→List Val→Bool
 | v::r,v2::r2=>zc1 v v2 && zbz r r2
 | _,_=>true
end
theorem zfx:(l l2:List Val)→∀ (i:Nat) (h:i < l.length) (h2:i < l2.length),zc1 l[i] l2[i]=false→zbz l l2=false
 | [],_,i,h,_,_=>absurd h (by simp)
 | _::_,[],i,_,h2,_=>absurd h2 (by simp)
 | v::r,v2::r2,i,h,h2,e=>by
   unfold zbz
   match i,h,h2 with
   | 0,_,_=>rw [show zc1 v v2=false from e];rfl
   | i+1,h,h2=>rw [zfx r r2 i (by simpa using h) (by simpa using h2) e,Bool.and_false]
theorem ze7:(l l2:List Val)→(∀ (i:Nat) (h:i < l.length) (h2:i < l2.length),zc1 l[i] l2[i]=true)→zbz l l2=true
 | [],_,_=>by unfold zbz;rfl
 | _::_,[],_=>by unfold zbz;rfl
 | v::r,v2::r2,h=>by
   unfold zbz
   rw [show zc1 v v2=true from h 0 (by simp) (by simp),Bool.true_and]
   exact ze7 r r2 fun i h1 h2=>h (i+1) (by simpa using h1) (by simpa using h2)
structure zqh (w:World) (g off:Nat) (v:Val) (k:Int) (b:Bool) (n:Int) (t x:ByteArray) (q:List Val) (p:Option Addr) (cap:Nat):Prop where
 e:v=.mk k b n t x q
 c0:w.cell? ⟨g,off,none⟩=some (.int .i64 k)
 c1:w.cell? ⟨g,off+1,none⟩=some (.bool b)
 c2:w.cell? ⟨g,off+2,none⟩=some (.int .i64 n)
 c3:w.cell? ⟨g,off+3,none⟩=some (.string t)
 c4:w.cell? ⟨g,off+4,none⟩=some (.string x)
 c5:w.cell? ⟨g,off+5,none⟩=some (.slice p q.length cap)
 hf:Fine n t x q.length
 hl:Held w (.slice p q.length cap) q
theorem zba.opens {w:World} {g off:Nat}:{v:Val}→zba w g off v→∃ k b n t x q p cap,zqh w g off v k b n t x q p cap
 | .mk k b n t x q,h=>by
   unfold zba at h
   obtain ⟨h0,h1,h2,h3,h4,hf,L,h5,hl⟩:=h
   obtain ⟨p,cap,rfl⟩:=zbt hl
   exact ⟨k,b,n,t,x,q,p,cap,rfl,h0,h1,h2,h3,h4,h5,hf,hl⟩
theorem Held.form {w:World} {p:Option Addr} {cap n:Nat} {v:Val} {r:List Val} (h:Held w (.slice p n cap) (v::r)):∃ g off,p=some ⟨g,off,none⟩∧zb2 w g off (v::r):=by
 unfold Held at h
 obtain ⟨g,off,cap',e,hv,hr⟩:=h
 cases e
 refine ⟨g,off,rfl,?_⟩
 unfold zb2
 exact ⟨hv,hr⟩
def zmb (v:Val):Prop:=∀ (W:World) (k:Int) (b:Bool) (n:Int) (t x:ByteArray) (q:List Val) (p:Option Addr) (cap:Nat) (v2:Val) (k2:Int) (b2:Bool) (n2:Int) (t2 x2:ByteArray) (q2:List Val) (p2:Option Addr) (cap2:Nat),
 v=.mk k b n t x q→v2=.mk k2 b2 n2 t2 x2 q2→q.length≤2097152→Held W (.slice p q.length cap) q→Held W (.slice p2 q2.length cap2) q2→
 Calls Tryz.prog 137 #[.agg #[.int .i64 k,.bool b,.int .i64 n,.string t,.string x,.slice p q.length cap],.agg #[.int .i64 k2,.bool b2,.int .i64 n2,.string t2,.string x2,.slice p2 q2.length cap2]] W
  fun e w'=>e=.returned (.bool (zc1 v v2))∧Low W.heap.size W w'
theorem zup (p p2:Option Addr) (n n2 cap cap2:Nat) (w:World) (h:¬ n=n2):
 Calls Tryz.prog 183 #[.slice p n cap,.slice p2 n2 cap2,.func (.func 137) #[] #[]] w fun e w'=>e=.returned (.bool false)∧Low w.heap.size w w':=by
 have h1:((n:Int) != n2)=true:=by simp;omega
 clear h
 go_enter Tryz.func183,Tryz.ntmps183
 go_wp2_with fail
 go_ret
 exact ⟨rfl,Low.refl _ _⟩
theorem zsv (p p2:Option Addr) (cap cap2:Nat) (w:World):
 Calls Tryz.prog 183 #[.slice p 0 cap,.slice p2 0 cap2,.func (.func 137) #[] #[]] w fun e w'=>e=.returned (.bool true)∧Low w.heap.size w w':=by
 go_enter Tryz.func183,Tryz.ntmps183
 go_wp2_with fail
 go_loopw [17] (fun i wr=>i=.int .i64 0∧wr=w) (fun _ _=>0)
 case atStart=>exact ⟨rfl,rfl⟩
 case round=>
  obtain ⟨rfl,rfl⟩:=hrel
  go_wp2_with fail
  go_ret
  exact ⟨rfl,Low.refl _ _⟩
set_option maxHeartbeats 1600000 in
theorem zsw (l l2:List Val) (g off cap g2 off2 cap2:Nat) (w:World) (hl:zb2 w g off l) (hl2:zb2 w g2 off2 l2) (hlen:l2.length=l.length) (hn:l.length≤2097152) (each:∀ v∈l,zmb v):
 Calls Tryz.prog 183 #[.slice (some ⟨g,off,none⟩) l.length cap,.slice (some ⟨g2,off2,none⟩) l.length cap2,.func (.func 137) #[] #[]] w fun e w'=>e=.returned (.bool (zbz l l2))∧Low w.heap.size w w':=by
 have HH:=Lib.hid hl
 have HH2:=Lib.hid hl2
 have HE:=Lib.hid each
 have HL:=Lib.hid hlen
 clear hl hl2 each hlen
 go_enter Tryz.func183,Tryz.ntmps183
 go_wp2_with fail
 go_loopw [17] (fun i wr=>∃ j:Nat,j≤l.length∧i=.int .i64 j∧Low w.heap.size w wr∧∀ (i:Nat) (h:i < l.length) (h2:i < l2.length),i < j→zc1 l[i] l2[i]=true) (fun i _=>l.length - (intOf i).toNat)
 case atStart=>exact ⟨0,Nat.zero_le _,rfl,Low.refl _ _,fun _ _ _ h=>absurd h (by omega)⟩
 case round=>
  obtain ⟨j,hj,rfl,hb,hall⟩:=hrel
  have HA:=Lib.hid hall
  clear hall
  by_cases hlt:j < l.length
  ·have hlt2:j < l2.length:=by have:=HL.out;omega
   obtain ⟨k,b,n,t,x,q,p,cp,o1⟩:=((zb2.at_ l off HH.out j hlt).below _ hb.is).opens
   obtain ⟨k2,b2,n2,t2,x2,q2,p2,cp2,o2⟩:=((zb2.at_ l2 off2 HH2.out j hlt2).below _ hb.is).opens
   obtain ⟨c1,hc1⟩:∃ c1,c1=Obj.cells #[.int .i64 k,.bool b,.int .i64 n,.string t,.string x,.slice p q.length cp] 48:=⟨_,rfl⟩
   obtain ⟨c2,hc2⟩:∃ c2,c2=Obj.cells #[.int .i64 k2,.bool b2,.int .i64 n2,.string t2,.string x2,.slice p2 q2.length cp2] 48:=⟨_,rfl⟩
   have bb:=low2 wr c1 c2
   have hc:=HE.out l[j] (List.getElem_mem hlt) ((wr.alloc c1).alloc c2) k b n t x q p cp l2[j] k2 b2 n2 t2 x2 q2 p2 cp2 o1.e o2.e o1.hf.hn (Held.below q o1.hl bb.is) (Held.below q2 o2.hl bb.is)
   obtain ⟨r,hr⟩:∃ r,r=zc1 l[j] l2[j]:=⟨_,rfl⟩
   rw [← hr] at hc
   have l0:Six ((wr.alloc c1).alloc c2) wr.heap.size k b n t x p q.length cp:=by rw [hc1];exact (zak _ rfl).alloc _
   have l1:Six ((wr.alloc c1).alloc c2) (wr.heap.size+1) k2 b2 n2 t2 x2 p2 q2.length cp2:=by rw [hc2];exact zak _ (by simp)
   have hs:w.heap.size≤wr.heap.size:=hb.size
   have b0:Low w.heap.size w ((wr.alloc c1).alloc c2):=(hb.alloc hs _).alloc (by simp;omega) _
   have z0:w.heap.size≤((wr.alloc c1).alloc c2).heap.size:=b0.size
   have oo2:zqh (wr.alloc c1) g2 (off2+j*6) l2[j] k2 b2 n2 t2 x2 q2 p2 cp2:=by
    have h1:=low1 wr c1
    have hg:=World.block_lt_of_cell? wr _ o2.c0
    exact ⟨o2.e,(h1.cell (p:=⟨g2,off2+j*6,none⟩) hg).trans o2.c0,(h1.cell (p:=⟨g2,off2+j*6+1,none⟩) hg).trans o2.c1,(h1.cell (p:=⟨g2,off2+j*6+2,none⟩) hg).trans o2.c2,(h1.cell (p:=⟨g2,off2+j*6+3,none⟩) hg).trans o2.c3,
     (h1.cell (p:=⟨g2,off2+j*6+4,none⟩) hg).trans o2.c4,(h1.cell (p:=⟨g2,off2+j*6+5,none⟩) hg).trans o2.c5,o2.hf,Held.below q2 o2.hl h1.is⟩
   have O1:=Lib.hid o1
   have O2:=Lib.hid oo2
   have HR:=Lib.hid hr
   clear o1 o2 oo2 bb hr
   subst hc1 hc2
   cases r with
   | true=>
     go_wp2_with (first
      |((with_reducible refine zbp (.tmp 20) g (off+j*6) k b n t x (.slice p q.length cp) O1.out.c0 O1.out.c1 O1.out.c2 O1.out.c3 O1.out.c4 O1.out.c5 ?_ ?_ ?_ ?_);rfl;rfl;rfl)
      |((with_reducible refine zbp (.tmp 24) g2 (off2+j*6) k2 b2 n2 t2 x2 (.slice p2 q2.length cp2) O2.out.c0 O2.out.c1 O2.out.c2 O2.out.c3 O2.out.c4 O2.out.c5 ?_ ?_ ?_ ?_);rfl;rfl;rfl)
      |((with_reducible refine zaj (.tmp 8) wr.heap.size l0 ?_ ?_ ?_ ?_);rfl;rfl;rfl)
      |((with_reducible refine zaj (.tmp 9) (wr.heap.size+1) l1 ?_ ?_ ?_ ?_);rfl;rfl;rfl)
      |(go_at_call 137;(with_reducible refine hc.mono ?_);rintro e w3 ⟨rfl,hb3⟩;have b3:=za1 b0 hb3 z0))
     go_roundw
     case rel=>
      refine ⟨j+1,by omega,by go_num,b3,fun i hi hi2 hlt'=>?_⟩
      by_cases e:i=j
      ·subst e;exact HR.out.symm
      ·exact HA.out i hi hi2 (by omega)
     case measure=>simp [intOf];omega
   | false=>
     go_wp2_with (first
      |((with_reducible refine zbp (.tmp 20) g (off+j*6) k b n t x (.slice p q.length cp) O1.out.c0 O1.out.c1 O1.out.c2 O1.out.c3 O1.out.c4 O1.out.c5 ?_ ?_ ?_ ?_);rfl;rfl;rfl)
      |((with_reducible refine zbp (.tmp 24) g2 (off2+j*6) k2 b2 n2 t2 x2 (.slice p2 q2.length cp2) O2.out.c0 O2.out.c1 O2.out.c2 O2.out.c3 O2.out.c4 O2.out.c5 ?_ ?_ ?_ ?_);rfl;rfl;rfl)
      |((with_reducible refine zaj (.tmp 8) wr.heap.size l0 ?_ ?_ ?_ ?_);rfl;rfl;rfl)
      |((with_reducible refine zaj (.tmp 9) (wr.heap.size+1) l1 ?_ ?_ ?_ ?_);rfl;rfl;rfl)
      |(go_at_call 137;(with_reducible refine hc.mono ?_);rintro e w3 ⟨rfl,hb3⟩;have b3:=za1 b0 hb3 z0))
     go_ret
     exact ⟨by rw [zfx l l2 j hlt hlt2 HR.out.symm];rfl,b3⟩
  ·go_wp2_with fail
   go_ret
   exact ⟨by rw [ze7 l l2 fun i h h2=>HA.out i h h2 (by omega)];rfl,hb⟩
theorem zxo (l l2:List Val) (p p2:Option Addr) (cap cap2:Nat) (w:World) (hl:Held w (.slice p l.length cap) l) (hl2:Held w (.slice p2 l2.length cap2) l2) (hn:l.length≤2097152) (each:∀ v∈l,zmb v):
 Calls Tryz.prog 183 #[.slice p l.length cap,.slice p2 l2.length cap2,.func (.func 137) #[] #[]] w fun e w'=>e=.returned (.bool ((l.length == l2.length) && zbz l l2))∧Low w.heap.size w w':=by
 by_cases h:l.length=l2.length
 ·rw [show (l.length == l2.length)=true by simpa using h,Bool.true_and,← h]
  cases l with
  | nil=>
    unfold zbz
    exact zsv _ _ _ _ _
  | cons v r=>
    cases l2 with
    | nil=>simp at h
    | cons v2 r2=>
      obtain ⟨g,off,rfl,hh⟩:=hl.form
      obtain ⟨g2,off2,rfl,hh2⟩:=hl2.form
      exact zsw (v::r) (v2::r2) g off cap g2 off2 cap2 w hh hh2 h.symm hn each
 ·rw [show (l.length == l2.length)=false by simpa using h,Bool.false_and]
  exact zup p p2 _ _ cap cap2 w h
end Go.Proofs.YteclpnfckjfibaaGreatDoor

/- V2 -/
namespace Go.Proofs.YteclpnfckjfibaaGreatDoor
open Go.RowKit
set_option maxHeartbeats 1600000 in
theorem zuq (v:Val) (k:Int) (b:Bool) (n:Int) (t x:ByteArray) (q:List Val) (ev:v=.mk k b n t x q) (each:∀ u∈q,zmb u):zmb v:=by
 subst ev
 intro W k1 b1 n1 t1 x1 q1 p cap v2 k2 b2 n2 t2 x2 q2 p2 cap2 e1 e2 hn hl hl2
 cases e1
 subst e2
 unfold zc1
 obtain ⟨c1,hc1⟩:∃ c1,c1=Obj.cells #[.int .i64 k,.bool b,.int .i64 n,.string t,.string x,.slice p q.length cap] 48:=⟨_,rfl⟩
 obtain ⟨c2,hc2⟩:∃ c2,c2=Obj.cells #[.int .i64 k2,.bool b2,.int .i64 n2,.string t2,.string x2,.slice p2 q2.length cap2] 48:=⟨_,rfl⟩
 have b0:=low2 W c1 c2
 have hc:=zxo q q2 p p2 cap cap2 ((W.alloc c1).alloc c2) (Held.below q hl b0.is) (Held.below q2 hl2 b0.is) hn each
 have l0:Six ((W.alloc c1).alloc c2) W.heap.size k b n t x p q.length cap:=by rw [hc1];exact (zak _ rfl).alloc _
 have l1:Six ((W.alloc c1).alloc c2) (W.heap.size+1) k2 b2 n2 t2 x2 p2 q2.length cap2:=by rw [hc2];exact zak _ (by simp)
 have z0:=b0.size
 have f0:=l0.c0
 have f1:=l0.c1
 have f2:=l0.c2
 have f3:=l0.c3
 have f4:=l0.c4
 have f5:=l0.c5
 have g0:=l1.c0
 have g1:=l1.c1
 have g2:=l1.c2
 have g3:=l1.c3
 have g4:=l1.c4
 have g5:=l1.c5
 clear l0 l1 hl hl2 each hn
 subst hc1 hc2
 cases a0:(k == k2) with
 | false=>
   rw [Bool.false_and]
   go_enter Tryz.func137,Tryz.ntmps137
   go_wp2_with fail
   go_ret
   exact ⟨rfl,b0⟩
 | true=>
   rw [Bool.true_and]
   cases a1:(b == b2) with
   | false=>
     rw [Bool.false_and]
     go_enter Tryz.func137,Tryz.ntmps137
     go_wp2_with fail
     go_ret
     exact ⟨rfl,b0⟩
   | true=>
     rw [Bool.true_and]
     cases a2:(n == n2) with
     | false=>
       rw [Bool.false_and]
       go_enter Tryz.func137,Tryz.ntmps137
       go_wp2_with fail
       go_ret
       exact ⟨rfl,b0⟩
     | true=>
       rw [Bool.true_and]
       cases a3:(t.toList == t2.toList) with
       | false=>
         rw [Bool.false_and]
         go_enter Tryz.func137,Tryz.ntmps137
         go_wp2_with fail
         go_ret
         exact ⟨rfl,b0⟩
       | true=>
         rw [Bool.true_and]
         cases a4:(x.toList == x2.toList) with
         | false=>
           rw [Bool.false_and]
           go_enter Tryz.func137,Tryz.ntmps137
           go_wp2_with fail
           go_ret
           exact ⟨rfl,b0⟩
         | true=>
           rw [Bool.true_and]
           generalize (q.length == q2.length && zbz q q2)=r at hc ⊢
           go_enter Tryz.func137,Tryz.ntmps137
           go_wp2_with (go_at_call 183;(with_reducible refine hc.mono ?_);rintro e w3 ⟨rfl,hb3⟩;replace b0:=za1 b0 hb3 z0)
           go_ret
           exact ⟨rfl,b0⟩
mutual
theorem zur:(v:Val)→zmb v
 | .mk k b n t x q=>zuq _ k b n t x q rfl (zrq q)
theorem zrq:(q:List Val)→∀ u∈q,zmb u
 | [],_,h=>absurd h (by simp)
 | v::r,u,h=>by
   rcases List.mem_cons.1 h with h | h
   ·rw [h];exact zur v
   ·exact zrq r u h
end
end Go.Proofs.YteclpnfckjfibaaGreatDoor

/- Q2 -/
namespace Go.Proofs.YteclpnfckjfibaaGreatDoor
open Go.RowKit
end Go.Proofs.YteclpnfckjfibaaGreatDoor

/- Q3 -/
namespace Go.Proofs.YteclpnfckjfibaaGreatDoor
open Go.RowKit
end Go.Proofs.YteclpnfckjfibaaGreatDoor

/- Q4 -/
namespace Go.Proofs.YteclpnfckjfibaaGreatDoor
open Go.RowKit
theorem Six.range {w:World} {g:Nat} {k:Int} {b:Bool} {n:Int} {t x:ByteArray} {p:Option Addr} {len cap:Nat} (h:Six w g k b n t x p len cap):w.rangeAt g 0 [.int .i64 k,.bool b,.int .i64 n,.string t,.string x,.slice p len cap]:=by
 have:=zuo (g:=g) (off:=0) h.c0 h.c1 h.c2 h.c3 h.c4 h.c5
 exact this
end Go.Proofs.YteclpnfckjfibaaGreatDoor

/- Q5 -/
namespace Go.Proofs.YteclpnfckjfibaaGreatDoor
open Go.RowKit
end Go.Proofs.YteclpnfckjfibaaGreatDoor

/- Q6 -/
namespace Go.Proofs.YteclpnfckjfibaaGreatDoor
open Go.RowKit
theorem zqh.below {w w':World} {g off:Nat} {v:Val} {k:Int} {b:Bool} {n:Int} {t x:ByteArray} {q:List Val} {p:Option Addr} {cap:Nat} (o:zqh w g off v k b n t x q p cap) (h:Below w.heap.size w w'):zqh w' g off v k b n t x q p cap:=by
 have hg:=World.block_lt_of_cell? w _ o.c0
 exact ⟨o.e,(h.cell (p:=⟨g,off,none⟩) hg).trans o.c0,(h.cell (p:=⟨g,off+1,none⟩) hg).trans o.c1,(h.cell (p:=⟨g,off+2,none⟩) hg).trans o.c2,(h.cell (p:=⟨g,off+3,none⟩) hg).trans o.c3,
  (h.cell (p:=⟨g,off+4,none⟩) hg).trans o.c4,(h.cell (p:=⟨g,off+5,none⟩) hg).trans o.c5,o.hf,Held.below q o.hl h⟩
theorem zqh.range {w:World} {g off:Nat} {v:Val} {k:Int} {b:Bool} {n:Int} {t x:ByteArray} {q:List Val} {p:Option Addr} {cap:Nat} (o:zqh w g off v k b n t x q p cap):w.rangeAt g off [.int .i64 k,.bool b,.int .i64 n,.string t,.string x,.slice p q.length cap]:=
 zuo o.c0 o.c1 o.c2 o.c3 o.c4 o.c5
end Go.Proofs.YteclpnfckjfibaaGreatDoor

/- X1 -/
namespace Go.Proofs.YteclpnfckjfibaaGreatDoor
open Go.RowKit
def addW (a b:Int):Int:=wrap64 (a+b)
mutual
def zfy:Val→Int→Int
 | .mk _ _ _ t x l,n=>addW (addW (addW (addW n 1) (wrap64 ((t.size:Int)/ 64))) (wrap64 ((x.size:Int)/ 64))) (zbn l 0)
def zbn:List Val→Int→Int
 | [],n=>n
 | v::r,n=>zbn r (zfy v n)
end
theorem zh0:(l:List Val)→(n:Int)→(j:Nat)→(h:j < l.length)→zbn (l.take (j+1)) n=zfy (l[j]'h) (zbn (l.take j) n)
 | [],_,j,h=>absurd h (by simp)
 | v::r,n,0,_=>by
   show zbn (v::r.take 0) n=zfy v (zbn [] n)
   simp [zbn]
 | v::r,n,j+1,h=>by
   show zbn (v::r.take (j+1)) n=zfy (r[j]'(by simpa using h)) (zbn (v::r.take j) n)
   unfold zbn
   exact zh0 r _ j (by simpa using h)
def zrr (v:Val):Prop:=∀ (W:World) (k:Int) (b:Bool) (n:Int) (t x:ByteArray) (q:List Val) (p:Option Addr) (cap:Nat),v=.mk k b n t x q→q.length≤2097152→Held W (.slice p q.length cap) q→
 Calls Tryz.prog 96 #[.slice p q.length cap] W fun e w'=>e=.returned (.int .i64 (zbn q 0))∧∃ m,w'=W.drewN m
set_option maxRecDepth 20000 in
set_option maxHeartbeats 1600000 in
theorem zxp (l:List Val) (g off cap:Nat) (w:World) (hl:zb2 w g off l) (hn:l.length≤2097152) (each:∀ u∈l,zrr u):
 Calls Tryz.prog 96 #[.slice (some ⟨g,off,none⟩) l.length cap] w fun e w'=>e=.returned (.int .i64 (zbn l 0))∧∃ m,w'=w.drewN m:=by
 obtain ⟨n,hln⟩:∃ n,n=l.length:=⟨_,rfl⟩
 rw [← hln] at hn ⊢
 have HL:=Lib.hid hln
 have HH:=Lib.hid hl
 have HE:=Lib.hid each
 clear hl hln each
 go_enter Tryz.func96,Tryz.ntmps96
 go_wp2_with fail
 go_loopg [3,4] n (fun gg s3 s4 wr=>∃ (j m:Nat) (z:Int),j+gg=n∧s4=.int .i64 j∧s3=.int .i64 z∧Hid (z=zbn (l.take j) 0)∧Hid (wr=w.drewN m))
 case atStart=>exact ⟨0,0,0,by omega,rfl,rfl,Lib.hid (by simp [zbn]),Lib.hid rfl⟩
 case round=>
  obtain ⟨j,m,z,hjg,rfl,rfl,HZ,HW⟩:=hrel
  by_cases hlt:(j:Int) < n
  ·have hj1:j < l.length:=by have:=HL.out;omega
   obtain ⟨k,b,i,t,x,q,p,cp,o⟩:=(zb2.at_ l off HH.out j hj1).opens
   have o1:=o.below (w':=wr) (by rw [HW.out];exact zep (Below.refl _ _) m)
   have c3:=o1.c3
   have c4:=o1.c4
   have c5:=o1.c5
   have HC:∀ nn,Calls Tryz.prog 96 #[.slice p q.length cp] (wr.drewN nn) fun e w'=>e=.returned (.int .i64 (zbn q 0))∧∃ m',w'=(wr.drewN nn).drewN m':=fun nn=>
    HE.out l[j] (List.getElem_mem hj1) _ k b i t x q p cp o.e o.hf.hn (o1.below (zep (Below.refl _ _) nn)).hl
   have HC:=Lib.hid HC
   have hz:zbn (l.take (j+1)) 0=addW (addW (addW (addW z 1) (wrap64 ((t.size:Int)/ 64))) (wrap64 ((x.size:Int)/ 64))) (zbn q 0):=by
    rw [zh0 l 0 j hj1,o.e,← HZ.out]
    unfold zfy
    rfl
   have HZ2:=Lib.hid hz
   clear hz o o1
   generalize zbn q 0=zq at*
   go_wp2_with fail
   go_quiet ((go_at_call 96;exact Calls.quiet_of (HC.out _)))
   go_wp2_with fail
   go_roundg (gk - 1)
   case measure=>omega
   case rel=>exact ⟨j+1,m+nq,_,by omega,by go_num,rfl,Lib.hid (by rw [HZ2.out];rfl),Lib.hid (by rw [HW.out,World.drewN_drewN])⟩
  ·go_wp2_with fail
   go_ret
   have e:j=l.length:=by have:=HL.out;omega
   exact ⟨by rw [HZ.out,e,List.take_length];rfl,m,HW.out⟩
theorem zo2 (q:List Val) (p:Option Addr) (cap:Nat) (w:World) (hl:Held w (.slice p q.length cap) q) (hn:q.length≤2097152) (each:∀ u∈q,zrr u):
 Calls Tryz.prog 96 #[.slice p q.length cap] w fun e w'=>e=.returned (.int .i64 (zbn q 0))∧∃ m,w'=w.drewN m:=by
 cases q with
 | nil=>
   go_enter Tryz.func96,Tryz.ntmps96
   go_wp2_with fail
   go_loopg [3,4] 0 (fun gg s3 s4 wr=>gg=0∧s3=.int .i64 0∧s4=.int .i64 0∧wr=w)
   case atStart=>exact ⟨rfl,rfl,rfl,rfl⟩
   case round=>
    obtain ⟨_,rfl,rfl,rfl⟩:=hrel
    go_wp2_with fail
    go_ret
    exact ⟨rfl,0,rfl⟩
 | cons v r=>
   obtain ⟨g,off,rfl,hh⟩:=hl.form
   exact zxp (v::r) g off cap w hh hn each
mutual
theorem sizeVal:(v:Val)→zrr v
 | .mk k b n t x q=>fun W k1 b1 n1 t1 x1 q1 p cap e hn hl=>by
   cases e
   exact zo2 q p cap W hl hn (zm4 q)
theorem zm4:(q:List Val)→∀ u∈q,zrr u
 | [],_,h=>absurd h (by simp)
 | v::r,u,h=>by
   rcases List.mem_cons.1 h with h | h
   ·rw [h];exact sizeVal v
   ·exact zm4 r u h
end
end Go.Proofs.YteclpnfckjfibaaGreatDoor
