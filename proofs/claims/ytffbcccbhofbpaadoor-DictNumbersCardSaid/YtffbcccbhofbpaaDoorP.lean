/- The specification of texts of decimals: plain functions on bytes. No Go stands here. -/
import Derived.Lib.IndexMore
import Derived.Lib.TrimByte
namespace Go.Proofs.YtffbcccbhofbpaaDoor

/-- A digit's sign. -/
def isDig (c : UInt8) : Bool := 48 ≤ c && c ≤ 57
/-- Digits, one at least. -/
def digs (l : List UInt8) : Bool := !l.isEmpty && l.all isDig
/-- Nothing is said as 0. -/
def orN (l : List UInt8) : List UInt8 := if l.isEmpty then [48] else l
/-- The text of a sign and digits, if it may be. -/
def wr (neg : Bool) (a b : List UInt8) : Option (List UInt8) :=
  let x := Lib.trimLeftB a 48
  let y := Lib.trimRightB b 48
  if 40 < x.length ∨ 20 < y.length then none
  else some ((if neg && !(x ++ y).isEmpty then [45] else []) ++ (orN x ++ 46 :: orN y))
/-- The sign ahead, and what is behind it. -/
def sgn : List UInt8 → Bool × List UInt8
  | [] => (false, [])
  | c :: r => if c = 45 then (true, r) else if c = 43 then (false, r) else (false, c :: r)
/-- Sign, digits ahead of the point, digits behind it. -/
def splitP (l : List UInt8) : Option (Bool × List UInt8 × List UInt8) :=
  let c := Lib.cut (sgn l).2 [46]
  if digs c.1 && (!c.2.2 || digs c.2.1) then some ((sgn l).1, c.1, c.2.1) else none
/-- Read: the text, or none for what has no form; some none for what is too long. -/
def readP (l : List UInt8) : Option (Option (List UInt8)) := (splitP l).map fun x => wr x.1 x.2.1 x.2.2
/-- A decimal. -/
def chk (l : List UInt8) : Bool := readP l == some (some l)

theorem isDig_iff (c : UInt8) : isDig c = true ↔ 48 ≤ (c.toNat : Int) ∧ (c.toNat : Int) ≤ 57 := by
  unfold isDig
  rw [Bool.and_eq_true, decide_eq_true_iff, decide_eq_true_iff, UInt8.le_iff_toNat_le, UInt8.le_iff_toNat_le]
  show 48 ≤ c.toNat ∧ c.toNat ≤ 57 ↔ _
  omega

end Go.Proofs.YtffbcccbhofbpaaDoor
