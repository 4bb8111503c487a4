/- What a law of texts keeps from call to call. -/
import Derived.Test.YtabgilmehehbjaaDoorC1m
import Derived.BigGuardPart
import Derived.Deep.DeepCutAuto
namespace Go.Proofs.YtabgilmehehbjaaDoor
open Go.RowKit

theorem readDec (s : ByteArray) (w : World) (hG : Gd w) (hs : s.size < 4294967281) (h : chk s.data.toList = true) :
    Calls Tryd.prog 11 #[.string s] w fun e w' => e = .returned (.tuple #[.string s, .int .i64 0]) ∧ Below w.heap.size w w' := by
  have h' : readP s.data.toList = some (some s.data.toList) := by simpa [chk] using h
  have := readAt s w hG hs
  rw [h'] at this
  exact this
theorem shortB (s : ByteArray) (d : Bool) (w : World) (h : Hid (d = decide (s.size ≤ 300))) :
    Calls Tryd.prog 10 #[.string s] w fun e w' => e = .returned (.bool d) ∧ w = w' := by
  rw [h.out]
  go_enter Tryd.func10, Tryd.ntmps10
  go_wp2
  go_ret
  exact ⟨by simp; omega, rfl⟩
theorem checkB (s : ByteArray) (d : Bool) (w : World) (hG : Gd w) (hs : s.size < 4294967281) (h : Hid (d = chk s.data.toList)) :
    Calls Tryd.prog 15 #[.string s] w fun e w' => e = .returned (.bool d) ∧ Below w.heap.size w w' := by
  rw [h.out]; exact checkAt s w hG hs

/-- The strings of the argument, in memory. -/
def Strs (w : World) (b off n : Nat) (S : Nat → ByteArray) : Prop := ∀ i, i < n → w.cell? ⟨b, off + i, none⟩ = some (.string (S i))
theorem Strs.below {w w' : World} {b off n : Nat} {S : Nat → ByteArray} (h : Strs w b off n S) (k : Below w.heap.size w w') : Strs w' b off n S := fun i hi =>
  (k.cell (p := ⟨b, off + i, none⟩) (World.block_lt_of_cell? w _ (h i hi))).trans (h i hi)

theorem chk_len {l : List UInt8} (h : chk l = true) : l.length ≤ 62 := by
  obtain ⟨n, a, b, hsp, ha, hb, la, lb, hw, _⟩ := chk_parts l h
  unfold wr at hw
  simp only at hw
  split at hw
  · cases hw
  · rename_i hl
    have h1 : (orN (Lib.trimLeftB a 48)).length ≤ 40 := orN_len (by omega) (by omega)
    have h2 : (orN (Lib.trimRightB b 48)).length ≤ 20 := orN_len (by omega) (by omega)
    rw [← Option.some.inj hw]
    simp only [List.length_append, List.length_cons]
    split <;> simp <;> omega
theorem said_ok {z : Int} {x : ByteArray} {k : Int} (h : said (txt z) = .tuple #[.string x, .int .i64 k]) (hk : k = 0) : ∃ l, txt z = some l ∧ x = bs l := by
  cases e : txt z with
  | none => rw [e, hk] at h; simp [said] at h
  | some l => rw [e] at h; simp [said] at h; exact ⟨l, rfl, h.1.symm⟩
theorem said_k {z : Int} {x : ByteArray} {k : Int} (h : said (txt z) = .tuple #[.string x, .int .i64 k]) : k = 0 ∨ k = 2 := by
  cases e : txt z with
  | none => rw [e] at h; simp [said] at h; exact .inr h.2.symm
  | some l => rw [e] at h; simp [said] at h; exact .inl h.2.symm

/-- What holds at every call of a law's round. -/
structure Inv (w : World) (b off n cap : Nat) (S : Nat → ByteArray) (wr : World) : Prop where
  cell : wr.cell? ⟨w.heap.size, 0, none⟩ = some (.slice (some ⟨b, off, none⟩) n cap)
  lt : w.heap.size < wr.heap.size
  bel : Below w.heap.size w wr
  g : Gd wr
  t : Tab wr
  s : Strs wr b off n S
theorem Inv.step {w wr w' : World} {b off n cap : Nat} {S : Nat → ByteArray} (h : Inv w b off n cap S wr) (k : Below wr.heap.size wr w') : Inv w b off n cap S w' :=
  ⟨(k.cell (p := ⟨w.heap.size, 0, none⟩) h.lt).trans h.cell, Nat.lt_of_lt_of_le h.lt k.size, below_any h.bel k (Nat.le_of_lt h.lt), h.g.below k, h.t.below k, h.s.below k⟩
theorem Inv.start {w : World} {b off n cap : Nat} {S : Nat → ByteArray} (v2 : Value) (hG : Gd w) (hT : Tab w) (hS : Strs w b off n S) :
    Inv w b off n cap S (w.alloc (.cells #[.slice (some ⟨b, off, none⟩) n cap, v2] 25)) := by
  have hb0 : Below w.heap.size w (w.alloc (.cells #[.slice (some ⟨b, off, none⟩) n cap, v2] 25)) := (Below.refl _ _).alloc (Nat.le_refl _) _
  exact ⟨cell_of (heap_new _ _ rfl) _ rfl, by simp, hb0, hG.below hb0, hT.below hb0, hS.below hb0⟩
end Go.Proofs.YtabgilmehehbjaaDoor
