/- Results that are numbers. -/
import Derived.Test.YtoifjjgakblhhaaGreatDoorA0m
namespace Go.Proofs.YtoifjjgakblhhaaGreatDoor
open Go.RowKit
theorem results_num_tmp {fn : Func} {p q : Tmp} (h : fn.results = #[.cell p 136, .tmp q]) (tmps : Array Value) {w : World} {g : Nat} {c : Array Value} {n : Bool} {f : Nat → Nat} (v : Value)
    (hp : tmps.getD p undef = .pointer (some ⟨g, 0, none⟩)) (hq : tmps.getD q undef = v) (hg : Lies w g c n f) : (results fn tmps).run Tryz.prog w = .ok (.tuple #[.agg c, v]) w := by
  have hp' : tmps[p]?.getD undef = .pointer (some ⟨g, 0, none⟩) := by simpa using hp
  have hq' : tmps[q]?.getD undef = v := by simpa using hq
  have hl := run_loadVar_row (P := Tryz.prog) w g 136 136 c (0, 0) _ hg.1 Tryz.underlying136 rfl (by rw [hg.2.size]; exact info59)
  simp [results, h, hp', hq', asAddr, hl]
theorem results_num2_tmp {fn : Func} {p p2 q : Tmp} (h : fn.results = #[.cell p 136, .cell p2 136, .tmp q]) (tmps : Array Value) {w : World} {g g2 : Nat} {c c2 : Array Value} {n n2 : Bool} {f f2 : Nat → Nat} (v : Value)
    (hp : tmps.getD p undef = .pointer (some ⟨g, 0, none⟩)) (hp2 : tmps.getD p2 undef = .pointer (some ⟨g2, 0, none⟩)) (hq : tmps.getD q undef = v) (hg : Lies w g c n f) (hg2 : Lies w g2 c2 n2 f2) : (results fn tmps).run Tryz.prog w = .ok (.tuple #[.agg c, .agg c2, v]) w := by
  have hp' : tmps[p]?.getD undef = .pointer (some ⟨g, 0, none⟩) := by simpa using hp
  have hp2' : tmps[p2]?.getD undef = .pointer (some ⟨g2, 0, none⟩) := by simpa using hp2
  have hq' : tmps[q]?.getD undef = v := by simpa using hq
  have hl := run_loadVar_row (P := Tryz.prog) w g 136 136 c (0, 0) _ hg.1 Tryz.underlying136 rfl (by rw [hg.2.size]; exact info59)
  have hl2 := run_loadVar_row (P := Tryz.prog) w g2 136 136 c2 (0, 0) _ hg2.1 Tryz.underlying136 rfl (by rw [hg2.2.size]; exact info59)
  simp [results, h, hp', hp2', hq', asAddr, hl, hl2]
/-- A sign and noughts. -/
def sign59 (n : Bool) : Array Value := #[.bool n, .int .u32 0, .int .u32 0, .int .u32 0, .int .u32 0, .int .u32 0, .int .u32 0, .int .u32 0, .int .u32 0, .int .u32 0, .int .u32 0, .int .u32 0, .int .u32 0, .int .u32 0, .int .u32 0, .int .u32 0, .int .u32 0]
theorem isNum_sign (n : Bool) : IsNum (sign59 n) n (fun _ => 0) :=
  ⟨rfl, fun j hj => by have := isNum_zero.word j hj; rw [Nat.add_comm] at this ⊢; exact this, rfl, fun j _ => by decide⟩
theorem lies_sign (w : World) (n : Bool) {g : Nat} (e : w.heap.size = g) : Lies (w.alloc (.cells #[.bool n, .int .u32 0, .int .u32 0, .int .u32 0, .int .u32 0, .int .u32 0, .int .u32 0, .int .u32 0, .int .u32 0, .int .u32 0, .int .u32 0, .int .u32 0, .int .u32 0, .int .u32 0, .int .u32 0, .int .u32 0, .int .u32 0] 136)) g (sign59 n) n (fun _ => 0) :=
  ⟨heap_new _ _ e, isNum_sign n⟩

end Go.Proofs.YtoifjjgakblhhaaGreatDoor
