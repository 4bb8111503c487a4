/- Texts of one kind, one behind the other: each says ahead of itself what it shows. -/
import Derived.Test.YtanbgdhmfjgihaaGreatDoorJbe
/- A triple of values in an order of parts. -/
namespace Go.Proofs.YtanbgdhmfjgihaaGreatDoor
open Go.RowKit

theorem info63 : (Tryz.prog.info? 63).map (·.size) = some 18 := by kernel_rfl
/-- Three values in a block of their own. -/
def Way (W : World) (g : Nat) (a b c : V6) : Prop := W.heap[g]? = some (.cells #[.int .i64 a.k, .bool a.b, .int .i64 a.n, .string a.t, .string a.x, .slice a.p a.len a.cap, .int .i64 b.k, .bool b.b, .int .i64 b.n, .string b.t, .string b.x, .slice b.p b.len b.cap, .int .i64 c.k, .bool c.b, .int .i64 c.n, .string c.t, .string c.x, .slice c.p c.len c.cap] 63)
section
variable {w w' : World} {g e : Nat} {a b c : V6}
theorem Way.below (h : Way w g a b c) (k : Below w.heap.size w w') : Way w' g a b c := (k.block g (lt_of_heap h)).trans h
theorem Way.only (h : Way w g a b c) (k : Only e w w') (d : g ≠ e) : Way w' g a b c := (k.block g (lt_of_heap h) d).trans h
theorem Way.r0 (h : Way w g a b c) : w.rangeAt g 0 [.int .i64 a.k, .bool a.b, .int .i64 a.n, .string a.t, .string a.x, .slice a.p a.len a.cap] := fun i v hv => by
  have hi : i < 6 := (List.getElem?_eq_some_iff.1 hv).1
  match i, hi with
  | 0, _ | 1, _ | 2, _ | 3, _ | 4, _ | 5, _ => exact cell_of h _ hv
theorem Way.r1 (h : Way w g a b c) : w.rangeAt g 6 [.int .i64 b.k, .bool b.b, .int .i64 b.n, .string b.t, .string b.x, .slice b.p b.len b.cap] := fun i v hv => by
  have hi : i < 6 := (List.getElem?_eq_some_iff.1 hv).1
  match i, hi with
  | 0, _ | 1, _ | 2, _ | 3, _ | 4, _ | 5, _ => exact cell_of h _ hv
theorem Way.r2 (h : Way w g a b c) : w.rangeAt g 12 [.int .i64 c.k, .bool c.b, .int .i64 c.n, .string c.t, .string c.x, .slice c.p c.len c.cap] := fun i v hv => by
  have hi : i < 6 := (List.getElem?_eq_some_iff.1 hv).1
  match i, hi with
  | 0, _ | 1, _ | 2, _ | 3, _ | 4, _ | 5, _ => exact cell_of h _ hv
theorem Way.r18 (h : Way w g a b c) : w.rangeAt g 0 [.int .i64 a.k, .bool a.b, .int .i64 a.n, .string a.t, .string a.x, .slice a.p a.len a.cap, .int .i64 b.k, .bool b.b, .int .i64 b.n, .string b.t, .string b.x, .slice b.p b.len b.cap, .int .i64 c.k, .bool c.b, .int .i64 c.n, .string c.t, .string c.x, .slice c.p c.len c.cap] := fun i v hv => by
  rw [Nat.zero_add]
  exact cell_of h i (by simpa using hv)
theorem way_new (w : World) (a b c : V6) : Way (w.alloc (.cells #[.int .i64 a.k, .bool a.b, .int .i64 a.n, .string a.t, .string a.x, .slice a.p a.len a.cap, .int .i64 b.k, .bool b.b, .int .i64 b.n, .string b.t, .string b.x, .slice b.p b.len b.cap, .int .i64 c.k, .bool c.b, .int .i64 c.n, .string c.t, .string c.x, .slice c.p c.len c.cap] 63)) w.heap.size a b c := heap_new _ _ rfl
end
theorem there18 {w : World} {g : Nat} {cs : Array Value} {t : TypeId} (h : w.heap[g]? = some (.cells cs t)) (hs : cs.size = 18) (off : Nat) (ho : off + 6 ≤ 18) : w.there g off 6 := fun i hi => by
  refine ⟨?_, free_of h _⟩
  rw [cell_of h (off + i) (v := cs[off + i]'(by omega)) (Array.getElem?_eq_getElem (by omega))]
  rfl
theorem heap_six {w : World} {g : Nat} {cs : Array Value} {t : TypeId} (h : w.heap[g]? = some (.cells cs t)) (off : Nat) (v0 v1 v2 v3 v4 v5 : Value) :
    (w.setCells g off [v0, v1, v2, v3, v4, v5]).heap[g]? = some (.cells ((((((cs.setIfInBounds off v0).setIfInBounds (off + 1) v1).setIfInBounds (off + 2) v2).setIfInBounds (off + 3) v3).setIfInBounds (off + 4) v4).setIfInBounds (off + 5) v5) t) :=
  heap_set (heap_set (heap_set (heap_set (heap_set (heap_set h off v0) (off + 1) v1) (off + 2) v2) (off + 3) v3) (off + 4) v4) (off + 5) v5
/-- A value is written at one of three places of a block. -/
theorem wpList_storePart {ops : Array Oper} {rest : List Oper} {op : Oper} {a : Act} {w : World} {Q : Exit → Act → World → Prop} (x y : Operand) (g off : Nat) (v : V6) {cs : Array Value} {t : TypeId} (h : w.heap[g]? = some (.cells cs t)) (hs : cs.size = 18) (ho6 : off + 6 ≤ 18)
    (hgd : op.guard = none) (ho : op.op = .store 39 x y) (hx : a.eval x = .pointer (some ⟨g, off, none⟩)) (hy : a.eval y = .agg #[.int .i64 v.k, .bool v.b, .int .i64 v.n, .string v.t, .string v.x, .slice v.p v.len v.cap])
    (hk : ∀ w', Only g w w' → w'.heap[g]? = some (.cells ((((((cs.setIfInBounds off (.int .i64 v.k)).setIfInBounds (off + 1) (.bool v.b)).setIfInBounds (off + 2) (.int .i64 v.n)).setIfInBounds (off + 3) (.string v.t)).setIfInBounds (off + 4) (.string v.x)).setIfInBounds (off + 5) (.slice v.p v.len v.cap)) t) → wpList Tryz.prog ops Q rest (a.put op.dst undef) w') : wpList Tryz.prog ops Q (op :: rest) a w :=
  wpList_store_mid hgd 39 x y ho g off #[.int .i64 v.k, .bool v.b, .int .i64 v.n, .string v.t, .string v.x, .slice v.p v.len v.cap] hx hy (there18 h hs off ho6) info28 (by simp [Value.oneCell']) (hk _ (only_setCells g _ off w) (heap_six h off _ _ _ _ _ _))

set_option maxHeartbeats 3200000 in
set_option maxRecDepth 20000 in
theorem triLaw0 (e0 e1 e2 : V6) (w : World) : Calls Tryz.prog 35 #[.string ⟨#[115, 112, 111]⟩, .agg #[.int .i64 e0.k, .bool e0.b, .int .i64 e0.n, .string e0.t, .string e0.x, .slice e0.p e0.len e0.cap, .int .i64 e1.k, .bool e1.b, .int .i64 e1.n, .string e1.t, .string e1.x, .slice e1.p e1.len e1.cap, .int .i64 e2.k, .bool e2.b, .int .i64 e2.n, .string e2.t, .string e2.x, .slice e2.p e2.len e2.cap]] w fun e w' => e = .returned (.agg #[.int .i64 e0.k, .bool e0.b, .int .i64 e0.n, .string e0.t, .string e0.x, .slice e0.p e0.len e0.cap, .int .i64 e1.k, .bool e1.b, .int .i64 e1.n, .string e1.t, .string e1.x, .slice e1.p e1.len e1.cap, .int .i64 e2.k, .bool e2.b, .int .i64 e2.n, .string e2.t, .string e2.x, .slice e2.p e2.len e2.cap]) ∧ Below w.heap.size w w' := by
  obtain ⟨z, hz⟩ : ∃ z : V6, z = ⟨0, false, 0, ⟨#[]⟩, ⟨#[]⟩, none, 0, 0⟩ := ⟨_, rfl⟩
  obtain ⟨W0, hW0⟩ : ∃ W0, W0 = ((w.alloc (.cells #[.int .i64 e0.k, .bool e0.b, .int .i64 e0.n, .string e0.t, .string e0.x, .slice e0.p e0.len e0.cap, .int .i64 e1.k, .bool e1.b, .int .i64 e1.n, .string e1.t, .string e1.x, .slice e1.p e1.len e1.cap, .int .i64 e2.k, .bool e2.b, .int .i64 e2.n, .string e2.t, .string e2.x, .slice e2.p e2.len e2.cap] 63)).alloc (.cells #[.int .i64 0, .bool false, .int .i64 0, .string ⟨#[]⟩, .string ⟨#[]⟩, .slice none 0 0, .int .i64 0, .bool false, .int .i64 0, .string ⟨#[]⟩, .string ⟨#[]⟩, .slice none 0 0, .int .i64 0, .bool false, .int .i64 0, .string ⟨#[]⟩, .string ⟨#[]⟩, .slice none 0 0] 41)).alloc (.cells #[.int .i64 0, .bool false, .int .i64 0, .string ⟨#[]⟩, .string ⟨#[]⟩, .slice none 0 0, .int .i64 0, .bool false, .int .i64 0, .string ⟨#[]⟩, .string ⟨#[]⟩, .slice none 0 0, .int .i64 0, .bool false, .int .i64 0, .string ⟨#[]⟩, .string ⟨#[]⟩, .slice none 0 0] 41) := ⟨_, rfl⟩
  have b0 : Below w.heap.size w W0 := by rw [hW0]; exact below3 _ _ _ _
  have Y0 : Way W0 w.heap.size e0 e1 e2 := by rw [hW0]; exact heap_old _ (heap_old _ (way_new w e0 e1 e2))
  have R0 : Box18 W0 (w.heap.size + 1) z z z := by rw [hW0, hz]; exact heap_old _ (heap_new _ _ (by simp))
  have X0 : Box18 W0 (w.heap.size + 2) z z z := by rw [hW0, hz]; exact heap_new _ _ (by simp)
  have HW := Lib.hid hW0
  have H0 := Lib.hid (And.intro b0 (And.intro Y0 R0))
  have HX0 := Lib.hid X0
  clear hW0 hz b0 Y0 R0 X0
  go_enter Tryz.func35, Tryz.ntmps35
  go_wp2_with fail
  rw [← HW.out]
  go_loopw [6] (fun i wr => Hid (Below w.heap.size w wr ∧ Way wr w.heap.size e0 e1 e2 ∧ Box18 wr (w.heap.size + 1) z z z) ∧ ∃ j : Nat, i = .int .i64 j ∧ ((j = 0 ∧ Box18 wr (w.heap.size + 2) z z z) ∨ (j = 1 ∧ Box18 wr (w.heap.size + 2) e0 z z) ∨ (j = 2 ∧ Box18 wr (w.heap.size + 2) e0 e1 z) ∨ (j = 3 ∧ Box18 wr (w.heap.size + 2) e0 e1 e2))) (fun i _ => 3 - (intOf i).toNat)
  case atStart => exact ⟨H0, 0, rfl, .inl ⟨rfl, HX0.out⟩⟩
  case round =>
    obtain ⟨HI, j, rfl, ⟨rfl, X⟩ | ⟨rfl, X⟩ | ⟨rfl, X⟩ | ⟨rfl, X⟩⟩ := hrel
    · have Yr := HI.out.2.1.r0
      have hX : wr.heap[w.heap.size + 2]? = some (.cells #[.int .i64 z.k, .bool z.b, .int .i64 z.n, .string z.t, .string z.x, .slice z.p z.len z.cap, .int .i64 z.k, .bool z.b, .int .i64 z.n, .string z.t, .string z.x, .slice z.p z.len z.cap, .int .i64 z.k, .bool z.b, .int .i64 z.n, .string z.t, .string z.x, .slice z.p z.len z.cap] 41) := X
      go_wp2_with (first
        | ((with_reducible refine wpList_mid6 (.tmp 21) w.heap.size 0 e0 Yr ?_ ?_ ?_ ?_); rfl; rfl; rfl)
        | ((with_reducible refine wpList_storePart (.tmp 23) (.tmp 22) (w.heap.size + 2) 0 e0 hX rfl (by decide) ?_ ?_ ?_ ?_ ?_); rfl; rfl; rfl; rfl; intro w5 ho5 hX5))
      have HI5 : Hid (Below w.heap.size w w5 ∧ Way w5 w.heap.size e0 e1 e2 ∧ Box18 w5 (w.heap.size + 1) z z z) := Lib.hid ⟨below_only HI.out.1 ho5 (by omega) HI.out.1.size, HI.out.2.1.only ho5 (by omega), HI.out.2.2.only ho5 (by omega)⟩
      have HX5 : Hid (Box18 w5 (w.heap.size + 2) e0 z z) := Lib.hid hX5
      clear ho5 hX5 Yr hX
      go_roundw
      case rel => exact ⟨HI5, 1, by go_num, .inr (.inl ⟨rfl, HX5.out⟩)⟩
      case measure => simp [intOf]
    · have Yr := HI.out.2.1.r1
      have hX : wr.heap[w.heap.size + 2]? = some (.cells #[.int .i64 e0.k, .bool e0.b, .int .i64 e0.n, .string e0.t, .string e0.x, .slice e0.p e0.len e0.cap, .int .i64 z.k, .bool z.b, .int .i64 z.n, .string z.t, .string z.x, .slice z.p z.len z.cap, .int .i64 z.k, .bool z.b, .int .i64 z.n, .string z.t, .string z.x, .slice z.p z.len z.cap] 41) := X
      go_wp2_with (first
        | ((with_reducible refine wpList_mid6 (.tmp 27) w.heap.size 6 e1 Yr ?_ ?_ ?_ ?_); rfl; rfl; rfl)
        | ((with_reducible refine wpList_storePart (.tmp 29) (.tmp 28) (w.heap.size + 2) 6 e1 hX rfl (by decide) ?_ ?_ ?_ ?_ ?_); rfl; rfl; rfl; rfl; intro w5 ho5 hX5))
      have HI5 : Hid (Below w.heap.size w w5 ∧ Way w5 w.heap.size e0 e1 e2 ∧ Box18 w5 (w.heap.size + 1) z z z) := Lib.hid ⟨below_only HI.out.1 ho5 (by omega) HI.out.1.size, HI.out.2.1.only ho5 (by omega), HI.out.2.2.only ho5 (by omega)⟩
      have HX5 : Hid (Box18 w5 (w.heap.size + 2) e0 e1 z) := Lib.hid hX5
      clear ho5 hX5 Yr hX
      go_roundw
      case rel => exact ⟨HI5, 2, by go_num, .inr (.inr (.inl ⟨rfl, HX5.out⟩))⟩
      case measure => simp [intOf]
    · have Yr := HI.out.2.1.r2
      have hX : wr.heap[w.heap.size + 2]? = some (.cells #[.int .i64 e0.k, .bool e0.b, .int .i64 e0.n, .string e0.t, .string e0.x, .slice e0.p e0.len e0.cap, .int .i64 e1.k, .bool e1.b, .int .i64 e1.n, .string e1.t, .string e1.x, .slice e1.p e1.len e1.cap, .int .i64 z.k, .bool z.b, .int .i64 z.n, .string z.t, .string z.x, .slice z.p z.len z.cap] 41) := X
      go_wp2_with (first
        | ((with_reducible refine wpList_mid6 (.tmp 15) w.heap.size 12 e2 Yr ?_ ?_ ?_ ?_); rfl; rfl; rfl)
        | ((with_reducible refine wpList_storePart (.tmp 17) (.tmp 16) (w.heap.size + 2) 12 e2 hX rfl (by decide) ?_ ?_ ?_ ?_ ?_); rfl; rfl; rfl; rfl; intro w5 ho5 hX5))
      have HI5 : Hid (Below w.heap.size w w5 ∧ Way w5 w.heap.size e0 e1 e2 ∧ Box18 w5 (w.heap.size + 1) z z z) := Lib.hid ⟨below_only HI.out.1 ho5 (by omega) HI.out.1.size, HI.out.2.1.only ho5 (by omega), HI.out.2.2.only ho5 (by omega)⟩
      have HX5 : Hid (Box18 w5 (w.heap.size + 2) e0 e1 e2) := Lib.hid hX5
      clear ho5 hX5 Yr hX
      go_roundw
      case rel => exact ⟨HI5, 3, by go_num, .inr (.inr (.inr ⟨rfl, HX5.out⟩))⟩
      case measure => simp [intOf]
    · have X18 := X.r18
      have hB : wr.heap[w.heap.size + 1]? = some (.cells #[.int .i64 z.k, .bool z.b, .int .i64 z.n, .string z.t, .string z.x, .slice z.p z.len z.cap, .int .i64 z.k, .bool z.b, .int .i64 z.n, .string z.t, .string z.x, .slice z.p z.len z.cap, .int .i64 z.k, .bool z.b, .int .i64 z.n, .string z.t, .string z.x, .slice z.p z.len z.cap] 41) := HI.out.2.2
      go_wp2_with (first
        | ((with_reducible refine wpList_load18 (.tmp 5) (w.heap.size + 2) 0 e0 e1 e2 X18 ?_ ?_ ?_ ?_); rfl; rfl; rfl)
        | ((with_reducible refine wpList_store18 (.tmp 4) (.tmp 30) (w.heap.size + 1) e0 e1 e2 hB rfl ?_ ?_ ?_ ?_ ?_); rfl; rfl; rfl; rfl; intro w5 ho5 hB5))
      exact bodyPost_ret (v := .agg #[.int .i64 e0.k, .bool e0.b, .int .i64 e0.n, .string e0.t, .string e0.x, .slice e0.p e0.len e0.cap, .int .i64 e1.k, .bool e1.b, .int .i64 e1.n, .string e1.t, .string e1.x, .slice e1.p e1.len e1.cap, .int .i64 e2.k, .bool e2.b, .int .i64 e2.n, .string e2.t, .string e2.x, .slice e2.p e2.len e2.cap]) (results_cell_row (p := 4) (ty := 41) Tryz.results35 _ _ (w.heap.size + 1) 41 _ (0, 0) _ rfl hB5 Tryz.underlying41 rfl (by exact info41)) rfl ⟨rfl, below_only HI.out.1 ho5 (by omega) HI.out.1.size⟩

set_option maxHeartbeats 3200000 in
set_option maxRecDepth 20000 in
theorem triLaw1 (e0 e1 e2 : V6) (w : World) : Calls Tryz.prog 35 #[.string ⟨#[115, 111, 112]⟩, .agg #[.int .i64 e0.k, .bool e0.b, .int .i64 e0.n, .string e0.t, .string e0.x, .slice e0.p e0.len e0.cap, .int .i64 e1.k, .bool e1.b, .int .i64 e1.n, .string e1.t, .string e1.x, .slice e1.p e1.len e1.cap, .int .i64 e2.k, .bool e2.b, .int .i64 e2.n, .string e2.t, .string e2.x, .slice e2.p e2.len e2.cap]] w fun e w' => e = .returned (.agg #[.int .i64 e0.k, .bool e0.b, .int .i64 e0.n, .string e0.t, .string e0.x, .slice e0.p e0.len e0.cap, .int .i64 e2.k, .bool e2.b, .int .i64 e2.n, .string e2.t, .string e2.x, .slice e2.p e2.len e2.cap, .int .i64 e1.k, .bool e1.b, .int .i64 e1.n, .string e1.t, .string e1.x, .slice e1.p e1.len e1.cap]) ∧ Below w.heap.size w w' := by
  obtain ⟨z, hz⟩ : ∃ z : V6, z = ⟨0, false, 0, ⟨#[]⟩, ⟨#[]⟩, none, 0, 0⟩ := ⟨_, rfl⟩
  obtain ⟨W0, hW0⟩ : ∃ W0, W0 = ((w.alloc (.cells #[.int .i64 e0.k, .bool e0.b, .int .i64 e0.n, .string e0.t, .string e0.x, .slice e0.p e0.len e0.cap, .int .i64 e1.k, .bool e1.b, .int .i64 e1.n, .string e1.t, .string e1.x, .slice e1.p e1.len e1.cap, .int .i64 e2.k, .bool e2.b, .int .i64 e2.n, .string e2.t, .string e2.x, .slice e2.p e2.len e2.cap] 63)).alloc (.cells #[.int .i64 0, .bool false, .int .i64 0, .string ⟨#[]⟩, .string ⟨#[]⟩, .slice none 0 0, .int .i64 0, .bool false, .int .i64 0, .string ⟨#[]⟩, .string ⟨#[]⟩, .slice none 0 0, .int .i64 0, .bool false, .int .i64 0, .string ⟨#[]⟩, .string ⟨#[]⟩, .slice none 0 0] 41)).alloc (.cells #[.int .i64 0, .bool false, .int .i64 0, .string ⟨#[]⟩, .string ⟨#[]⟩, .slice none 0 0, .int .i64 0, .bool false, .int .i64 0, .string ⟨#[]⟩, .string ⟨#[]⟩, .slice none 0 0, .int .i64 0, .bool false, .int .i64 0, .string ⟨#[]⟩, .string ⟨#[]⟩, .slice none 0 0] 41) := ⟨_, rfl⟩
  have b0 : Below w.heap.size w W0 := by rw [hW0]; exact below3 _ _ _ _
  have Y0 : Way W0 w.heap.size e0 e1 e2 := by rw [hW0]; exact heap_old _ (heap_old _ (way_new w e0 e1 e2))
  have R0 : Box18 W0 (w.heap.size + 1) z z z := by rw [hW0, hz]; exact heap_old _ (heap_new _ _ (by simp))
  have X0 : Box18 W0 (w.heap.size + 2) z z z := by rw [hW0, hz]; exact heap_new _ _ (by simp)
  have HW := Lib.hid hW0
  have H0 := Lib.hid (And.intro b0 (And.intro Y0 R0))
  have HX0 := Lib.hid X0
  clear hW0 hz b0 Y0 R0 X0
  go_enter Tryz.func35, Tryz.ntmps35
  go_wp2_with fail
  rw [← HW.out]
  go_loopw [6] (fun i wr => Hid (Below w.heap.size w wr ∧ Way wr w.heap.size e0 e1 e2 ∧ Box18 wr (w.heap.size + 1) z z z) ∧ ∃ j : Nat, i = .int .i64 j ∧ ((j = 0 ∧ Box18 wr (w.heap.size + 2) z z z) ∨ (j = 1 ∧ Box18 wr (w.heap.size + 2) e0 z z) ∨ (j = 2 ∧ Box18 wr (w.heap.size + 2) e0 z e1) ∨ (j = 3 ∧ Box18 wr (w.heap.size + 2) e0 e2 e1))) (fun i _ => 3 - (intOf i).toNat)
  case atStart => exact ⟨H0, 0, rfl, .inl ⟨rfl, HX0.out⟩⟩
  case round =>
    obtain ⟨HI, j, rfl, ⟨rfl, X⟩ | ⟨rfl, X⟩ | ⟨rfl, X⟩ | ⟨rfl, X⟩⟩ := hrel
    · have Yr := HI.out.2.1.r0
      have hX : wr.heap[w.heap.size + 2]? = some (.cells #[.int .i64 z.k, .bool z.b, .int .i64 z.n, .string z.t, .string z.x, .slice z.p z.len z.cap, .int .i64 z.k, .bool z.b, .int .i64 z.n, .string z.t, .string z.x, .slice z.p z.len z.cap, .int .i64 z.k, .bool z.b, .int .i64 z.n, .string z.t, .string z.x, .slice z.p z.len z.cap] 41) := X
      go_wp2_with (first
        | ((with_reducible refine wpList_mid6 (.tmp 21) w.heap.size 0 e0 Yr ?_ ?_ ?_ ?_); rfl; rfl; rfl)
        | ((with_reducible refine wpList_storePart (.tmp 23) (.tmp 22) (w.heap.size + 2) 0 e0 hX rfl (by decide) ?_ ?_ ?_ ?_ ?_); rfl; rfl; rfl; rfl; intro w5 ho5 hX5))
      have HI5 : Hid (Below w.heap.size w w5 ∧ Way w5 w.heap.size e0 e1 e2 ∧ Box18 w5 (w.heap.size + 1) z z z) := Lib.hid ⟨below_only HI.out.1 ho5 (by omega) HI.out.1.size, HI.out.2.1.only ho5 (by omega), HI.out.2.2.only ho5 (by omega)⟩
      have HX5 : Hid (Box18 w5 (w.heap.size + 2) e0 z z) := Lib.hid hX5
      clear ho5 hX5 Yr hX
      go_roundw
      case rel => exact ⟨HI5, 1, by go_num, .inr (.inl ⟨rfl, HX5.out⟩)⟩
      case measure => simp [intOf]
    · have Yr := HI.out.2.1.r1
      have hX : wr.heap[w.heap.size + 2]? = some (.cells #[.int .i64 e0.k, .bool e0.b, .int .i64 e0.n, .string e0.t, .string e0.x, .slice e0.p e0.len e0.cap, .int .i64 z.k, .bool z.b, .int .i64 z.n, .string z.t, .string z.x, .slice z.p z.len z.cap, .int .i64 z.k, .bool z.b, .int .i64 z.n, .string z.t, .string z.x, .slice z.p z.len z.cap] 41) := X
      go_wp2_with (first
        | ((with_reducible refine wpList_mid6 (.tmp 15) w.heap.size 6 e1 Yr ?_ ?_ ?_ ?_); rfl; rfl; rfl)
        | ((with_reducible refine wpList_storePart (.tmp 17) (.tmp 16) (w.heap.size + 2) 12 e1 hX rfl (by decide) ?_ ?_ ?_ ?_ ?_); rfl; rfl; rfl; rfl; intro w5 ho5 hX5))
      have HI5 : Hid (Below w.heap.size w w5 ∧ Way w5 w.heap.size e0 e1 e2 ∧ Box18 w5 (w.heap.size + 1) z z z) := Lib.hid ⟨below_only HI.out.1 ho5 (by omega) HI.out.1.size, HI.out.2.1.only ho5 (by omega), HI.out.2.2.only ho5 (by omega)⟩
      have HX5 : Hid (Box18 w5 (w.heap.size + 2) e0 z e1) := Lib.hid hX5
      clear ho5 hX5 Yr hX
      go_roundw
      case rel => exact ⟨HI5, 2, by go_num, .inr (.inr (.inl ⟨rfl, HX5.out⟩))⟩
      case measure => simp [intOf]
    · have Yr := HI.out.2.1.r2
      have hX : wr.heap[w.heap.size + 2]? = some (.cells #[.int .i64 e0.k, .bool e0.b, .int .i64 e0.n, .string e0.t, .string e0.x, .slice e0.p e0.len e0.cap, .int .i64 z.k, .bool z.b, .int .i64 z.n, .string z.t, .string z.x, .slice z.p z.len z.cap, .int .i64 e1.k, .bool e1.b, .int .i64 e1.n, .string e1.t, .string e1.x, .slice e1.p e1.len e1.cap] 41) := X
      go_wp2_with (first
        | ((with_reducible refine wpList_mid6 (.tmp 27) w.heap.size 12 e2 Yr ?_ ?_ ?_ ?_); rfl; rfl; rfl)
        | ((with_reducible refine wpList_storePart (.tmp 29) (.tmp 28) (w.heap.size + 2) 6 e2 hX rfl (by decide) ?_ ?_ ?_ ?_ ?_); rfl; rfl; rfl; rfl; intro w5 ho5 hX5))
      have HI5 : Hid (Below w.heap.size w w5 ∧ Way w5 w.heap.size e0 e1 e2 ∧ Box18 w5 (w.heap.size + 1) z z z) := Lib.hid ⟨below_only HI.out.1 ho5 (by omega) HI.out.1.size, HI.out.2.1.only ho5 (by omega), HI.out.2.2.only ho5 (by omega)⟩
      have HX5 : Hid (Box18 w5 (w.heap.size + 2) e0 e2 e1) := Lib.hid hX5
      clear ho5 hX5 Yr hX
      go_roundw
      case rel => exact ⟨HI5, 3, by go_num, .inr (.inr (.inr ⟨rfl, HX5.out⟩))⟩
      case measure => simp [intOf]
    · have X18 := X.r18
      have hB : wr.heap[w.heap.size + 1]? = some (.cells #[.int .i64 z.k, .bool z.b, .int .i64 z.n, .string z.t, .string z.x, .slice z.p z.len z.cap, .int .i64 z.k, .bool z.b, .int .i64 z.n, .string z.t, .string z.x, .slice z.p z.len z.cap, .int .i64 z.k, .bool z.b, .int .i64 z.n, .string z.t, .string z.x, .slice z.p z.len z.cap] 41) := HI.out.2.2
      go_wp2_with (first
        | ((with_reducible refine wpList_load18 (.tmp 5) (w.heap.size + 2) 0 e0 e2 e1 X18 ?_ ?_ ?_ ?_); rfl; rfl; rfl)
        | ((with_reducible refine wpList_store18 (.tmp 4) (.tmp 30) (w.heap.size + 1) e0 e2 e1 hB rfl ?_ ?_ ?_ ?_ ?_); rfl; rfl; rfl; rfl; intro w5 ho5 hB5))
      exact bodyPost_ret (v := .agg #[.int .i64 e0.k, .bool e0.b, .int .i64 e0.n, .string e0.t, .string e0.x, .slice e0.p e0.len e0.cap, .int .i64 e2.k, .bool e2.b, .int .i64 e2.n, .string e2.t, .string e2.x, .slice e2.p e2.len e2.cap, .int .i64 e1.k, .bool e1.b, .int .i64 e1.n, .string e1.t, .string e1.x, .slice e1.p e1.len e1.cap]) (results_cell_row (p := 4) (ty := 41) Tryz.results35 _ _ (w.heap.size + 1) 41 _ (0, 0) _ rfl hB5 Tryz.underlying41 rfl (by exact info41)) rfl ⟨rfl, below_only HI.out.1 ho5 (by omega) HI.out.1.size⟩

set_option maxHeartbeats 3200000 in
set_option maxRecDepth 20000 in
theorem triLaw2 (e0 e1 e2 : V6) (w : World) : Calls Tryz.prog 35 #[.string ⟨#[112, 115, 111]⟩, .agg #[.int .i64 e0.k, .bool e0.b, .int .i64 e0.n, .string e0.t, .string e0.x, .slice e0.p e0.len e0.cap, .int .i64 e1.k, .bool e1.b, .int .i64 e1.n, .string e1.t, .string e1.x, .slice e1.p e1.len e1.cap, .int .i64 e2.k, .bool e2.b, .int .i64 e2.n, .string e2.t, .string e2.x, .slice e2.p e2.len e2.cap]] w fun e w' => e = .returned (.agg #[.int .i64 e1.k, .bool e1.b, .int .i64 e1.n, .string e1.t, .string e1.x, .slice e1.p e1.len e1.cap, .int .i64 e0.k, .bool e0.b, .int .i64 e0.n, .string e0.t, .string e0.x, .slice e0.p e0.len e0.cap, .int .i64 e2.k, .bool e2.b, .int .i64 e2.n, .string e2.t, .string e2.x, .slice e2.p e2.len e2.cap]) ∧ Below w.heap.size w w' := by
  obtain ⟨z, hz⟩ : ∃ z : V6, z = ⟨0, false, 0, ⟨#[]⟩, ⟨#[]⟩, none, 0, 0⟩ := ⟨_, rfl⟩
  obtain ⟨W0, hW0⟩ : ∃ W0, W0 = ((w.alloc (.cells #[.int .i64 e0.k, .bool e0.b, .int .i64 e0.n, .string e0.t, .string e0.x, .slice e0.p e0.len e0.cap, .int .i64 e1.k, .bool e1.b, .int .i64 e1.n, .string e1.t, .string e1.x, .slice e1.p e1.len e1.cap, .int .i64 e2.k, .bool e2.b, .int .i64 e2.n, .string e2.t, .string e2.x, .slice e2.p e2.len e2.cap] 63)).alloc (.cells #[.int .i64 0, .bool false, .int .i64 0, .string ⟨#[]⟩, .string ⟨#[]⟩, .slice none 0 0, .int .i64 0, .bool false, .int .i64 0, .string ⟨#[]⟩, .string ⟨#[]⟩, .slice none 0 0, .int .i64 0, .bool false, .int .i64 0, .string ⟨#[]⟩, .string ⟨#[]⟩, .slice none 0 0] 41)).alloc (.cells #[.int .i64 0, .bool false, .int .i64 0, .string ⟨#[]⟩, .string ⟨#[]⟩, .slice none 0 0, .int .i64 0, .bool false, .int .i64 0, .string ⟨#[]⟩, .string ⟨#[]⟩, .slice none 0 0, .int .i64 0, .bool false, .int .i64 0, .string ⟨#[]⟩, .string ⟨#[]⟩, .slice none 0 0] 41) := ⟨_, rfl⟩
  have b0 : Below w.heap.size w W0 := by rw [hW0]; exact below3 _ _ _ _
  have Y0 : Way W0 w.heap.size e0 e1 e2 := by rw [hW0]; exact heap_old _ (heap_old _ (way_new w e0 e1 e2))
  have R0 : Box18 W0 (w.heap.size + 1) z z z := by rw [hW0, hz]; exact heap_old _ (heap_new _ _ (by simp))
  have X0 : Box18 W0 (w.heap.size + 2) z z z := by rw [hW0, hz]; exact heap_new _ _ (by simp)
  have HW := Lib.hid hW0
  have H0 := Lib.hid (And.intro b0 (And.intro Y0 R0))
  have HX0 := Lib.hid X0
  clear hW0 hz b0 Y0 R0 X0
  go_enter Tryz.func35, Tryz.ntmps35
  go_wp2_with fail
  rw [← HW.out]
  go_loopw [6] (fun i wr => Hid (Below w.heap.size w wr ∧ Way wr w.heap.size e0 e1 e2 ∧ Box18 wr (w.heap.size + 1) z z z) ∧ ∃ j : Nat, i = .int .i64 j ∧ ((j = 0 ∧ Box18 wr (w.heap.size + 2) z z z) ∨ (j = 1 ∧ Box18 wr (w.heap.size + 2) z e0 z) ∨ (j = 2 ∧ Box18 wr (w.heap.size + 2) e1 e0 z) ∨ (j = 3 ∧ Box18 wr (w.heap.size + 2) e1 e0 e2))) (fun i _ => 3 - (intOf i).toNat)
  case atStart => exact ⟨H0, 0, rfl, .inl ⟨rfl, HX0.out⟩⟩
  case round =>
    obtain ⟨HI, j, rfl, ⟨rfl, X⟩ | ⟨rfl, X⟩ | ⟨rfl, X⟩ | ⟨rfl, X⟩⟩ := hrel
    · have Yr := HI.out.2.1.r0
      have hX : wr.heap[w.heap.size + 2]? = some (.cells #[.int .i64 z.k, .bool z.b, .int .i64 z.n, .string z.t, .string z.x, .slice z.p z.len z.cap, .int .i64 z.k, .bool z.b, .int .i64 z.n, .string z.t, .string z.x, .slice z.p z.len z.cap, .int .i64 z.k, .bool z.b, .int .i64 z.n, .string z.t, .string z.x, .slice z.p z.len z.cap] 41) := X
      go_wp2_with (first
        | ((with_reducible refine wpList_mid6 (.tmp 27) w.heap.size 0 e0 Yr ?_ ?_ ?_ ?_); rfl; rfl; rfl)
        | ((with_reducible refine wpList_storePart (.tmp 29) (.tmp 28) (w.heap.size + 2) 6 e0 hX rfl (by decide) ?_ ?_ ?_ ?_ ?_); rfl; rfl; rfl; rfl; intro w5 ho5 hX5))
      have HI5 : Hid (Below w.heap.size w w5 ∧ Way w5 w.heap.size e0 e1 e2 ∧ Box18 w5 (w.heap.size + 1) z z z) := Lib.hid ⟨below_only HI.out.1 ho5 (by omega) HI.out.1.size, HI.out.2.1.only ho5 (by omega), HI.out.2.2.only ho5 (by omega)⟩
      have HX5 : Hid (Box18 w5 (w.heap.size + 2) z e0 z) := Lib.hid hX5
      clear ho5 hX5 Yr hX
      go_roundw
      case rel => exact ⟨HI5, 1, by go_num, .inr (.inl ⟨rfl, HX5.out⟩)⟩
      case measure => simp [intOf]
    · have Yr := HI.out.2.1.r1
      have hX : wr.heap[w.heap.size + 2]? = some (.cells #[.int .i64 z.k, .bool z.b, .int .i64 z.n, .string z.t, .string z.x, .slice z.p z.len z.cap, .int .i64 e0.k, .bool e0.b, .int .i64 e0.n, .string e0.t, .string e0.x, .slice e0.p e0.len e0.cap, .int .i64 z.k, .bool z.b, .int .i64 z.n, .string z.t, .string z.x, .slice z.p z.len z.cap] 41) := X
      go_wp2_with (first
        | ((with_reducible refine wpList_mid6 (.tmp 21) w.heap.size 6 e1 Yr ?_ ?_ ?_ ?_); rfl; rfl; rfl)
        | ((with_reducible refine wpList_storePart (.tmp 23) (.tmp 22) (w.heap.size + 2) 0 e1 hX rfl (by decide) ?_ ?_ ?_ ?_ ?_); rfl; rfl; rfl; rfl; intro w5 ho5 hX5))
      have HI5 : Hid (Below w.heap.size w w5 ∧ Way w5 w.heap.size e0 e1 e2 ∧ Box18 w5 (w.heap.size + 1) z z z) := Lib.hid ⟨below_only HI.out.1 ho5 (by omega) HI.out.1.size, HI.out.2.1.only ho5 (by omega), HI.out.2.2.only ho5 (by omega)⟩
      have HX5 : Hid (Box18 w5 (w.heap.size + 2) e1 e0 z) := Lib.hid hX5
      clear ho5 hX5 Yr hX
      go_roundw
      case rel => exact ⟨HI5, 2, by go_num, .inr (.inr (.inl ⟨rfl, HX5.out⟩))⟩
      case measure => simp [intOf]
    · have Yr := HI.out.2.1.r2
      have hX : wr.heap[w.heap.size + 2]? = some (.cells #[.int .i64 e1.k, .bool e1.b, .int .i64 e1.n, .string e1.t, .string e1.x, .slice e1.p e1.len e1.cap, .int .i64 e0.k, .bool e0.b, .int .i64 e0.n, .string e0.t, .string e0.x, .slice e0.p e0.len e0.cap, .int .i64 z.k, .bool z.b, .int .i64 z.n, .string z.t, .string z.x, .slice z.p z.len z.cap] 41) := X
      go_wp2_with (first
        | ((with_reducible refine wpList_mid6 (.tmp 15) w.heap.size 12 e2 Yr ?_ ?_ ?_ ?_); rfl; rfl; rfl)
        | ((with_reducible refine wpList_storePart (.tmp 17) (.tmp 16) (w.heap.size + 2) 12 e2 hX rfl (by decide) ?_ ?_ ?_ ?_ ?_); rfl; rfl; rfl; rfl; intro w5 ho5 hX5))
      have HI5 : Hid (Below w.heap.size w w5 ∧ Way w5 w.heap.size e0 e1 e2 ∧ Box18 w5 (w.heap.size + 1) z z z) := Lib.hid ⟨below_only HI.out.1 ho5 (by omega) HI.out.1.size, HI.out.2.1.only ho5 (by omega), HI.out.2.2.only ho5 (by omega)⟩
      have HX5 : Hid (Box18 w5 (w.heap.size + 2) e1 e0 e2) := Lib.hid hX5
      clear ho5 hX5 Yr hX
      go_roundw
      case rel => exact ⟨HI5, 3, by go_num, .inr (.inr (.inr ⟨rfl, HX5.out⟩))⟩
      case measure => simp [intOf]
    · have X18 := X.r18
      have hB : wr.heap[w.heap.size + 1]? = some (.cells #[.int .i64 z.k, .bool z.b, .int .i64 z.n, .string z.t, .string z.x, .slice z.p z.len z.cap, .int .i64 z.k, .bool z.b, .int .i64 z.n, .string z.t, .string z.x, .slice z.p z.len z.cap, .int .i64 z.k, .bool z.b, .int .i64 z.n, .string z.t, .string z.x, .slice z.p z.len z.cap] 41) := HI.out.2.2
      go_wp2_with (first
        | ((with_reducible refine wpList_load18 (.tmp 5) (w.heap.size + 2) 0 e1 e0 e2 X18 ?_ ?_ ?_ ?_); rfl; rfl; rfl)
        | ((with_reducible refine wpList_store18 (.tmp 4) (.tmp 30) (w.heap.size + 1) e1 e0 e2 hB rfl ?_ ?_ ?_ ?_ ?_); rfl; rfl; rfl; rfl; intro w5 ho5 hB5))
      exact bodyPost_ret (v := .agg #[.int .i64 e1.k, .bool e1.b, .int .i64 e1.n, .string e1.t, .string e1.x, .slice e1.p e1.len e1.cap, .int .i64 e0.k, .bool e0.b, .int .i64 e0.n, .string e0.t, .string e0.x, .slice e0.p e0.len e0.cap, .int .i64 e2.k, .bool e2.b, .int .i64 e2.n, .string e2.t, .string e2.x, .slice e2.p e2.len e2.cap]) (results_cell_row (p := 4) (ty := 41) Tryz.results35 _ _ (w.heap.size + 1) 41 _ (0, 0) _ rfl hB5 Tryz.underlying41 rfl (by exact info41)) rfl ⟨rfl, below_only HI.out.1 ho5 (by omega) HI.out.1.size⟩

set_option maxHeartbeats 3200000 in
set_option maxRecDepth 20000 in
theorem triLaw3 (e0 e1 e2 : V6) (w : World) : Calls Tryz.prog 35 #[.string ⟨#[112, 111, 115]⟩, .agg #[.int .i64 e0.k, .bool e0.b, .int .i64 e0.n, .string e0.t, .string e0.x, .slice e0.p e0.len e0.cap, .int .i64 e1.k, .bool e1.b, .int .i64 e1.n, .string e1.t, .string e1.x, .slice e1.p e1.len e1.cap, .int .i64 e2.k, .bool e2.b, .int .i64 e2.n, .string e2.t, .string e2.x, .slice e2.p e2.len e2.cap]] w fun e w' => e = .returned (.agg #[.int .i64 e2.k, .bool e2.b, .int .i64 e2.n, .string e2.t, .string e2.x, .slice e2.p e2.len e2.cap, .int .i64 e0.k, .bool e0.b, .int .i64 e0.n, .string e0.t, .string e0.x, .slice e0.p e0.len e0.cap, .int .i64 e1.k, .bool e1.b, .int .i64 e1.n, .string e1.t, .string e1.x, .slice e1.p e1.len e1.cap]) ∧ Below w.heap.size w w' := by
  obtain ⟨z, hz⟩ : ∃ z : V6, z = ⟨0, false, 0, ⟨#[]⟩, ⟨#[]⟩, none, 0, 0⟩ := ⟨_, rfl⟩
  obtain ⟨W0, hW0⟩ : ∃ W0, W0 = ((w.alloc (.cells #[.int .i64 e0.k, .bool e0.b, .int .i64 e0.n, .string e0.t, .string e0.x, .slice e0.p e0.len e0.cap, .int .i64 e1.k, .bool e1.b, .int .i64 e1.n, .string e1.t, .string e1.x, .slice e1.p e1.len e1.cap, .int .i64 e2.k, .bool e2.b, .int .i64 e2.n, .string e2.t, .string e2.x, .slice e2.p e2.len e2.cap] 63)).alloc (.cells #[.int .i64 0, .bool false, .int .i64 0, .string ⟨#[]⟩, .string ⟨#[]⟩, .slice none 0 0, .int .i64 0, .bool false, .int .i64 0, .string ⟨#[]⟩, .string ⟨#[]⟩, .slice none 0 0, .int .i64 0, .bool false, .int .i64 0, .string ⟨#[]⟩, .string ⟨#[]⟩, .slice none 0 0] 41)).alloc (.cells #[.int .i64 0, .bool false, .int .i64 0, .string ⟨#[]⟩, .string ⟨#[]⟩, .slice none 0 0, .int .i64 0, .bool false, .int .i64 0, .string ⟨#[]⟩, .string ⟨#[]⟩, .slice none 0 0, .int .i64 0, .bool false, .int .i64 0, .string ⟨#[]⟩, .string ⟨#[]⟩, .slice none 0 0] 41) := ⟨_, rfl⟩
  have b0 : Below w.heap.size w W0 := by rw [hW0]; exact below3 _ _ _ _
  have Y0 : Way W0 w.heap.size e0 e1 e2 := by rw [hW0]; exact heap_old _ (heap_old _ (way_new w e0 e1 e2))
  have R0 : Box18 W0 (w.heap.size + 1) z z z := by rw [hW0, hz]; exact heap_old _ (heap_new _ _ (by simp))
  have X0 : Box18 W0 (w.heap.size + 2) z z z := by rw [hW0, hz]; exact heap_new _ _ (by simp)
  have HW := Lib.hid hW0
  have H0 := Lib.hid (And.intro b0 (And.intro Y0 R0))
  have HX0 := Lib.hid X0
  clear hW0 hz b0 Y0 R0 X0
  go_enter Tryz.func35, Tryz.ntmps35
  go_wp2_with fail
  rw [← HW.out]
  go_loopw [6] (fun i wr => Hid (Below w.heap.size w wr ∧ Way wr w.heap.size e0 e1 e2 ∧ Box18 wr (w.heap.size + 1) z z z) ∧ ∃ j : Nat, i = .int .i64 j ∧ ((j = 0 ∧ Box18 wr (w.heap.size + 2) z z z) ∨ (j = 1 ∧ Box18 wr (w.heap.size + 2) z e0 z) ∨ (j = 2 ∧ Box18 wr (w.heap.size + 2) z e0 e1) ∨ (j = 3 ∧ Box18 wr (w.heap.size + 2) e2 e0 e1))) (fun i _ => 3 - (intOf i).toNat)
  case atStart => exact ⟨H0, 0, rfl, .inl ⟨rfl, HX0.out⟩⟩
  case round =>
    obtain ⟨HI, j, rfl, ⟨rfl, X⟩ | ⟨rfl, X⟩ | ⟨rfl, X⟩ | ⟨rfl, X⟩⟩ := hrel
    · have Yr := HI.out.2.1.r0
      have hX : wr.heap[w.heap.size + 2]? = some (.cells #[.int .i64 z.k, .bool z.b, .int .i64 z.n, .string z.t, .string z.x, .slice z.p z.len z.cap, .int .i64 z.k, .bool z.b, .int .i64 z.n, .string z.t, .string z.x, .slice z.p z.len z.cap, .int .i64 z.k, .bool z.b, .int .i64 z.n, .string z.t, .string z.x, .slice z.p z.len z.cap] 41) := X
      go_wp2_with (first
        | ((with_reducible refine wpList_mid6 (.tmp 27) w.heap.size 0 e0 Yr ?_ ?_ ?_ ?_); rfl; rfl; rfl)
        | ((with_reducible refine wpList_storePart (.tmp 29) (.tmp 28) (w.heap.size + 2) 6 e0 hX rfl (by decide) ?_ ?_ ?_ ?_ ?_); rfl; rfl; rfl; rfl; intro w5 ho5 hX5))
      have HI5 : Hid (Below w.heap.size w w5 ∧ Way w5 w.heap.size e0 e1 e2 ∧ Box18 w5 (w.heap.size + 1) z z z) := Lib.hid ⟨below_only HI.out.1 ho5 (by omega) HI.out.1.size, HI.out.2.1.only ho5 (by omega), HI.out.2.2.only ho5 (by omega)⟩
      have HX5 : Hid (Box18 w5 (w.heap.size + 2) z e0 z) := Lib.hid hX5
      clear ho5 hX5 Yr hX
      go_roundw
      case rel => exact ⟨HI5, 1, by go_num, .inr (.inl ⟨rfl, HX5.out⟩)⟩
      case measure => simp [intOf]
    · have Yr := HI.out.2.1.r1
      have hX : wr.heap[w.heap.size + 2]? = some (.cells #[.int .i64 z.k, .bool z.b, .int .i64 z.n, .string z.t, .string z.x, .slice z.p z.len z.cap, .int .i64 e0.k, .bool e0.b, .int .i64 e0.n, .string e0.t, .string e0.x, .slice e0.p e0.len e0.cap, .int .i64 z.k, .bool z.b, .int .i64 z.n, .string z.t, .string z.x, .slice z.p z.len z.cap] 41) := X
      go_wp2_with (first
        | ((with_reducible refine wpList_mid6 (.tmp 15) w.heap.size 6 e1 Yr ?_ ?_ ?_ ?_); rfl; rfl; rfl)
        | ((with_reducible refine wpList_storePart (.tmp 17) (.tmp 16) (w.heap.size + 2) 12 e1 hX rfl (by decide) ?_ ?_ ?_ ?_ ?_); rfl; rfl; rfl; rfl; intro w5 ho5 hX5))
      have HI5 : Hid (Below w.heap.size w w5 ∧ Way w5 w.heap.size e0 e1 e2 ∧ Box18 w5 (w.heap.size + 1) z z z) := Lib.hid ⟨below_only HI.out.1 ho5 (by omega) HI.out.1.size, HI.out.2.1.only ho5 (by omega), HI.out.2.2.only ho5 (by omega)⟩
      have HX5 : Hid (Box18 w5 (w.heap.size + 2) z e0 e1) := Lib.hid hX5
      clear ho5 hX5 Yr hX
      go_roundw
      case rel => exact ⟨HI5, 2, by go_num, .inr (.inr (.inl ⟨rfl, HX5.out⟩))⟩
      case measure => simp [intOf]
    · have Yr := HI.out.2.1.r2
      have hX : wr.heap[w.heap.size + 2]? = some (.cells #[.int .i64 z.k, .bool z.b, .int .i64 z.n, .string z.t, .string z.x, .slice z.p z.len z.cap, .int .i64 e0.k, .bool e0.b, .int .i64 e0.n, .string e0.t, .string e0.x, .slice e0.p e0.len e0.cap, .int .i64 e1.k, .bool e1.b, .int .i64 e1.n, .string e1.t, .string e1.x, .slice e1.p e1.len e1.cap] 41) := X
      go_wp2_with (first
        | ((with_reducible refine wpList_mid6 (.tmp 21) w.heap.size 12 e2 Yr ?_ ?_ ?_ ?_); rfl; rfl; rfl)
        | ((with_reducible refine wpList_storePart (.tmp 23) (.tmp 22) (w.heap.size + 2) 0 e2 hX rfl (by decide) ?_ ?_ ?_ ?_ ?_); rfl; rfl; rfl; rfl; intro w5 ho5 hX5))
      have HI5 : Hid (Below w.heap.size w w5 ∧ Way w5 w.heap.size e0 e1 e2 ∧ Box18 w5 (w.heap.size + 1) z z z) := Lib.hid ⟨below_only HI.out.1 ho5 (by omega) HI.out.1.size, HI.out.2.1.only ho5 (by omega), HI.out.2.2.only ho5 (by omega)⟩
      have HX5 : Hid (Box18 w5 (w.heap.size + 2) e2 e0 e1) := Lib.hid hX5
      clear ho5 hX5 Yr hX
      go_roundw
      case rel => exact ⟨HI5, 3, by go_num, .inr (.inr (.inr ⟨rfl, HX5.out⟩))⟩
      case measure => simp [intOf]
    · have X18 := X.r18
      have hB : wr.heap[w.heap.size + 1]? = some (.cells #[.int .i64 z.k, .bool z.b, .int .i64 z.n, .string z.t, .string z.x, .slice z.p z.len z.cap, .int .i64 z.k, .bool z.b, .int .i64 z.n, .string z.t, .string z.x, .slice z.p z.len z.cap, .int .i64 z.k, .bool z.b, .int .i64 z.n, .string z.t, .string z.x, .slice z.p z.len z.cap] 41) := HI.out.2.2
      go_wp2_with (first
        | ((with_reducible refine wpList_load18 (.tmp 5) (w.heap.size + 2) 0 e2 e0 e1 X18 ?_ ?_ ?_ ?_); rfl; rfl; rfl)
        | ((with_reducible refine wpList_store18 (.tmp 4) (.tmp 30) (w.heap.size + 1) e2 e0 e1 hB rfl ?_ ?_ ?_ ?_ ?_); rfl; rfl; rfl; rfl; intro w5 ho5 hB5))
      exact bodyPost_ret (v := .agg #[.int .i64 e2.k, .bool e2.b, .int .i64 e2.n, .string e2.t, .string e2.x, .slice e2.p e2.len e2.cap, .int .i64 e0.k, .bool e0.b, .int .i64 e0.n, .string e0.t, .string e0.x, .slice e0.p e0.len e0.cap, .int .i64 e1.k, .bool e1.b, .int .i64 e1.n, .string e1.t, .string e1.x, .slice e1.p e1.len e1.cap]) (results_cell_row (p := 4) (ty := 41) Tryz.results35 _ _ (w.heap.size + 1) 41 _ (0, 0) _ rfl hB5 Tryz.underlying41 rfl (by exact info41)) rfl ⟨rfl, below_only HI.out.1 ho5 (by omega) HI.out.1.size⟩

set_option maxHeartbeats 3200000 in
set_option maxRecDepth 20000 in
theorem triLaw4 (e0 e1 e2 : V6) (w : World) : Calls Tryz.prog 35 #[.string ⟨#[111, 115, 112]⟩, .agg #[.int .i64 e0.k, .bool e0.b, .int .i64 e0.n, .string e0.t, .string e0.x, .slice e0.p e0.len e0.cap, .int .i64 e1.k, .bool e1.b, .int .i64 e1.n, .string e1.t, .string e1.x, .slice e1.p e1.len e1.cap, .int .i64 e2.k, .bool e2.b, .int .i64 e2.n, .string e2.t, .string e2.x, .slice e2.p e2.len e2.cap]] w fun e w' => e = .returned (.agg #[.int .i64 e1.k, .bool e1.b, .int .i64 e1.n, .string e1.t, .string e1.x, .slice e1.p e1.len e1.cap, .int .i64 e2.k, .bool e2.b, .int .i64 e2.n, .string e2.t, .string e2.x, .slice e2.p e2.len e2.cap, .int .i64 e0.k, .bool e0.b, .int .i64 e0.n, .string e0.t, .string e0.x, .slice e0.p e0.len e0.cap]) ∧ Below w.heap.size w w' := by
  obtain ⟨z, hz⟩ : ∃ z : V6, z = ⟨0, false, 0, ⟨#[]⟩, ⟨#[]⟩, none, 0, 0⟩ := ⟨_, rfl⟩
  obtain ⟨W0, hW0⟩ : ∃ W0, W0 = ((w.alloc (.cells #[.int .i64 e0.k, .bool e0.b, .int .i64 e0.n, .string e0.t, .string e0.x, .slice e0.p e0.len e0.cap, .int .i64 e1.k, .bool e1.b, .int .i64 e1.n, .string e1.t, .string e1.x, .slice e1.p e1.len e1.cap, .int .i64 e2.k, .bool e2.b, .int .i64 e2.n, .string e2.t, .string e2.x, .slice e2.p e2.len e2.cap] 63)).alloc (.cells #[.int .i64 0, .bool false, .int .i64 0, .string ⟨#[]⟩, .string ⟨#[]⟩, .slice none 0 0, .int .i64 0, .bool false, .int .i64 0, .string ⟨#[]⟩, .string ⟨#[]⟩, .slice none 0 0, .int .i64 0, .bool false, .int .i64 0, .string ⟨#[]⟩, .string ⟨#[]⟩, .slice none 0 0] 41)).alloc (.cells #[.int .i64 0, .bool false, .int .i64 0, .string ⟨#[]⟩, .string ⟨#[]⟩, .slice none 0 0, .int .i64 0, .bool false, .int .i64 0, .string ⟨#[]⟩, .string ⟨#[]⟩, .slice none 0 0, .int .i64 0, .bool false, .int .i64 0, .string ⟨#[]⟩, .string ⟨#[]⟩, .slice none 0 0] 41) := ⟨_, rfl⟩
  have b0 : Below w.heap.size w W0 := by rw [hW0]; exact below3 _ _ _ _
  have Y0 : Way W0 w.heap.size e0 e1 e2 := by rw [hW0]; exact heap_old _ (heap_old _ (way_new w e0 e1 e2))
  have R0 : Box18 W0 (w.heap.size + 1) z z z := by rw [hW0, hz]; exact heap_old _ (heap_new _ _ (by simp))
  have X0 : Box18 W0 (w.heap.size + 2) z z z := by rw [hW0, hz]; exact heap_new _ _ (by simp)
  have HW := Lib.hid hW0
  have H0 := Lib.hid (And.intro b0 (And.intro Y0 R0))
  have HX0 := Lib.hid X0
  clear hW0 hz b0 Y0 R0 X0
  go_enter Tryz.func35, Tryz.ntmps35
  go_wp2_with fail
  rw [← HW.out]
  go_loopw [6] (fun i wr => Hid (Below w.heap.size w wr ∧ Way wr w.heap.size e0 e1 e2 ∧ Box18 wr (w.heap.size + 1) z z z) ∧ ∃ j : Nat, i = .int .i64 j ∧ ((j = 0 ∧ Box18 wr (w.heap.size + 2) z z z) ∨ (j = 1 ∧ Box18 wr (w.heap.size + 2) z z e0) ∨ (j = 2 ∧ Box18 wr (w.heap.size + 2) e1 z e0) ∨ (j = 3 ∧ Box18 wr (w.heap.size + 2) e1 e2 e0))) (fun i _ => 3 - (intOf i).toNat)
  case atStart => exact ⟨H0, 0, rfl, .inl ⟨rfl, HX0.out⟩⟩
  case round =>
    obtain ⟨HI, j, rfl, ⟨rfl, X⟩ | ⟨rfl, X⟩ | ⟨rfl, X⟩ | ⟨rfl, X⟩⟩ := hrel
    · have Yr := HI.out.2.1.r0
      have hX : wr.heap[w.heap.size + 2]? = some (.cells #[.int .i64 z.k, .bool z.b, .int .i64 z.n, .string z.t, .string z.x, .slice z.p z.len z.cap, .int .i64 z.k, .bool z.b, .int .i64 z.n, .string z.t, .string z.x, .slice z.p z.len z.cap, .int .i64 z.k, .bool z.b, .int .i64 z.n, .string z.t, .string z.x, .slice z.p z.len z.cap] 41) := X
      go_wp2_with (first
        | ((with_reducible refine wpList_mid6 (.tmp 15) w.heap.size 0 e0 Yr ?_ ?_ ?_ ?_); rfl; rfl; rfl)
        | ((with_reducible refine wpList_storePart (.tmp 17) (.tmp 16) (w.heap.size + 2) 12 e0 hX rfl (by decide) ?_ ?_ ?_ ?_ ?_); rfl; rfl; rfl; rfl; intro w5 ho5 hX5))
      have HI5 : Hid (Below w.heap.size w w5 ∧ Way w5 w.heap.size e0 e1 e2 ∧ Box18 w5 (w.heap.size + 1) z z z) := Lib.hid ⟨below_only HI.out.1 ho5 (by omega) HI.out.1.size, HI.out.2.1.only ho5 (by omega), HI.out.2.2.only ho5 (by omega)⟩
      have HX5 : Hid (Box18 w5 (w.heap.size + 2) z z e0) := Lib.hid hX5
      clear ho5 hX5 Yr hX
      go_roundw
      case rel => exact ⟨HI5, 1, by go_num, .inr (.inl ⟨rfl, HX5.out⟩)⟩
      case measure => simp [intOf]
    · have Yr := HI.out.2.1.r1
      have hX : wr.heap[w.heap.size + 2]? = some (.cells #[.int .i64 z.k, .bool z.b, .int .i64 z.n, .string z.t, .string z.x, .slice z.p z.len z.cap, .int .i64 z.k, .bool z.b, .int .i64 z.n, .string z.t, .string z.x, .slice z.p z.len z.cap, .int .i64 e0.k, .bool e0.b, .int .i64 e0.n, .string e0.t, .string e0.x, .slice e0.p e0.len e0.cap] 41) := X
      go_wp2_with (first
        | ((with_reducible refine wpList_mid6 (.tmp 21) w.heap.size 6 e1 Yr ?_ ?_ ?_ ?_); rfl; rfl; rfl)
        | ((with_reducible refine wpList_storePart (.tmp 23) (.tmp 22) (w.heap.size + 2) 0 e1 hX rfl (by decide) ?_ ?_ ?_ ?_ ?_); rfl; rfl; rfl; rfl; intro w5 ho5 hX5))
      have HI5 : Hid (Below w.heap.size w w5 ∧ Way w5 w.heap.size e0 e1 e2 ∧ Box18 w5 (w.heap.size + 1) z z z) := Lib.hid ⟨below_only HI.out.1 ho5 (by omega) HI.out.1.size, HI.out.2.1.only ho5 (by omega), HI.out.2.2.only ho5 (by omega)⟩
      have HX5 : Hid (Box18 w5 (w.heap.size + 2) e1 z e0) := Lib.hid hX5
      clear ho5 hX5 Yr hX
      go_roundw
      case rel => exact ⟨HI5, 2, by go_num, .inr (.inr (.inl ⟨rfl, HX5.out⟩))⟩
      case measure => simp [intOf]
    · have Yr := HI.out.2.1.r2
      have hX : wr.heap[w.heap.size + 2]? = some (.cells #[.int .i64 e1.k, .bool e1.b, .int .i64 e1.n, .string e1.t, .string e1.x, .slice e1.p e1.len e1.cap, .int .i64 z.k, .bool z.b, .int .i64 z.n, .string z.t, .string z.x, .slice z.p z.len z.cap, .int .i64 e0.k, .bool e0.b, .int .i64 e0.n, .string e0.t, .string e0.x, .slice e0.p e0.len e0.cap] 41) := X
      go_wp2_with (first
        | ((with_reducible refine wpList_mid6 (.tmp 27) w.heap.size 12 e2 Yr ?_ ?_ ?_ ?_); rfl; rfl; rfl)
        | ((with_reducible refine wpList_storePart (.tmp 29) (.tmp 28) (w.heap.size + 2) 6 e2 hX rfl (by decide) ?_ ?_ ?_ ?_ ?_); rfl; rfl; rfl; rfl; intro w5 ho5 hX5))
      have HI5 : Hid (Below w.heap.size w w5 ∧ Way w5 w.heap.size e0 e1 e2 ∧ Box18 w5 (w.heap.size + 1) z z z) := Lib.hid ⟨below_only HI.out.1 ho5 (by omega) HI.out.1.size, HI.out.2.1.only ho5 (by omega), HI.out.2.2.only ho5 (by omega)⟩
      have HX5 : Hid (Box18 w5 (w.heap.size + 2) e1 e2 e0) := Lib.hid hX5
      clear ho5 hX5 Yr hX
      go_roundw
      case rel => exact ⟨HI5, 3, by go_num, .inr (.inr (.inr ⟨rfl, HX5.out⟩))⟩
      case measure => simp [intOf]
    · have X18 := X.r18
      have hB : wr.heap[w.heap.size + 1]? = some (.cells #[.int .i64 z.k, .bool z.b, .int .i64 z.n, .string z.t, .string z.x, .slice z.p z.len z.cap, .int .i64 z.k, .bool z.b, .int .i64 z.n, .string z.t, .string z.x, .slice z.p z.len z.cap, .int .i64 z.k, .bool z.b, .int .i64 z.n, .string z.t, .string z.x, .slice z.p z.len z.cap] 41) := HI.out.2.2
      go_wp2_with (first
        | ((with_reducible refine wpList_load18 (.tmp 5) (w.heap.size + 2) 0 e1 e2 e0 X18 ?_ ?_ ?_ ?_); rfl; rfl; rfl)
        | ((with_reducible refine wpList_store18 (.tmp 4) (.tmp 30) (w.heap.size + 1) e1 e2 e0 hB rfl ?_ ?_ ?_ ?_ ?_); rfl; rfl; rfl; rfl; intro w5 ho5 hB5))
      exact bodyPost_ret (v := .agg #[.int .i64 e1.k, .bool e1.b, .int .i64 e1.n, .string e1.t, .string e1.x, .slice e1.p e1.len e1.cap, .int .i64 e2.k, .bool e2.b, .int .i64 e2.n, .string e2.t, .string e2.x, .slice e2.p e2.len e2.cap, .int .i64 e0.k, .bool e0.b, .int .i64 e0.n, .string e0.t, .string e0.x, .slice e0.p e0.len e0.cap]) (results_cell_row (p := 4) (ty := 41) Tryz.results35 _ _ (w.heap.size + 1) 41 _ (0, 0) _ rfl hB5 Tryz.underlying41 rfl (by exact info41)) rfl ⟨rfl, below_only HI.out.1 ho5 (by omega) HI.out.1.size⟩

set_option maxHeartbeats 3200000 in
set_option maxRecDepth 20000 in
theorem triLaw5 (e0 e1 e2 : V6) (w : World) : Calls Tryz.prog 35 #[.string ⟨#[111, 112, 115]⟩, .agg #[.int .i64 e0.k, .bool e0.b, .int .i64 e0.n, .string e0.t, .string e0.x, .slice e0.p e0.len e0.cap, .int .i64 e1.k, .bool e1.b, .int .i64 e1.n, .string e1.t, .string e1.x, .slice e1.p e1.len e1.cap, .int .i64 e2.k, .bool e2.b, .int .i64 e2.n, .string e2.t, .string e2.x, .slice e2.p e2.len e2.cap]] w fun e w' => e = .returned (.agg #[.int .i64 e2.k, .bool e2.b, .int .i64 e2.n, .string e2.t, .string e2.x, .slice e2.p e2.len e2.cap, .int .i64 e1.k, .bool e1.b, .int .i64 e1.n, .string e1.t, .string e1.x, .slice e1.p e1.len e1.cap, .int .i64 e0.k, .bool e0.b, .int .i64 e0.n, .string e0.t, .string e0.x, .slice e0.p e0.len e0.cap]) ∧ Below w.heap.size w w' := by
  obtain ⟨z, hz⟩ : ∃ z : V6, z = ⟨0, false, 0, ⟨#[]⟩, ⟨#[]⟩, none, 0, 0⟩ := ⟨_, rfl⟩
  obtain ⟨W0, hW0⟩ : ∃ W0, W0 = ((w.alloc (.cells #[.int .i64 e0.k, .bool e0.b, .int .i64 e0.n, .string e0.t, .string e0.x, .slice e0.p e0.len e0.cap, .int .i64 e1.k, .bool e1.b, .int .i64 e1.n, .string e1.t, .string e1.x, .slice e1.p e1.len e1.cap, .int .i64 e2.k, .bool e2.b, .int .i64 e2.n, .string e2.t, .string e2.x, .slice e2.p e2.len e2.cap] 63)).alloc (.cells #[.int .i64 0, .bool false, .int .i64 0, .string ⟨#[]⟩, .string ⟨#[]⟩, .slice none 0 0, .int .i64 0, .bool false, .int .i64 0, .string ⟨#[]⟩, .string ⟨#[]⟩, .slice none 0 0, .int .i64 0, .bool false, .int .i64 0, .string ⟨#[]⟩, .string ⟨#[]⟩, .slice none 0 0] 41)).alloc (.cells #[.int .i64 0, .bool false, .int .i64 0, .string ⟨#[]⟩, .string ⟨#[]⟩, .slice none 0 0, .int .i64 0, .bool false, .int .i64 0, .string ⟨#[]⟩, .string ⟨#[]⟩, .slice none 0 0, .int .i64 0, .bool false, .int .i64 0, .string ⟨#[]⟩, .string ⟨#[]⟩, .slice none 0 0] 41) := ⟨_, rfl⟩
  have b0 : Below w.heap.size w W0 := by rw [hW0]; exact below3 _ _ _ _
  have Y0 : Way W0 w.heap.size e0 e1 e2 := by rw [hW0]; exact heap_old _ (heap_old _ (way_new w e0 e1 e2))
  have R0 : Box18 W0 (w.heap.size + 1) z z z := by rw [hW0, hz]; exact heap_old _ (heap_new _ _ (by simp))
  have X0 : Box18 W0 (w.heap.size + 2) z z z := by rw [hW0, hz]; exact heap_new _ _ (by simp)
  have HW := Lib.hid hW0
  have H0 := Lib.hid (And.intro b0 (And.intro Y0 R0))
  have HX0 := Lib.hid X0
  clear hW0 hz b0 Y0 R0 X0
  go_enter Tryz.func35, Tryz.ntmps35
  go_wp2_with fail
  rw [← HW.out]
  go_loopw [6] (fun i wr => Hid (Below w.heap.size w wr ∧ Way wr w.heap.size e0 e1 e2 ∧ Box18 wr (w.heap.size + 1) z z z) ∧ ∃ j : Nat, i = .int .i64 j ∧ ((j = 0 ∧ Box18 wr (w.heap.size + 2) z z z) ∨ (j = 1 ∧ Box18 wr (w.heap.size + 2) z z e0) ∨ (j = 2 ∧ Box18 wr (w.heap.size + 2) z e1 e0) ∨ (j = 3 ∧ Box18 wr (w.heap.size + 2) e2 e1 e0))) (fun i _ => 3 - (intOf i).toNat)
  case atStart => exact ⟨H0, 0, rfl, .inl ⟨rfl, HX0.out⟩⟩
  case round =>
    obtain ⟨HI, j, rfl, ⟨rfl, X⟩ | ⟨rfl, X⟩ | ⟨rfl, X⟩ | ⟨rfl, X⟩⟩ := hrel
    · have Yr := HI.out.2.1.r0
      have hX : wr.heap[w.heap.size + 2]? = some (.cells #[.int .i64 z.k, .bool z.b, .int .i64 z.n, .string z.t, .string z.x, .slice z.p z.len z.cap, .int .i64 z.k, .bool z.b, .int .i64 z.n, .string z.t, .string z.x, .slice z.p z.len z.cap, .int .i64 z.k, .bool z.b, .int .i64 z.n, .string z.t, .string z.x, .slice z.p z.len z.cap] 41) := X
      go_wp2_with (first
        | ((with_reducible refine wpList_mid6 (.tmp 15) w.heap.size 0 e0 Yr ?_ ?_ ?_ ?_); rfl; rfl; rfl)
        | ((with_reducible refine wpList_storePart (.tmp 17) (.tmp 16) (w.heap.size + 2) 12 e0 hX rfl (by decide) ?_ ?_ ?_ ?_ ?_); rfl; rfl; rfl; rfl; intro w5 ho5 hX5))
      have HI5 : Hid (Below w.heap.size w w5 ∧ Way w5 w.heap.size e0 e1 e2 ∧ Box18 w5 (w.heap.size + 1) z z z) := Lib.hid ⟨below_only HI.out.1 ho5 (by omega) HI.out.1.size, HI.out.2.1.only ho5 (by omega), HI.out.2.2.only ho5 (by omega)⟩
      have HX5 : Hid (Box18 w5 (w.heap.size + 2) z z e0) := Lib.hid hX5
      clear ho5 hX5 Yr hX
      go_roundw
      case rel => exact ⟨HI5, 1, by go_num, .inr (.inl ⟨rfl, HX5.out⟩)⟩
      case measure => simp [intOf]
    · have Yr := HI.out.2.1.r1
      have hX : wr.heap[w.heap.size + 2]? = some (.cells #[.int .i64 z.k, .bool z.b, .int .i64 z.n, .string z.t, .string z.x, .slice z.p z.len z.cap, .int .i64 z.k, .bool z.b, .int .i64 z.n, .string z.t, .string z.x, .slice z.p z.len z.cap, .int .i64 e0.k, .bool e0.b, .int .i64 e0.n, .string e0.t, .string e0.x, .slice e0.p e0.len e0.cap] 41) := X
      go_wp2_with (first
        | ((with_reducible refine wpList_mid6 (.tmp 27) w.heap.size 6 e1 Yr ?_ ?_ ?_ ?_); rfl; rfl; rfl)
        | ((with_reducible refine wpList_storePart (.tmp 29) (.tmp 28) (w.heap.size + 2) 6 e1 hX rfl (by decide) ?_ ?_ ?_ ?_ ?_); rfl; rfl; rfl; rfl; intro w5 ho5 hX5))
      have HI5 : Hid (Below w.heap.size w w5 ∧ Way w5 w.heap.size e0 e1 e2 ∧ Box18 w5 (w.heap.size + 1) z z z) := Lib.hid ⟨below_only HI.out.1 ho5 (by omega) HI.out.1.size, HI.out.2.1.only ho5 (by omega), HI.out.2.2.only ho5 (by omega)⟩
      have HX5 : Hid (Box18 w5 (w.heap.size + 2) z e1 e0) := Lib.hid hX5
      clear ho5 hX5 Yr hX
      go_roundw
      case rel => exact ⟨HI5, 2, by go_num, .inr (.inr (.inl ⟨rfl, HX5.out⟩))⟩
      case measure => simp [intOf]
    · have Yr := HI.out.2.1.r2
      have hX : wr.heap[w.heap.size + 2]? = some (.cells #[.int .i64 z.k, .bool z.b, .int .i64 z.n, .string z.t, .string z.x, .slice z.p z.len z.cap, .int .i64 e1.k, .bool e1.b, .int .i64 e1.n, .string e1.t, .string e1.x, .slice e1.p e1.len e1.cap, .int .i64 e0.k, .bool e0.b, .int .i64 e0.n, .string e0.t, .string e0.x, .slice e0.p e0.len e0.cap] 41) := X
      go_wp2_with (first
        | ((with_reducible refine wpList_mid6 (.tmp 21) w.heap.size 12 e2 Yr ?_ ?_ ?_ ?_); rfl; rfl; rfl)
        | ((with_reducible refine wpList_storePart (.tmp 23) (.tmp 22) (w.heap.size + 2) 0 e2 hX rfl (by decide) ?_ ?_ ?_ ?_ ?_); rfl; rfl; rfl; rfl; intro w5 ho5 hX5))
      have HI5 : Hid (Below w.heap.size w w5 ∧ Way w5 w.heap.size e0 e1 e2 ∧ Box18 w5 (w.heap.size + 1) z z z) := Lib.hid ⟨below_only HI.out.1 ho5 (by omega) HI.out.1.size, HI.out.2.1.only ho5 (by omega), HI.out.2.2.only ho5 (by omega)⟩
      have HX5 : Hid (Box18 w5 (w.heap.size + 2) e2 e1 e0) := Lib.hid hX5
      clear ho5 hX5 Yr hX
      go_roundw
      case rel => exact ⟨HI5, 3, by go_num, .inr (.inr (.inr ⟨rfl, HX5.out⟩))⟩
      case measure => simp [intOf]
    · have X18 := X.r18
      have hB : wr.heap[w.heap.size + 1]? = some (.cells #[.int .i64 z.k, .bool z.b, .int .i64 z.n, .string z.t, .string z.x, .slice z.p z.len z.cap, .int .i64 z.k, .bool z.b, .int .i64 z.n, .string z.t, .string z.x, .slice z.p z.len z.cap, .int .i64 z.k, .bool z.b, .int .i64 z.n, .string z.t, .string z.x, .slice z.p z.len z.cap] 41) := HI.out.2.2
      go_wp2_with (first
        | ((with_reducible refine wpList_load18 (.tmp 5) (w.heap.size + 2) 0 e2 e1 e0 X18 ?_ ?_ ?_ ?_); rfl; rfl; rfl)
        | ((with_reducible refine wpList_store18 (.tmp 4) (.tmp 30) (w.heap.size + 1) e2 e1 e0 hB rfl ?_ ?_ ?_ ?_ ?_); rfl; rfl; rfl; rfl; intro w5 ho5 hB5))
      exact bodyPost_ret (v := .agg #[.int .i64 e2.k, .bool e2.b, .int .i64 e2.n, .string e2.t, .string e2.x, .slice e2.p e2.len e2.cap, .int .i64 e1.k, .bool e1.b, .int .i64 e1.n, .string e1.t, .string e1.x, .slice e1.p e1.len e1.cap, .int .i64 e0.k, .bool e0.b, .int .i64 e0.n, .string e0.t, .string e0.x, .slice e0.p e0.len e0.cap]) (results_cell_row (p := 4) (ty := 41) Tryz.results35 _ _ (w.heap.size + 1) 41 _ (0, 0) _ rfl hB5 Tryz.underlying41 rfl (by exact info41)) rfl ⟨rfl, below_only HI.out.1 ho5 (by omega) HI.out.1.size⟩
end Go.Proofs.YtanbgdhmfjgihaaGreatDoor
