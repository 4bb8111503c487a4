/- Texts of one kind, one behind the other: each says ahead of itself what it shows. -/
import Derived.Test.YtanbgdhmfjgihaaGreatDoorLav
/- A store's cursors, made. -/
namespace Go.Proofs.YtanbgdhmfjgihaaGreatDoor
open Go.RowKit

set_option maxHeartbeats 3200000 in
set_option maxRecDepth 20000 in
theorem cursorRaw (sp k n cl : Nat) (u v z : Int) (pl : Option Addr) (nm : ByteArray) (w : World) (hk : k < 6)
    (hn : ∀ W, Calls Tryz.prog 53 #[.string nm] W fun e w' => e = .returned (.tuple #[.int .i64 k, .bool true]) ∧ Low W.heap.size W w')
    (hv : ∀ W, Calls Tryz.prog 43 #[.int .i64 k] W fun e w' => e = .returned (.agg #[.int .i64 u, .int .i64 v, .int .i64 z]) ∧ Low W.heap.size W w')
    (kl : w.cell? ⟨sp, 2 + k, none⟩ = some (.slice pl n cl)) :
    Calls Tryz.prog 20 #[.pointer (some ⟨sp, 0, none⟩), .string nm] w fun e w' => ∃ g, e = .returned (.tuple #[.pointer (some ⟨g, 0, none⟩), .int .i64 0]) ∧ w.heap.size ≤ g ∧ Low w.heap.size w w' ∧ w'.heap[g]? = some (.cells #[.pointer (some ⟨sp, 0, none⟩), .slice pl n cl, .int .i64 u, .int .i64 v, .int .i64 z, .int .i64 0, .int .i64 0, .int .i64 0, .int .i64 0, .int .i64 0, .int .i64 0, .int .i64 0] 93) := by
  have HL : Hid (∀ W, Low w.heap.size w W → W.cell? ⟨sp, 2 + k, none⟩ = some (.slice pl n cl)) := Lib.hid fun W h => (h.cell (p := ⟨sp, 2 + k, none⟩) (World.block_lt_of_cell? w _ kl)).trans kl
  have HV := hv
  have hki : (k : Int) < 6 := by omega
  clear kl hv
  go_enter Tryz.func20, Tryz.ntmps20
  go_upto_region 4 with (go_at_call 53; (with_reducible refine (hn _).mono ?_); rintro e0 w3 ⟨rfl, b0⟩)
  refine wp_region_held_drew (S := fun W => Low w.heap.size w W) (by kernel_rfl) b0.drew (fun hHeld => ?_)
  refine wpAnyH_take (i := 0) (v := .pointer (some ⟨sp, 0, none⟩)) rfl (by kernel_rfl) (by kernel_rfl) (by kernel_rfl) (fun _ _ _ h => h) (Or.inl ⟨by rfl, fun W _ => by go_simp⟩) hHeld ?_
  try simp only [putS]
  refine wpAnyH_take (i := 1) (v := .pointer (some ⟨sp, 0, none⟩)) rfl (by kernel_rfl) (by kernel_rfl) (by kernel_rfl) (fun _ _ _ h => h) (Or.inl ⟨by rfl, fun W _ => by go_simp⟩) hHeld ?_
  try simp only [putS]
  refine wpAnyH_take (i := 2) (v := .int .i64 k) rfl (by kernel_rfl) (by kernel_rfl) (by kernel_rfl) (fun _ _ _ h => h) (Or.inl ⟨by rfl, fun W _ => by go_simp⟩) hHeld ?_
  try simp only [putS]
  refine wpAnyH_take (i := 3) (v := .pointer (some ⟨sp, 0, none⟩)) rfl (by kernel_rfl) (by kernel_rfl) (by kernel_rfl) (fun _ _ _ h => h) (Or.inl ⟨by rfl, fun W _ => by go_simp⟩) hHeld ?_
  try simp only [putS]
  refine wpAnyH_take (i := 4) (v := .pointer (some ⟨sp, 2, none⟩)) rfl (by kernel_rfl) (by kernel_rfl) (by kernel_rfl) (fun _ _ _ h => h) (Or.inl ⟨by rfl, fun W _ => by go_simp⟩) hHeld ?_
  try simp only [putS]
  refine wpAnyH_take (i := 5) (v := .pointer (some ⟨sp, 2 + k, none⟩)) rfl (by kernel_rfl) (by kernel_rfl) (by kernel_rfl) (fun _ _ _ h => h) (Or.inl ⟨by rfl, fun W _ => by go_simp⟩) hHeld ?_
  try simp only [putS]
  refine wpAnyH_take (i := 6) (v := .slice pl n cl) rfl (by kernel_rfl) (by kernel_rfl) (by kernel_rfl) (fun _ _ _ h => h) (Or.inl ⟨by rfl, fun W h => by have c0 := HL.out W h; go_simp⟩) hHeld ?_
  try simp only [putS]
  refine wpAnyH_take (i := 7) (v := .int .i64 k) rfl (by kernel_rfl) (by kernel_rfl) (by kernel_rfl) (fun _ _ _ h => h) (Or.inl ⟨by rfl, fun W _ => by go_simp⟩) hHeld ?_
  try simp only [putS]
  refine wpAnyH_ready (rs := [8]) (by kernel_rfl) (by simp) ?_
  refine AllReadyH.cons rfl (fun K hK => ?_) AllReadyH.nil
  rw [if_pos (by rfl)]
  go_simp
  refine (HV _).mono ?_
  rintro e0 w3 ⟨rfl, hb3⟩
  have hH2 := low_any hHeld hb3 hHeld.size
  clear hb3
  refine hK.out _ _ hH2 (fun hH2 => ?_)
  clear hK K
  try simp only [putS]
  refine wpAnyH_take (i := 9) (v := .agg #[.pointer (some ⟨sp, 0, none⟩), .slice pl n cl, .int .i64 u, .int .i64 v, .int .i64 z, .int .i64 0, .int .i64 0, .int .i64 0, .int .i64 0, .int .i64 0, .int .i64 0, .int .i64 0]) rfl (by kernel_rfl) (by kernel_rfl) (by kernel_rfl) (fun _ _ _ h => h) (Or.inl ⟨by rfl, fun W _ => by go_simp⟩) hH2 ?_
  try simp only [putS]
  refine wpAnyH_ready (rs := [10]) (by kernel_rfl) (by simp) ?_
  refine AllReadyH.cons rfl (fun K hK => ?_) AllReadyH.nil
  (try rw [if_pos (by rfl)])
  go_simp
  have hH3 := hH2.alloc (o := .cells #[.pointer (some ⟨sp, 0, none⟩), .slice pl n cl, .int .i64 u, .int .i64 v, .int .i64 z, .int .i64 0, .int .i64 0, .int .i64 0, .int .i64 0, .int .i64 0, .int .i64 0, .int .i64 0] 93) hH2.size
  have hcur : (w3.alloc (.cells #[.pointer (some ⟨sp, 0, none⟩), .slice pl n cl, .int .i64 u, .int .i64 v, .int .i64 z, .int .i64 0, .int .i64 0, .int .i64 0, .int .i64 0, .int .i64 0, .int .i64 0, .int .i64 0] 93)).heap[w3.heap.size]? = some (.cells #[.pointer (some ⟨sp, 0, none⟩), .slice pl n cl, .int .i64 u, .int .i64 v, .int .i64 z, .int .i64 0, .int .i64 0, .int .i64 0, .int .i64 0, .int .i64 0, .int .i64 0, .int .i64 0] 93) := heap_new _ _ rfl
  have hge := hH2.size
  generalize w3.alloc (.cells #[.pointer (some ⟨sp, 0, none⟩), .slice pl n cl, .int .i64 u, .int .i64 v, .int .i64 z, .int .i64 0, .int .i64 0, .int .i64 0, .int .i64 0, .int .i64 0, .int .i64 0, .int .i64 0] 93) = w4 at *
  generalize w3.heap.size = gg at *
  refine hK.out _ _ hH3 (fun _ => ?_)
  clear hK K
  refine wpAnyH_take (i := 11) (v := .pointer (some ⟨gg, 0, none⟩)) rfl (by kernel_rfl) (by kernel_rfl) (by kernel_rfl) (fun _ _ _ h => h) (Or.inl ⟨by rfl, fun W _ => by go_simp⟩) hH3 ?_
  try simp only [putS]
  refine wpAnyH_take (i := 12) (v := .int .i64 0) rfl (by kernel_rfl) (by kernel_rfl) (by kernel_rfl) (fun _ _ _ h => h) (Or.inl ⟨by rfl, fun W _ => by go_simp⟩) hH3 ?_
  try simp only [putS]
  refine wpAnyH_done (by kernel_rfl) ?_ _
  go_wp2_with fail
  exact bodyPost_ret (results_tmp2 Tryz.results20 _ _ _) rfl ⟨gg, rfl, hge, hH3, hcur⟩
/-- A cursor that was just made. -/
def newCur (sp : Nat) (pl : Option Addr) (n cl k : Nat) : CS := ⟨sp, pl, n, cl, (lev k).1, (lev k).2.1, (lev k).2.2, 0, 0, 0, 0, 0, 0, 0⟩
theorem cursorC {W W2 : World} {sp : Nat} {s : SM} {k : Nat} (h : StoreAt W sp s) (b : Below W.heap.size W W2) (ok : SMok s) (so : SMsort s) (hk : k < 6) :
    Calls Tryz.prog 20 #[.pointer (some ⟨sp, 0, none⟩), .string (onm k)] W2 fun e w' => ∃ g c, e = .returned (.tuple #[.pointer (some ⟨g, 0, none⟩), .int .i64 0]) ∧ Low W2.heap.size W2 w' ∧ W2.heap.size ≤ g ∧ (∃ pl n cl, c = newCur sp pl n cl k) ∧ Stand W s w' g c k := by
  obtain ⟨pv, pr, cv, cr, pp, cc, h0⟩ := h
  have h0' := (b.block _ (lt_of_heap h0.h)).trans h0.h
  have kl : W2.cell? ⟨sp, 2 + k, none⟩ = some (.slice (pp k) (s.ls k).length (cc k)) := by
    match k, hk with
    | 0, _ => exact cell_of h0' 2 rfl
    | 1, _ => exact cell_of h0' 3 rfl
    | 2, _ => exact cell_of h0' 4 rfl
    | 3, _ => exact cell_of h0' 5 rfl
    | 4, _ => exact cell_of h0' 6 rfl
    | 5, _ => exact cell_of h0' 7 rfl
  refine (cursorRaw sp k (s.ls k).length (cc k) _ _ _ (pp k) (onm k) W2 hk (fun w => namedAt k hk w) (fun w => levelsAt k hk w) kl).mono ?_
  rintro e w' ⟨g, rfl, hg, hb, hcur⟩
  refine ⟨g, newCur sp (pp k) (s.ls k).length (cc k) k, rfl, hb, hg, ⟨_, _, _, rfl⟩, ⟨⟨pv, pr, cv, cr, pp, cc, h0⟩, rfl, h0.l k hk, ?_, ?_, ?_, Nat.le_trans b.size hg, below_any b hb.is b.size, hcur⟩, ?_, ok, so, hk⟩
  · show (lev k).1 < 3
    match k, hk with
    | 0, _ | 1, _ | 2, _ | 3, _ | 4, _ | 5, _ => decide
  · show (lev k).2.1 < 3
    match k, hk with
    | 0, _ | 1, _ | 2, _ | 3, _ | 4, _ | 5, _ => decide
  · show (lev k).2.2 < 3
    match k, hk with
    | 0, _ | 1, _ | 2, _ | 3, _ | 4, _ | 5, _ => decide
  · exact ⟨Nat.zero_le _, rfl, rfl, rfl, rfl, fun q => absurd q (by show ¬ 1 ≤ 0; omega), fun q => absurd q (by show ¬ 2 ≤ 0; omega), fun q => absurd q (by show ¬ 3 ≤ 0; omega)⟩
section
variable {W0 W W' : World} {s : SM} {g k : Nat} {c : CS}
theorem SameList.refl (c : CS) : SameList c c := ⟨rfl, rfl, rfl, rfl, rfl, rfl⟩
theorem CS.next_alike (c : CS) (s : SM) (k : Nat) : SameList c (c.next s k) := by
  unfold CS.next
  split
  · exact c.go_alike _
  · exact SameList.refl c
theorem CS.seek_alike (c : CS) (s : SM) (k : Nat) (u : Val) : SameList c (c.seek s k u) := by
  unfold CS.seek
  split
  · exact c.go_alike _
  · exact SameList.refl c
theorem CS.opn_alike (c : CS) (s : SM) (k : Nat) : SameList c (c.opn s k) := by
  unfold CS.opn
  split
  · exact c.down_alike _ _
  · exact SameList.refl c
theorem Stand.next (h : Stand W0 s W g c k) (o : Only g W W') (B : Cur W' g (c.next s k)) : Stand W0 s W' g (c.next s k) k := ⟨h.at_.only (c.next_alike s k) o B, h.fit.next, h.ok, h.so, h.hk⟩
theorem Stand.seek (h : Stand W0 s W g c k) (u : Val) (o : Only g W W') (B : Cur W' g (c.seek s k u)) : Stand W0 s W' g (c.seek s k u) k := ⟨h.at_.only (c.seek_alike s k u) o B, h.fit.seek u, h.ok, h.so, h.hk⟩
theorem Stand.opn (h : Stand W0 s W g c k) (o : Only g W W') (B : Cur W' g (c.opn s k)) : Stand W0 s W' g (c.opn s k) k := ⟨h.at_.only (c.opn_alike s k) o B, h.fit.opn, h.ok, h.so, h.hk⟩
theorem Stand.upp (h : Stand W0 s W g c k) (o : Only g W W') (B : Cur W' g c.up) : Stand W0 s W' g c.up k := ⟨h.at_.only c.up_alike o B, h.fit.up, h.ok, h.so, h.hk⟩
/-- Another cursor went on. -/
theorem Stand.other {e : Nat} (h : Stand W0 s W g c k) (o : Only e W W') (he : W0.heap.size ≤ e) (hne : g ≠ e) : Stand W0 s W' g c k :=
  ⟨⟨h.at_.S, h.at_.n, h.at_.l, h.at_.h0, h.at_.h1, h.at_.h2, h.at_.hg, below_only h.at_.b o he h.at_.b.size, h.at_.B.only o hne⟩, h.fit, h.ok, h.so, h.hk⟩
end
end Go.Proofs.YtanbgdhmfjgihaaGreatDoor

/- What Load is made of, where there may be nothing, too. -/
namespace Go.Proofs.YtanbgdhmfjgihaaGreatDoor
open Go.RowKit

theorem compactNone (p : Option Addr) (cap : Nat) (w : World) : Calls Tryz.prog 75 #[.slice p 0 cap, .func (.func 76) #[] #[]] w fun e w' => e = .returned (.slice p 0 cap) ∧ w' = w := by
  go_enter Tryz.func75, Tryz.ntmps75
  go_wp2_with fail
  go_ret
  exact ⟨rfl, rfl⟩
theorem compactNoneR (p : Option Addr) (cap : Nat) (w : World) : Calls Tryz.prog 82 #[.slice p 0 cap] w fun e w' => e = .returned (.slice p 0 cap) ∧ w' = w := by
  go_enter Tryz.func82, Tryz.ntmps82
  go_wp2_with fail
  go_ret
  exact ⟨rfl, rfl⟩
theorem sortNoneV (p : Option Addr) (cap : Nat) (fv : Value) (w : World) : Calls Tryz.prog 73 #[.slice p 0 cap, fv] w fun e w' => e = .returned (.tuple #[]) ∧ w' = w := AnyF.slices_SortFunc_none Tryz.sortV p cap fv w
theorem sortNoneR (p : Option Addr) (cap : Nat) (fv : Value) (w : World) : Calls Tryz.prog 79 #[.slice p 0 cap, fv] w fun e w' => e = .returned (.tuple #[]) ∧ w' = w := AnyF.slices_SortFunc_none Tryz.sortR p cap fv w
theorem sortNoneN (p : Option Addr) (cap : Nat) (fv : Value) (w : World) : Calls Tryz.prog 83 #[.slice p 0 cap, fv] w fun e w' => e = .returned (.tuple #[]) ∧ w' = w := by
  have L := Tryz.sortN
  exact AnyF.slices_SortFunc_none (ρ := Tryz.sortN_ren) { L with } p cap fv w
theorem sortedValsNone (p : Option Addr) (cap : Nat) (w : World) : Calls Tryz.prog 40 #[.slice p 0 cap] w fun e w' => e = .returned (.slice none 0 0) ∧ Below w.heap.size w w' := by
  have h1 := fun W => sortNoneV none 0 (.func (.func 74) #[] #[]) W
  have h2 := fun W => compactNone none 0 W
  go_enter Tryz.func40, Tryz.ntmps40
  go_wp2_with fail
  go_loopw [3, 11] (fun s i wr => s = .slice none 0 0 ∧ i = .int .i64 0 ∧ Below w.heap.size w wr) (fun _ _ _ => 0)
  case atStart => exact ⟨rfl, rfl, Below.refl _ _⟩
  case round =>
    obtain ⟨rfl, rfl, hb⟩ := hrel
    go_wp2_with (first
      | (go_at_call 73; (with_reducible refine (h1 _).mono ?_); rintro e w3 ⟨rfl, rfl⟩)
      | (go_at_call 75; (with_reducible refine (h2 _).mono ?_); rintro e w3 ⟨rfl, rfl⟩))
    go_loopw [6, 30] (fun s i wq => s = .slice none 0 0 ∧ i = .int .i64 0 ∧ Below w.heap.size w wq) (fun _ _ _ => 0)
    case atStart => exact ⟨rfl, rfl, hb⟩
    case round =>
      obtain ⟨rfl, rfl, hb⟩ := hrel
      go_wp2_with fail
      go_ret
      exact ⟨rfl, hb⟩
theorem sortedRowsNone (pv : Option Addr) (n cv : Nat) (p : Option Addr) (cap : Nat) (w : World) : Calls Tryz.prog 41 #[.slice pv n cv, .slice p 0 cap] w fun e w' => e = .returned (.slice none 0 0) ∧ Below w.heap.size w w' := by
  obtain ⟨W0, hW0⟩ : ∃ W0, W0 = w.alloc (.cells #[.slice pv n cv] 37) := ⟨_, rfl⟩
  have b0 : Below w.heap.size w W0 := by rw [hW0]; exact below1 _ _
  have h1 := fun W => sortNoneR none 0 (.func (.func 80) #[] #[]) W
  have h2 := fun W => compactNoneR none 0 W
  have HW := Lib.hid hW0
  clear hW0
  go_enter Tryz.func41, Tryz.ntmps41
  go_wp2_with fail
  rw [← HW.out]
  go_loopw [6, 12] (fun s i wr => s = .slice none 0 0 ∧ i = .int .i64 0 ∧ wr = W0) (fun _ _ _ => 0)
  case atStart => exact ⟨rfl, rfl, rfl⟩
  case round =>
    obtain ⟨rfl, rfl, rfl⟩ := hrel
    go_wp2_with (first
      | (go_at_call 79; (with_reducible refine (h1 _).mono ?_); rintro e w3 ⟨rfl, rfl⟩)
      | (go_at_call 82; (with_reducible refine (h2 _).mono ?_); rintro e w3 ⟨rfl, rfl⟩))
    go_ret
    exact ⟨rfl, b0⟩
theorem sortedNumsNone (p : Option Addr) (cap : Nat) (u v z : Int) (w : World) : Calls Tryz.prog 42 #[.slice p 0 cap, .agg #[.int .i64 u, .int .i64 v, .int .i64 z]] w fun e w' => e = .returned (.slice none 0 0) ∧ Below w.heap.size w w' := by
  obtain ⟨W0, hW0⟩ : ∃ W0, W0 = (w.alloc (.cells #[.slice p 0 cap] 71)).alloc (.cells #[.int .i64 u, .int .i64 v, .int .i64 z] 78) := ⟨_, rfl⟩
  have b0 : Below w.heap.size w W0 := by rw [hW0]; exact below2 _ _ _
  have k2 : W0.cell? ⟨w.heap.size, 0, none⟩ = some (.slice p 0 cap) := by rw [hW0]; exact cell_of (heap_old _ (heap_new _ _ rfl)) 0 rfl
  have h1 := fun fv W => sortNoneN none 0 fv W
  have HW := Lib.hid hW0
  clear hW0
  go_enter Tryz.func42, Tryz.ntmps42
  go_upto_region 1 with fail
  rw [← HW.out]
  go_wp2_with fail
  go_loopw [5, 9] (fun s i wr => s = .slice none 0 0 ∧ i = .int .i64 0 ∧ wr = W0) (fun _ _ _ => 0)
  case atStart => exact ⟨rfl, rfl, rfl⟩
  case round =>
    obtain ⟨rfl, rfl, rfl⟩ := hrel
    go_wp2_with (first
      | (go_at_call 83; (with_reducible refine (h1 _ _).mono ?_); rintro e w3 ⟨rfl, rfl⟩))
    go_ret
    exact ⟨rfl, b0⟩

def kd : Val → Int | .mk k _ _ _ _ _ => k
/-- Whether a triple may be. -/
def t3Chk (t : Tri3) : Bool := subjP (kd t.s) && predP (kd t.p) && objP (kd t.o) && mayP t.s 0 && mayP t.p 0 && mayP t.o 0
theorem len_zero {b : Bool} {n : Int} {t x : ByteArray} {l : List Val} (h : bareP b n t x l.length = true) : l = [] := by
  unfold bareP at h
  simp only [Bool.and_eq_true, decide_eq_true_eq] at h
  cases l with
  | nil => rfl
  | cons a l => simp at h
theorem plain_of {u : Val} (hk : objP (kd u) = true) (hm : mayP u 0 = true) : Plain u := by
  obtain ⟨k, b, n, t, x, l⟩ := u
  have hl : l = [] := by
    unfold mayP fitsP at hm
    simp only [kd, objP, Bool.or_eq_true, beq_iff_eq] at hk
    rcases hk with (((((h | h) | h) | h) | h) | h) | h <;> subst h <;> simp only [] at hm <;> simp at hm
    · exact len_zero hm.2
    · exact len_zero hm.2
    · exact len_zero hm.2.2
    · exact len_zero hm.2
    · exact len_zero hm
    · exact len_zero hm
    · exact len_zero hm.2
  exact ⟨k, b, n, t, x, by rw [hl]⟩
theorem t3Chk_parts {t : Tri3} (h : t3Chk t = true) : (Plain t.s ∧ mayP t.s 0 = true) ∧ (Plain t.p ∧ mayP t.p 0 = true) ∧ (Plain t.o ∧ mayP t.o 0 = true) := by
  unfold t3Chk at h
  simp only [Bool.and_eq_true] at h
  obtain ⟨⟨⟨⟨⟨h1, h2⟩, h3⟩, h4⟩, h5⟩, h6⟩ := h
  refine ⟨⟨plain_of ?_ h4, h4⟩, ⟨plain_of ?_ h5, h5⟩, ⟨plain_of h3 h6, h6⟩⟩
  · unfold subjP at h1
    unfold objP
    simp only [Bool.or_eq_true] at h1 ⊢
    rcases h1 with h | h <;> simp [h]
  · unfold predP at h2
    unfold objP
    simp [h2]
theorem flat_mem {l : List Tri3} {u : Val} : u ∈ flat l ↔ ∃ t ∈ l, u = t.s ∨ u = t.p ∨ u = t.o := by
  unfold flat
  simp [List.mem_flatMap, Tri3.l]
theorem good_flat {l : List Tri3} (h : ∀ t ∈ l, t3Chk t = true) : ∀ u ∈ flat l, Plain u ∧ mayP u 0 = true := fun u hu => by
  obtain ⟨t, ht, e⟩ := flat_mem.1 hu
  obtain ⟨h1, h2, h3⟩ := t3Chk_parts (h t ht)
  rcases e with rfl | rfl | rfl
  · exact h1
  · exact h2
  · exact h3
/-- A slice's block, where there is one, is one of the call's own. -/
def Hi (base : Nat) (p : Option Addr) : Prop := ∀ g o, p = some ⟨g, o, none⟩ → base ≤ g ∧ o = 0
theorem hi_none (base : Nat) : Hi base none := fun _ _ h => by cases h
theorem hi_some {base g : Nat} (h : base ≤ g) : Hi base (some ⟨g, 0, none⟩) := fun _ _ e => by cases e; exact ⟨h, rfl⟩
theorem Hi.mono {b b' : Nat} {p : Option Addr} (h : Hi b p) (hb : b' ≤ b) : Hi b' p := fun g o e => ⟨Nat.le_trans hb (h g o e).1, (h g o e).2⟩
def SVG (w : World) (l : List Tri3) (e : Ending) (w' : World) : Prop := ∃ vs p cap, e = .returned (.slice p vs.length cap) ∧ Rise vs ∧ (∀ u, u ∈ vs ↔ u ∈ flat l) ∧ ValsAt w' p vs ∧ Hi w.heap.size p ∧ vs.length ≤ 3 * l.length ∧ Below w.heap.size w w'
theorem sortedValsG (l : List Tri3) (L : Value) (w : World) (hG : Gd w) (hT : Tab w) (hl : Tris w L l) (hn : l.length ≤ 65536) (hg : ∀ t ∈ l, t3Chk t = true) : Calls Tryz.prog 40 #[L] w (SVG w l) := by
  obtain ⟨p, cap, rfl, h1⟩ := hl
  cases l with
  | nil =>
    refine (sortedValsNone p cap w).mono ?_
    rintro e w' ⟨rfl, hb⟩
    exact ⟨[], none, 0, rfl, fun i j _ h => absurd h (by simp), fun u => by simp [flat], fun h => absurd rfl h, hi_none _, Nat.zero_le _, hb⟩
  | cons t l =>
    obtain ⟨g, off, rfl, hh⟩ := h1 (by simp)
    refine (sortedValsSome (t :: l) g off cap w hG hT hh (by omega) (by simp) (good_flat hg)).mono ?_
    rintro e w' ⟨vs, g', cap', rfl, h1, h2, h3, h4, _, h5, h6⟩
    exact ⟨vs, _, cap', rfl, h1, h2, fun _ => ⟨g', 0, rfl, h3⟩, hi_some h4, h5, h6⟩
def R3.lt (a b : R3) : Prop := VR.cf a.vr b.vr < 0
def SRG (w : World) (vs : List Val) (l : List Tri3) (e : Ending) (w' : World) : Prop := ∃ (R : List R3) (p : Option Addr) (cap : Nat), e = .returned (.slice p R.length cap) ∧ R.Pairwise R3.lt ∧ (∀ r, r ∈ R ↔ ∃ t ∈ l, rowOf vs t = r.vr) ∧ RowsAt w' p R ∧ Hi w.heap.size p ∧ R.length ≤ l.length ∧ Below w.heap.size w w'
/-- A row of numbers that are no less than nought. -/
def VR.r3 (r : VR) : R3 := ⟨r.a.toNat, r.b.toNat, r.c.toNat⟩
theorem r3_row (vs : List Val) (t : Tri3) : (rowOf vs t).r3.vr = rowOf vs t := by
  unfold VR.r3 R3.vr rowOf
  simp
theorem vr_r3 (r : R3) : r.vr.r3 = r := by
  unfold VR.r3 R3.vr
  simp
theorem sortedRowsG (l : List Tri3) (L : Value) (vs : List Val) (pv : Option Addr) (cv : Nat) (w : World) (hG : Gd w) (hT : Tab w) (hl : Tris w L l) (hn : l.length ≤ 65536) (hvs : ValsAt w pv vs) (hr : Rise vs) (hv : ∀ u, u ∈ vs ↔ u ∈ flat l) (hvn : vs.length ≤ 3 * l.length)
    (h0 : ∀ g o, pv = some ⟨g, o, none⟩ → o = 0) : Calls Tryz.prog 41 #[.slice pv vs.length cv, L] w (SRG w vs l) := by
  obtain ⟨p, cap, rfl, h1⟩ := hl
  cases l with
  | nil =>
    refine (sortedRowsNone pv vs.length cv p cap w).mono ?_
    rintro e w' ⟨rfl, hb⟩
    exact ⟨[], none, 0, rfl, List.Pairwise.nil, fun r => by simp, fun h => absurd rfl h, hi_none _, Nat.zero_le _, hb⟩
  | cons t l =>
    obtain ⟨g, off, rfl, hh⟩ := h1 (by simp)
    have hne : vs ≠ [] := fun e => by
      have := (hv t.s).2 (by rw [flat_cons]; exact List.mem_cons_self ..)
      rw [e] at this
      exact absurd this (by simp)
    obtain ⟨gv, ov, rfl, hvh⟩ := hvs hne
    obtain rfl := h0 gv ov rfl
    refine (sortedRowsSome (t :: l) vs g off cap gv cv w hG hT hh (by omega) (by simp) hvh hr (fun u hu => (hv u).2 hu) (by omega)).mono ?_
    rintro e w' ⟨rs, g', cap', rfl, h1, h2, h3, h4, _, h5, h6⟩
    have hback : ∀ r ∈ rs, r.r3.vr = r := fun r hr => by
      obtain ⟨t, _, rfl⟩ := (h2 r).1 hr
      exact r3_row vs t
    refine ⟨rs.map VR.r3, _, cap', by rw [List.length_map], ?_, fun r => ?_, fun _ => ⟨g', 0, rfl, fun j h => ?_⟩, hi_some h4, by rw [List.length_map]; exact h5, h6⟩
    · rw [List.pairwise_map]
      refine h1.imp_of_mem fun {a b} ha hb h => ?_
      unfold R3.lt
      rw [hback a ha, hback b hb]
      exact h
    · rw [List.mem_map]
      constructor
      · rintro ⟨a, ha, rfl⟩
        rw [hback a ha]
        exact (h2 a).1 ha
      · rintro ⟨t, ht, e⟩
        exact ⟨r.vr, (h2 _).2 ⟨t, ht, e⟩, vr_r3 r⟩
    · rw [List.length_map] at h
      have := h3 j h
      have hb := hback rs[j] (List.getElem_mem h)
      rw [← hb] at this
      rw [List.getElem_map, Nat.zero_add]
      exact this
/-- The numbers of rows in an order of parts. -/
structure Nums (R : List R3) (u v z : Nat) (ns : List Nat) : Prop where
  perm : ns.Perm (List.range R.length)
  sort : ns.Pairwise (fun a b => VR.cf (prow R u v z a) (prow R u v z b) ≤ 0)
def SNG (w : World) (R : List R3) (u v z : Nat) (e : Ending) (w' : World) : Prop := ∃ (ns : List Nat) (p : Option Addr) (cap : Nat), e = .returned (.slice p ns.length cap) ∧ Nums R u v z ns ∧ NumsAt w' p ns ∧ Hi w.heap.size p ∧ Below w.heap.size w w' ∧ ns.length ≤ cap
theorem sortedNumsG (R : List R3) (pr : Option Addr) (cr u v z : Nat) (w : World) (hu : u < 3) (hv : v < 3) (hz : z < 3) (hn : R.length < 1073741824) (hR : RowsAt w pr R) (h0 : ∀ g o, pr = some ⟨g, o, none⟩ → o = 0) :
    Calls Tryz.prog 42 #[.slice pr R.length cr, .agg #[.int .i64 u, .int .i64 v, .int .i64 z]] w (SNG w R u v z) := by
  by_cases hne : R = []
  · subst hne
    refine (sortedNumsNone pr cr u v z w).mono ?_
    rintro e w' ⟨rfl, hb⟩
    exact ⟨[], none, 0, rfl, ⟨by simp, List.Pairwise.nil⟩, fun h => absurd rfl h, hi_none _, hb, Nat.le_refl _⟩
  · obtain ⟨g, o, rfl, hr⟩ := hR hne
    obtain rfl := h0 g o rfl
    refine (sortedNumsSome R g cr u v z w (List.length_pos_iff.2 hne) hu hv hz hn (fun j h => by have := hr j h; rwa [Nat.zero_add] at this)).mono ?_
    rintro e w' ⟨ns, g', cap', rfl, h1, h2, h3, h4, h5, h6⟩
    exact ⟨ns, _, cap', rfl, ⟨h1, h2⟩, fun _ => ⟨g', 0, rfl, fun j h => by rw [Nat.zero_add]; exact h3 j h⟩, hi_some h4, h5, h6⟩
end Go.Proofs.YtanbgdhmfjgihaaGreatDoor

/- Load: the store that it makes. -/
namespace Go.Proofs.YtanbgdhmfjgihaaGreatDoor
open Go.RowKit

theorem Box18.r18 {w : World} {g : Nat} {s p o : V6} (h : Box18 w g s p o) : w.rangeAt g 0 [.int .i64 s.k, .bool s.b, .int .i64 s.n, .string s.t, .string s.x, .slice s.p s.len s.cap, .int .i64 p.k, .bool p.b, .int .i64 p.n, .string p.t, .string p.x, .slice p.p p.len p.cap, .int .i64 o.k, .bool o.b, .int .i64 o.n, .string o.t, .string o.x, .slice o.p o.len o.cap] := fun i v hv => by
  rw [Nat.zero_add]
  exact cell_of h i (by simpa using hv)
theorem tris_len {W : World} {L : Value} {l : List Tri3} (h : Tris W L l) : ∃ p cap, L = .slice p l.length cap := by
  obtain ⟨p, cap, e, _⟩ := h
  exact ⟨p, cap, e⟩
theorem chk_eq {W : World} {s p o : V6} {us up uo : Val} {ls lp lo : List Val} (hs : Is W s us ls) (hp : Is W p up lp) (ho : Is W o uo lo) : chkP s p o us up uo = t3Chk ⟨us, up, uo⟩ := by
  unfold chkP t3Chk
  rw [show kd us = s.k by rw [hs.e]; rfl, show kd up = p.k by rw [hp.e]; rfl, show kd uo = o.k by rw [ho.e]; rfl]
/-- What was loaded. -/
structure Loaded (l : List Tri3) (s : SM) : Prop where
  rise : Rise s.vs
  mem : ∀ u, u ∈ s.vs ↔ u ∈ flat l
  rows : s.rs.Pairwise R3.lt
  rmem : ∀ r, r ∈ s.rs ↔ ∃ t ∈ l, rowOf s.vs t = r.vr
  nums : ∀ k, k < 6 → Nums s.rs (lev k).1 (lev k).2.1 (lev k).2.2 (s.ls k)
  none : ∀ k, 6 ≤ k → s.ls k = []
  nv : s.vs.length ≤ 3 * l.length
  nr : s.rs.length ≤ l.length
/-- A store in memory of its own. -/
def StoreIn (base : Nat) (W : World) (sp : Nat) (s : SM) : Prop := ∃ pv pr cv cr pp cc, StoreIs W sp s pv pr cv cr pp cc ∧ base ≤ sp ∧ Hi base pv ∧ Hi base pr ∧ (∀ k, k < 6 → Hi base (pp k)) ∧ ∀ k, k < 6 → (s.ls k).length ≤ cc k
theorem StoreIn.at_ {base : Nat} {W : World} {sp : Nat} {s : SM} (h : StoreIn base W sp s) : StoreAt W sp s := by
  obtain ⟨pv, pr, cv, cr, pp, cc, k, _⟩ := h
  exact ⟨pv, pr, cv, cr, pp, cc, k⟩
def LoadOk (w : World) (l : List Tri3) (e : Ending) (w' : World) : Prop := ∃ sp s, e = .returned (.tuple #[.pointer (some ⟨sp, 0, none⟩), .int .i64 0]) ∧ StoreIn w.heap.size w' sp s ∧ Loaded l s ∧ Below w.heap.size w w'
def LoadBad (w : World) (e : Ending) (w' : World) : Prop := e = .returned (.tuple #[.pointer none, .int .i64 20]) ∧ Below w.heap.size w w'
/-- What the loop over the orders keeps. -/
structure GL (vs : List Val) (R : List R3) (pv pr : Option Addr) (cv cr : Nat) (k : Nat) (w2 wr : World) : Prop where
  h : ∃ (pp : Nat → Option Addr) (cc : Nat → Nat) (ls : Nat → List Nat), wr.heap[w2.heap.size]? = some (.cells #[.slice pv vs.length cv, .slice pr R.length cr, .slice (pp 0) (ls 0).length (cc 0), .slice (pp 1) (ls 1).length (cc 1), .slice (pp 2) (ls 2).length (cc 2), .slice (pp 3) (ls 3).length (cc 3), .slice (pp 4) (ls 4).length (cc 4), .slice (pp 5) (ls 5).length (cc 5)] 76) ∧ (∀ i, i < k → Nums R (lev i).1 (lev i).2.1 (lev i).2.2 (ls i) ∧ NumsAt wr (pp i) (ls i) ∧ Hi (w2.heap.size + 1) (pp i) ∧ (ls i).length ≤ cc i) ∧ (∀ i, k ≤ i → pp i = none ∧ cc i = 0 ∧ ls i = [])
  b : Below w2.heap.size w2 wr
theorem cells_set (a b : Value) (pp : Nat → Option Addr) (cc : Nat → Nat) (ls : Nat → List Nat) (k : Nat) (hk : k < 6) (pn : Option Addr) (ns : List Nat) (cn : Nat) :
    (#[a, b, .slice (pp 0) (ls 0).length (cc 0), .slice (pp 1) (ls 1).length (cc 1), .slice (pp 2) (ls 2).length (cc 2), .slice (pp 3) (ls 3).length (cc 3), .slice (pp 4) (ls 4).length (cc 4), .slice (pp 5) (ls 5).length (cc 5)] : Array Value).setIfInBounds (2 + k) (.slice pn ns.length cn) = #[a, b, .slice (if 0 = k then pn else pp 0) (if 0 = k then ns else ls 0).length (if 0 = k then cn else cc 0), .slice (if 1 = k then pn else pp 1) (if 1 = k then ns else ls 1).length (if 1 = k then cn else cc 1), .slice (if 2 = k then pn else pp 2) (if 2 = k then ns else ls 2).length (if 2 = k then cn else cc 2), .slice (if 3 = k then pn else pp 3) (if 3 = k then ns else ls 3).length (if 3 = k then cn else cc 3), .slice (if 4 = k then pn else pp 4) (if 4 = k then ns else ls 4).length (if 4 = k then cn else cc 4), .slice (if 5 = k then pn else pp 5) (if 5 = k then ns else ls 5).length (if 5 = k then cn else cc 5)] := by
  match k, hk with
  | 0, _ | 1, _ | 2, _ | 3, _ | 4, _ | 5, _ => rfl
theorem cells_get (a b : Value) (pp : Nat → Option Addr) (cc : Nat → Nat) (ls : Nat → List Nat) (k : Nat) (hk : k < 6) (h : pp k = none ∧ cc k = 0 ∧ ls k = []) :
    (#[a, b, .slice (pp 0) (ls 0).length (cc 0), .slice (pp 1) (ls 1).length (cc 1), .slice (pp 2) (ls 2).length (cc 2), .slice (pp 3) (ls 3).length (cc 3), .slice (pp 4) (ls 4).length (cc 4), .slice (pp 5) (ls 5).length (cc 5)] : Array Value)[2 + k]? = some (.slice none 0 0) := by
  obtain ⟨h1, h2, h3⟩ := h
  match k, hk with
  | 0, _ | 1, _ | 2, _ | 3, _ | 4, _ | 5, _ =>
    simp [h1, h2, h3]
theorem lev_lt (k : Nat) : (lev k).1 < 3 ∧ (lev k).2.1 < 3 ∧ (lev k).2.2 < 3 := by
  unfold lev
  split <;> decide
theorem NumsAt.only {W W' : World} {p : Option Addr} {l : List Nat} {b : Nat} (h : NumsAt W p l) (o : Only b W W') (hb : ∀ g o, p = some ⟨g, o, none⟩ → g ≠ b) : NumsAt W' p l := fun hn => by
  obtain ⟨g, o', e, k⟩ := h hn
  refine ⟨g, o', e, fun j hj => ?_⟩
  have hlt := World.block_lt_of_cell? W _ (k j hj)
  have hbk := o.block g hlt (hb g o' e)
  rw [World.cell?_of_block (w' := W') (w := W) (a := ⟨g, o' + j, none⟩) hbk]
  exact k j hj
set_option maxHeartbeats 6400000 in
set_option maxRecDepth 20000 in
theorem loadAt (L : Value) (l : List Tri3) (w : World) (hG : Gd w) (hT : Tab w) (hl : Tris w L l) (hn : l.length ≤ 65536) :
    Calls Tryz.prog 10 #[L] w fun e w' => ((∀ t ∈ l, t3Chk t = true) → LoadOk w l e w') ∧ (¬ (∀ t ∈ l, t3Chk t = true) → LoadBad w e w') := by
  obtain ⟨p0, cap, rfl⟩ := tris_len hl
  obtain ⟨n, hln⟩ : ∃ n, n = l.length := ⟨_, rfl⟩
  rw [← hln] at hn ⊢
  have hni : ¬ (65536 : Int) < n := by omega
  have HL := Lib.hid hln
  have HH := Lib.hid hl
  have HG := Lib.hid hG
  have HT := Lib.hid hT
  clear hl hln hG hT
  go_enter Tryz.func10, Tryz.ntmps10
  go_wp2_with fail
  go_loopg [14] n (fun gg s14 wr => ∃ j : Nat, j + gg = n ∧ s14 = .int .i64 j ∧ Hid (Below w.heap.size w wr) ∧ Hid (∀ (i : Nat) (h : i < l.length), i < j → t3Chk l[i] = true))
  case atStart => exact ⟨0, by omega, rfl, Lib.hid (Below.refl _ _), Lib.hid fun _ _ h => absurd h (by omega)⟩
  case round =>
    obtain ⟨j, hjg, rfl, HB, HA⟩ := hrel
    by_cases hlt : (j : Int) < n
    · have hj1 : j < l.length := by have := HL.out; omega
      obtain ⟨g, off, rfl, hh⟩ : ∃ g off, p0 = some ⟨g, off, none⟩ ∧ Holds w g off (flat l) := by
        obtain ⟨p1, cap1, e, h1⟩ := HH.out
        obtain ⟨g, off, e2, h2⟩ := h1 (by intro e; rw [e] at hj1; exact absurd hj1 (by simp))
        injection e with e3 _ _
        exact ⟨g, off, by rw [e3]; exact e2, h2⟩
      obtain ⟨s, p, o, ls, lp, lo, is, ip, io, ra⟩ := trisAt (Holds.below _ hh HB.out) j hj1
      obtain ⟨r, hr⟩ : ∃ r, r = t3Chk l[j] := ⟨_, rfl⟩
      have hc : ∀ W, Below wr.heap.size wr W → Calls Tryz.prog 13 #[.agg #[.int .i64 s.k, .bool s.b, .int .i64 s.n, .string s.t, .string s.x, .slice s.p s.len s.cap, .int .i64 p.k, .bool p.b, .int .i64 p.n, .string p.t, .string p.x, .slice p.p p.len p.cap, .int .i64 o.k, .bool o.b, .int .i64 o.n, .string o.t, .string o.x, .slice o.p o.len o.cap]] W fun e w' => e = .returned (.bool r) ∧ Low W.heap.size W w' := fun W hb => by
        have := checkTri s p o _ _ _ ls lp lo W ((HG.out.below HB.out).below hb) (is.below hb) (ip.below hb) (io.below hb)
        rw [chk_eq is ip io] at this
        rw [hr]
        exact this
      have HC := Lib.hid hc
      have HR := Lib.hid hr
      have hbs := HB.out.size
      clear hc hr is ip io hh
      go_upto_region 6 with (first
        | ((with_reducible refine wpList_load18 (.tmp 16) g (off + j * 18) s p o ra ?_ ?_ ?_ ?_); rfl; rfl; rfl)
        | ((with_reducible refine wpList_store18 (.tmp 5) (.tmp 17) wr.heap.size s p o (heap_new _ _ rfl) rfl ?_ ?_ ?_ ?_ ?_); rfl; rfl; rfl; rfl; intro wX hoX B))
      have bX : Below wr.heap.size wr wX := below_only (below1 wr _) hoX (Nat.le_refl _) (by simp)
      have hcX := HC.out wX bX
      have HBX := Lib.hid bX
      have B18 := B.r18
      have HCX := Lib.hid hcX
      clear hoX ra bX HC hcX
      cases r with
      | true =>
        go_wp2_with (first
          | ((with_reducible refine wpList_load18 (.tmp 5) wr.heap.size 0 s p o B18 ?_ ?_ ?_ ?_); rfl; rfl; rfl)
          | (go_at_call 13; (with_reducible refine HCX.out.mono ?_); rintro e w3 ⟨rfl, hb3⟩))
        have HB2 : Hid (Below w.heap.size w w3) := Lib.hid ((HB.out.trans (HBX.out.mono hbs)).trans (hb3.is.mono (Nat.le_trans hbs HBX.out.size)))
        clear hb3 HBX
        go_wp2_with fail
        go_roundg (gk - 1)
        case measure => omega
        case rel =>
          refine ⟨j + 1, by omega, by go_num, HB2, Lib.hid fun i h hi => ?_⟩
          by_cases e : i = j
          · subst e; exact HR.out.symm
          · exact HA.out i h (by omega)
      | false =>
        go_wp2_with (first
          | ((with_reducible refine wpList_load18 (.tmp 5) wr.heap.size 0 s p o B18 ?_ ?_ ?_ ?_); rfl; rfl; rfl)
          | (go_at_call 13; (with_reducible refine HCX.out.mono ?_); rintro e w3 ⟨rfl, hb3⟩))
        have HB2 : Hid (Below w.heap.size w w3) := Lib.hid ((HB.out.trans (HBX.out.mono hbs)).trans (hb3.is.mono (Nat.le_trans hbs HBX.out.size)))
        clear hb3 HBX
        go_wp2_with fail
        go_ret2
        refine ⟨fun h => ?_, fun _ => ⟨rfl, HB2.out⟩⟩
        have := h _ (List.getElem_mem hj1)
        rw [← HR.out] at this
        exact absurd this (by decide)
    · have hjn : j = l.length := by have := HL.out; omega
      have hgood : ∀ t ∈ l, t3Chk t = true := fun t ht => by
        obtain ⟨i, hi, rfl⟩ := List.getElem_of_mem ht
        exact HA.out i hi (by omega)
      have hv := sortedValsG l _ wr (HG.out.below HB.out) (HT.out.below HB.out) (HH.out.below HB.out) (by have := HL.out; omega) hgood
      rw [← HL.out] at hv
      have HV := Lib.hid hv
      have HGOOD := Lib.hid hgood
      clear hv hgood HA
      go_upto_region 10 with (first
        | (go_at_call 40; (with_reducible refine HV.out.mono ?_); rintro e1 w1 ⟨vs, pv, cv, rfl, hrise, hmem, hvals, hhv, hnv, hb1⟩))
      have b1 : Below w.heap.size w w1 := HB.out.trans (hb1.mono HB.out.size)
      have hrr := sortedRowsG l _ vs pv cv w1 (HG.out.below b1) (HT.out.below b1) (HH.out.below b1) (by have := HL.out; omega) hvals hrise hmem hnv (fun g o e => (hhv g o e).2)
      rw [← HL.out] at hrr
      have HRR := Lib.hid hrr
      have HX1 := Lib.hid (And.intro hrise (And.intro hmem (And.intro hvals (And.intro (hhv.mono HB.out.size) (And.intro hnv b1)))))
      clear hrr hrise hmem hvals hhv hnv b1 hb1
      go_upto_region 11 with (first
        | (go_at_call 41; (with_reducible refine HRR.out.mono ?_); rintro e2 w2 ⟨R, pr, cr, rfl, hrows, hrmem, hrat, hhr, hnr, hb2⟩))
      obtain ⟨hrise, hmem, hvals, hhv, hnv, b1⟩ := HX1.out
      have s1 := b1.size
      have b2 : Below w.heap.size w w2 := b1.trans (hb2.mono s1)
      have gl0 : GL vs R pv pr cv cr 0 w2 (w2.alloc (.cells #[.slice pv vs.length cv, .slice pr R.length cr, .slice none 0 0, .slice none 0 0, .slice none 0 0, .slice none 0 0, .slice none 0 0, .slice none 0 0] 76)) :=
        ⟨⟨fun _ => none, fun _ => 0, fun _ => [], heap_new _ _ rfl, fun i hi => absurd hi (by omega), fun i _ => ⟨rfl, rfl, rfl⟩⟩, below1 _ _⟩
      have HX2 := Lib.hid (And.intro hrows (And.intro hrmem (And.intro (hhr.mono s1) (And.intro hnr (And.intro b2 (And.intro (hvals.below hb2) hrat))))))
      have HG0 := Lib.hid gl0
      have hsp : w.heap.size ≤ w2.heap.size := b2.size
      have hRn : R.length < 1073741824 := by have := HL.out; omega
      have h01 : ∀ g o, pr = some ⟨g, o, none⟩ → o = 0 := fun g o e => (hhr g o e).2
      have HZ := Lib.hid h01
      clear gl0 b2 hb2 hrows hrmem hrat hhr hnr hrise hmem hvals hhv hnv b1 h01
      generalize w2.alloc (.cells #[.slice pv vs.length cv, .slice pr R.length cr, .slice none 0 0, .slice none 0 0, .slice none 0 0, .slice none 0 0, .slice none 0 0, .slice none 0 0] 76) = w4 at *
      go_wp2_with fail
      go_loopg [30] 6 (fun gg s30 wr => ∃ k : Nat, k + gg = 6 ∧ s30 = .int .i64 k ∧ Hid (GL vs R pv pr cv cr k w2 wr))
      case atStart => exact ⟨0, by omega, rfl, HG0⟩
      case round =>
        obtain ⟨k, hkg, rfl, HK⟩ := hrel
        by_cases hlt : (k : Int) < 6
        · have hk : k < 6 := by omega
          obtain ⟨⟨pp, cc, ls, hcells, hdone, hrest⟩, hbel⟩ := HK.out
          obtain ⟨cs, hcs⟩ : ∃ cs : Array Value, cs = #[.slice pv vs.length cv, .slice pr R.length cr, .slice (pp 0) (ls 0).length (cc 0), .slice (pp 1) (ls 1).length (cc 1), .slice (pp 2) (ls 2).length (cc 2), .slice (pp 3) (ls 3).length (cc 3), .slice (pp 4) (ls 4).length (cc 4), .slice (pp 5) (ls 5).length (cc 5)] := ⟨_, rfl⟩
          rw [← hcs] at hcells
          have HC1 : Hid (cs[1]? = some (.slice pr R.length cr)) := Lib.hid (by rw [hcs]; rfl)
          have HC2 : Hid (cs[2 + k]? = some (.slice none 0 0)) := Lib.hid (by rw [hcs]; exact cells_get _ _ pp cc ls k hk (hrest k (Nat.le_refl _)))
          have HCS := Lib.hid (fun pn ns cn => (congrArg (fun a : Array Value => a.setIfInBounds (2 + k) (.slice pn (ns : List Nat).length cn)) hcs).trans (cells_set _ _ pp cc ls k hk pn ns cn))
          have HLV := Lib.hid (fun W => levelsAt k hk W)
          have hlv := lev_lt k
          have hsn : ∀ W, Below wr.heap.size wr W → Calls Tryz.prog 42 #[.slice pr R.length cr, .agg #[.int .i64 ((lev k).1 : Nat), .int .i64 ((lev k).2.1 : Nat), .int .i64 ((lev k).2.2 : Nat)]] W (SNG W R (lev k).1 (lev k).2.1 (lev k).2.2) := fun W hb =>
            sortedNumsG R pr cr _ _ _ W hlv.1 hlv.2.1 hlv.2.2 hRn (HX2.out.2.2.2.2.2.2.below (hbel.trans (hb.mono hbel.size))) HZ.out
          have HSN := Lib.hid hsn
          have HX3 := Lib.hid (And.intro hdone (And.intro hrest hbel))
          have hsw := hbel.size
          clear hsn hdone hrest hbel hcs HK hlv
          have hk2 : (k : Int) < 6 := by omega
          go_upto_region 14 with fail
          refine wp_region_held_drew (S := fun W => ∃ cs', W.heap[w2.heap.size]? = some (.cells cs' 76) ∧ cs'[1]? = some (.slice pr R.length cr)) (by kernel_rfl) ⟨cs, hcells, HC1.out⟩ (fun hHeld => ?_)
          have M0 : Below wr.heap.size wr wr.drew := (Below.refl _ _).drew
          refine wpAnyH_take (i := 0) (v := .pointer (some ⟨w2.heap.size, 0, none⟩)) rfl (by kernel_rfl) (by kernel_rfl) (by kernel_rfl) (fun _ _ _ h => h) (Or.inl ⟨by rfl, fun W _ => by go_simp⟩) hHeld ?_
          try simp only [putS]
          refine wpAnyH_take (i := 1) (v := .int .i64 k) rfl (by kernel_rfl) (by kernel_rfl) (by kernel_rfl) (fun _ _ _ h => h) (Or.inl ⟨by rfl, fun W _ => by go_simp⟩) hHeld ?_
          try simp only [putS]
          refine wpAnyH_take (i := 2) (v := .pointer (some ⟨w2.heap.size, 0, none⟩)) rfl (by kernel_rfl) (by kernel_rfl) (by kernel_rfl) (fun _ _ _ h => h) (Or.inl ⟨by rfl, fun W _ => by go_simp⟩) hHeld ?_
          try simp only [putS]
          refine wpAnyH_take (i := 3) (v := .pointer (some ⟨w2.heap.size, 0, none⟩)) rfl (by kernel_rfl) (by kernel_rfl) (by kernel_rfl) (fun _ _ _ h => h) (Or.inl ⟨by rfl, fun W _ => by go_simp⟩) hHeld ?_
          try simp only [putS]
          refine wpAnyH_take (i := 4) (v := .pointer (some ⟨w2.heap.size, 1, none⟩)) rfl (by kernel_rfl) (by kernel_rfl) (by kernel_rfl) (fun _ _ _ h => h) (Or.inl ⟨by rfl, fun W _ => by go_simp⟩) hHeld ?_
          try simp only [putS]
          refine wpAnyH_take (i := 5) (v := .slice pr R.length cr) rfl (by kernel_rfl) (by kernel_rfl) (by kernel_rfl) (fun _ _ _ h => h) (Or.inl ⟨by rfl, fun W h => by obtain ⟨cs', h1, h2⟩ := h; have c0 := cell_of h1 1 h2; go_simp⟩) hHeld ?_
          try simp only [putS]
          refine wpAnyH_take (i := 6) (v := .int .i64 k) rfl (by kernel_rfl) (by kernel_rfl) (by kernel_rfl) (fun _ _ _ h => h) (Or.inl ⟨by rfl, fun W _ => by go_simp⟩) hHeld ?_
          try simp only [putS]
          refine wpAnyH_take (i := 9) (v := .pointer (some ⟨w2.heap.size, 0, none⟩)) rfl (by kernel_rfl) (by kernel_rfl) (by kernel_rfl) (fun _ _ _ h => h) (Or.inl ⟨by rfl, fun W _ => by go_simp⟩) hHeld ?_
          try simp only [putS]
          refine wpAnyH_take (i := 10) (v := .pointer (some ⟨w2.heap.size, 2, none⟩)) rfl (by kernel_rfl) (by kernel_rfl) (by kernel_rfl) (fun _ _ _ h => h) (Or.inl ⟨by rfl, fun W _ => by go_simp⟩) hHeld ?_
          try simp only [putS]
          refine wpAnyH_ready (rs := [7]) (by kernel_rfl) (by simp) ?_
          refine AllReadyH.cons rfl (fun K hK => ?_) AllReadyH.nil
          rw [if_pos (by rfl)]
          go_simp
          refine (HLV.out _).mono ?_
          rintro e0 w3 ⟨rfl, hb3⟩
          have M1 := below_any M0 hb3.is M0.size
          have hH1 := (hb3.block w2.heap.size (lt_of_heap hcells)).trans hcells
          clear hb3
          refine hK.out _ _ ⟨cs, hH1, HC1.out⟩ (fun hHeld1 => ?_)
          clear hK K
          try simp only [putS]
          refine wpAnyH_ready (rs := [8]) (by kernel_rfl) (by simp) ?_
          refine AllReadyH.cons rfl (fun K hK => ?_) AllReadyH.nil
          rw [if_pos (by rfl)]
          go_simp
          refine (HSN.out _ M1).mono ?_
          rintro e0 w3 ⟨ns, pn, cn, rfl, hnums, hnat, hhi, hb4, hcn⟩
          have M2 := below_any M1 hb4 M1.size
          have hH2 := (hb4.block w2.heap.size (lt_of_heap hH1)).trans hH1
          have HN := Lib.hid (And.intro hnums (And.intro hnat (And.intro (hhi.mono M1.size) (And.intro M2 hcn))))
          clear hb4 hnums hnat hhi M1 M2 hcn
          refine hK.out _ _ ⟨cs, hH2, HC1.out⟩ (fun hHeld2 => ?_)
          clear hK K
          try simp only [putS]
          refine wpAnyH_take (i := 11) (v := .pointer (some ⟨w2.heap.size, 2 + k, none⟩)) rfl (by kernel_rfl) (by kernel_rfl) (by kernel_rfl) (fun _ _ _ h => h) (Or.inl ⟨by rfl, fun W _ => by go_simp⟩) hHeld2 ?_
          try simp only [putS]
          refine wpAnyH_ready (rs := [12]) (by kernel_rfl) (by simp) ?_
          refine AllReadyH.cons rfl (fun K hK => ?_) AllReadyH.nil
          have c0 := cell_of hH2 (2 + k) HC2.out
          have f0 := free_of hH2 (2 + k)
          go_simp
          have hS := heap_set hH2 (2 + k) (.slice pn ns.length cn)
          refine hK.out _ _ ⟨cs.setIfInBounds (2 + k) (.slice pn ns.length cn), hS, by rw [Array.getElem?_setIfInBounds_ne (by omega)]; exact HC1.out⟩ (fun _ => ?_)
          clear hK K c0 f0
          try simp only [putS]
          refine wpAnyH_done (by kernel_rfl) ?_ _
          have acc : GL vs R pv pr cv cr (k + 1) w2 (w3.setCell ⟨w2.heap.size, 2 + k, none⟩ (.slice pn ns.length cn)) := by
            obtain ⟨hdone, hrest, hbel⟩ := HX3.out
            obtain ⟨hnums, hnat, hhi, M2, hcn⟩ := HN.out
            have hlt := lt_of_heap hcells
            have on : Only w2.heap.size w3 (w3.setCell ⟨w2.heap.size, 2 + k, none⟩ (.slice pn ns.length cn)) := (Only.refl _ _).setCell _ _ _
            refine ⟨⟨fun i => if i = k then pn else pp i, fun i => if i = k then cn else cc i, fun i => if i = k then ns else ls i, ?_, fun i hi => ?_, fun i hi => ?_⟩, ?_⟩
            · rw [hS, HCS.out pn ns cn]
            · by_cases e : i = k
              · subst e
                simp only [if_true]
                exact ⟨hnums, hnat.only on (fun g o e => by have := (hhi g o e).1; omega), hhi.mono (by omega), hcn⟩
              · simp only [if_neg e]
                obtain ⟨h1, h2, h3, h4⟩ := hdone i (by omega)
                exact ⟨h1, (h2.below M2).only on (fun g o e => by have := (h3 g o e).1; omega), h3, h4⟩
            · have e : ¬ i = k := by omega
              simp only [if_neg e]
              exact hrest i (by omega)
            · exact below_set (hbel.trans (M2.mono hsw)) none _ (Nat.le_refl _) (Nat.le_trans hsw M2.size)
          have ACC := Lib.hid acc
          clear acc hS hH2 hH1 hHeld2 HN HX3 HCS HC1 HC2 HLV HSN hcells M0
          generalize w3.setCell ⟨w2.heap.size, 2 + k, none⟩ (.slice pn ns.length cn) = w5 at *
          go_wp2_with fail
          go_roundg (gk - 1)
          case measure => omega
          case rel => exact ⟨k + 1, by omega, by go_num, ACC⟩
        · have hk : k = 6 := by omega
          subst hk
          have hfin : LoadOk w l (.returned (.tuple #[.pointer (some ⟨w2.heap.size, 0, none⟩), .int .i64 0])) wr := by
            obtain ⟨⟨pp, cc, ls, hcells, hdone, hrest⟩, hbel⟩ := HK.out
            obtain ⟨hrows, hrmem, hhr, hnr, b2, hvals, hrat⟩ := HX2.out
            obtain ⟨hrise, hmem, _, hhv, hnv, _⟩ := HX1.out
            refine ⟨w2.heap.size, ⟨vs, R, ls⟩, rfl, ⟨pv, pr, cv, cr, pp, cc, ⟨hcells, hvals.below hbel, hrat.below hbel, fun i hi => (hdone i hi).2.1⟩, hsp, hhv, hhr, fun i hi => ((hdone i hi).2.2.1).mono (by omega), fun i hi => (hdone i hi).2.2.2⟩, ⟨hrise, hmem, hrows, hrmem, fun i hi => (hdone i hi).1, fun i hi => (hrest i hi).2.2, hnv, hnr⟩, b2.trans (hbel.mono hsp)⟩
          have HF := Lib.hid hfin
          clear hfin HK
          go_wp2_with fail
          go_ret2
          refine ⟨fun _ => HF.out, ?_⟩
          intro t ht e
          rw [HGOOD.out t ht] at e
          cases e
end Go.Proofs.YtanbgdhmfjgihaaGreatDoor
