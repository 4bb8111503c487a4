/- Texts of one kind, one behind the other: each says ahead of itself what it shows. -/
import Derived.Test.YtcfmenkigolnoaaGreatDoorTag
import Derived.Test.YtcfmenkigolnoaaGreatDoorTah
import Derived.Deep.RegionHeld
import Derived.Deep.Cut
import Derived.Deep.CutBlock
import Derived.BigQuiet
/- own: a value in new memory. -/
namespace Go.Proofs.YtcfmenkigolnoaaGreatDoor
open Go.RowKit

theorem rowE_of_holdsF {w : World} {P : Nat → Prop} {g : Nat} : (l : List Val) → (off : Nat) → HoldsF w P g off l → ∃ xs, w.rangeAt g off xs ∧ RowE valE w P xs l
  | [], _, _ => ⟨[], fun j u hu => by simp at hu, RowE.nil⟩
  | .mk k b n t x q :: r, off, h => by
    unfold HoldsF HoldsOneF at h
    obtain ⟨⟨h0, h1, h2, h3, h4, hf, L, h5, hl⟩, hr⟩ := h
    obtain ⟨xs, hx, hrow⟩ := rowE_of_holdsF r (off + 6) hr
    refine ⟨[.int .i64 k, .bool b, .int .i64 n, .string t, .string x, L] ++ xs, fun j u hu => ?_, RowE.append [_] r (RowE.single ⟨L, rfl, hf, hl⟩) hrow⟩
    by_cases hj : j < 6
    · rw [List.getElem?_append_left (by simpa using hj)] at hu
      match j, hj with
      | 0, _ => simp at hu; subst hu; exact h0
      | 1, _ => simp at hu; subst hu; exact h1
      | 2, _ => simp at hu; subst hu; exact h2
      | 3, _ => simp at hu; subst hu; exact h3
      | 4, _ => simp at hu; subst hu; exact h4
      | 5, _ => simp at hu; subst hu; exact h5
    · rw [List.getElem?_append_right (by simpa using hj)] at hu
      have := hx (j - 6) u (by simpa using hu)
      rwa [show off + 6 + (j - 6) = off + j by omega] at this
theorem sliceE_of_heldF {w : World} {P : Nat → Prop} {L : Value} : (l : List Val) → HeldF w P L l → SliceE valE w P L l
  | [], h => by
    unfold HeldF at h
    obtain ⟨p, cap, rfl⟩ := h
    exact SliceE.nil _ _
  | v :: r, h => by
    unfold HeldF at h
    obtain ⟨g, off, cap, rfl, hg, hv, hr⟩ := h
    obtain ⟨xs, hx, hrow⟩ := rowE_of_holdsF (v :: r) off (by unfold HoldsF; exact ⟨hv, hr⟩)
    exact ⟨_, cap, rfl, fun _ => ⟨g, off, xs, rfl, hg, hx, hrow⟩⟩
theorem holdsF_of_rowE {w : World} {P : Nat → Prop} {g : Nat} : (l : List Val) → (off : Nat) → (xs : List Value) → w.rangeAt g off xs → RowE valE w P xs l → HoldsF w P g off l
  | [], _, _, _, _ => by unfold HoldsF; trivial
  | .mk k b n t x q :: r, off, xs, hx, h => by
    unfold RowE at h
    obtain ⟨c, ys, rfl, ⟨L, rfl, hf, hl⟩, hr⟩ := h
    unfold HoldsF HoldsOneF
    refine ⟨⟨hx 0 _ rfl, hx 1 _ rfl, hx 2 _ rfl, hx 3 _ rfl, hx 4 _ rfl, hf, L, hx 5 _ rfl, hl⟩, holdsF_of_rowE r (off + 6) ys (fun j u hu => ?_) hr⟩
    have := hx (6 + j) u (by rw [List.getElem?_append_right (by simp)]; simpa using hu)
    rwa [← Nat.add_assoc] at this
theorem heldF_of_sliceE {w : World} {P : Nat → Prop} {L : Value} : (l : List Val) → SliceE valE w P L l → HeldF w P L l
  | [], h => by
    obtain ⟨p, cap, rfl, _⟩ := h
    unfold HeldF
    exact ⟨p, cap, rfl⟩
  | v :: r, h => by
    obtain ⟨p, cap, rfl, h⟩ := h
    obtain ⟨g, off, xs, rfl, hg, hx, hrow⟩ := h (by simp)
    have hh := holdsF_of_rowE (v :: r) off xs hx hrow
    unfold HoldsF at hh
    unfold HeldF
    exact ⟨g, off, cap, rfl, hg, hh.1, hh.2⟩
/-- What a loop tells, as a slice of new blocks. -/
theorem MapPost.slice {β : Type} {E : Elem β} {D : TypeId} {w w' : World} {bs : List β} {V : Value} {xs : List Value} (h : w'.ownsRow w.heap.size D E.k V bs.length xs) (r : RowE E w' (Inn w V w') xs bs) : SliceE E w' (New w w') V bs :=
  sliceE_of_own h r (fun g hg => ⟨hg.1, hg.2.1⟩) (fun g hg => ⟨(h.lt g hg).1, (h.lt g hg).2⟩)
theorem heldF_set {w : World} {N i : Nat} {V v : Value} (q : List Val) (hq : HeldF w (fun g => N + 1 < g ∧ g < w.heap.size) V q) : HeldF (w.setCell ⟨N, i, none⟩ v) (fun g => N + 1 < g ∧ g < (w.setCell ⟨N, i, none⟩ v).heap.size) V q :=
  HeldF.stays (fun g hg => ⟨⟨hg.1, by simpa using hg.2⟩, Below.heap_setCell _ _ _ _ (by show g ≠ N; have := hg.1; omega)⟩) q hq
/-- A value's own copy. -/
def OwnV (v : Val) : Prop := ∀ (W : World) (c : List Value), valRel W (Old W) c v → Calls Tryz.prog 59 #[.agg c.toArray] W (TellPost valE v W)
theorem ownList (q : List Val) (L : Value) (W : World) (hl : HeldF W (Old W) L q) (hn : q.length ≤ 2097152) (each : ∀ v ∈ q, OwnV v) : Calls Tryz.prog 94 #[L, .func (.func 59) #[] #[]] W (MapPost valE 60 W q) := by
  have h := map94 id q L W (sliceE_of_heldF q hl) hn fun x hx W' c _ hr => each x hx W' c hr
  rwa [List.map_id] at h
set_option maxHeartbeats 6400000 in
set_option maxRecDepth 20000 in
theorem ownStep (k : Int) (b : Bool) (n : Int) (t x : ByteArray) (q : List Val) (p : Option Addr) (cap : Nat) (w : World) (hf : Fine n t x q.length) (hl : HeldF w (Old w) (.slice p q.length cap) q) (each : ∀ v ∈ q, OwnV v) :
    Calls Tryz.prog 59 #[.agg #[.int .i64 k, .bool b, .int .i64 n, .string t, .string x, .slice p q.length cap]] w fun e w' => ∃ V, e = .returned (.agg #[.int .i64 k, .bool b, .int .i64 n, .string t, .string x, V]) ∧ HeldF w' (New w w') V q ∧ Below w.heap.size w w' := by
  obtain ⟨w1, hw1⟩ : ∃ w1, w1 = (w.alloc (.cells #[.int .i64 k, .bool b, .int .i64 n, .string t, .string x, .slice p q.length cap] 60)).alloc (.cells #[.int .i64 0, .bool false, .int .i64 0, .string ⟨#[]⟩, .string ⟨#[]⟩, .slice none 0 0] 60) := ⟨_, rfl⟩
  have u1 : Six w1 w.heap.size k b n t x p q.length cap := by rw [hw1]; exact (six_new _ rfl).alloc _
  have u2 : Six w1 (w.heap.size + 1) 0 false 0 ⟨#[]⟩ ⟨#[]⟩ none 0 0 := by rw [hw1]; exact six_new _ (by simp)
  have bw : Below w.heap.size w w1 := by rw [hw1]; exact below2 _ _ _
  have HCL := Lib.hid (fun W => cloneAt t W (by have := hf.ht; omega))
  have HCX := Lib.hid (fun W => cloneAt x W (by have := hf.hx; omega))
  have HLL : Hid (∀ W, Below w.heap.size w W → Calls Tryz.prog 94 #[.slice p q.length cap, .func (.func 59) #[] #[]] W (MapPost valE 60 W q)) :=
    Lib.hid fun W hb => ownList q _ W (HeldF.stays (old_below hb) q hl) hf.hn each
  have HW := Lib.hid hw1
  clear hw1 hf hl each
  go_enter Tryz.func59, Tryz.ntmps59
  go_upto_region 1 with fail
  rw [← HW.out]
  refine wp_region_held_drew (S := fun W => ∃ p' n' c', Six W w.heap.size k b n t x p' n' c') (by kernel_rfl) ⟨p, q.length, cap, u1⟩ (fun hHeld => ?_)
  replace bw := bw.drew
  replace u1 : Six w1.drew w.heap.size k b n t x p q.length cap := u1
  replace u2 : Six w1.drew (w.heap.size + 1) 0 false 0 ⟨#[]⟩ ⟨#[]⟩ none 0 0 := u2
  refine wpAnyH_take (i := 0) (v := .pointer (some ⟨w.heap.size, 3, none⟩)) rfl (by kernel_rfl) (by kernel_rfl) (by kernel_rfl) (fun _ _ _ h => h) (Or.inl ⟨by rfl, fun W _ => by go_simp⟩) hHeld ?_
  try simp only [Act.put, List.getElem_toArray, List.getElem_cons_succ, List.getElem_cons_zero, List.setIfInBounds_toArray, List.set_cons_zero, List.set_cons_succ]
  refine wpAnyH_take (i := 3) (v := .pointer (some ⟨w.heap.size, 4, none⟩)) rfl (by kernel_rfl) (by kernel_rfl) (by kernel_rfl) (fun _ _ _ h => h) (Or.inl ⟨by rfl, fun W _ => by go_simp⟩) hHeld ?_
  try simp only [Act.put, List.getElem_toArray, List.getElem_cons_succ, List.getElem_cons_zero, List.setIfInBounds_toArray, List.set_cons_zero, List.set_cons_succ]
  refine wpAnyH_take (i := 6) (v := .pointer (some ⟨w.heap.size, 5, none⟩)) rfl (by kernel_rfl) (by kernel_rfl) (by kernel_rfl) (fun _ _ _ h => h) (Or.inl ⟨by rfl, fun W _ => by go_simp⟩) hHeld ?_
  try simp only [Act.put, List.getElem_toArray, List.getElem_cons_succ, List.getElem_cons_zero, List.setIfInBounds_toArray, List.set_cons_zero, List.set_cons_succ]
  refine wpAnyH_take (i := 1) (v := .string t) rfl (by kernel_rfl) (by kernel_rfl) (by kernel_rfl) (fun _ _ _ h => h) (Or.inl ⟨by rfl, fun W ⟨_, _, _, h⟩ => by have c0 := h.c3; go_simp⟩) hHeld ?_
  try simp only [Act.put, List.getElem_toArray, List.getElem_cons_succ, List.getElem_cons_zero, List.setIfInBounds_toArray, List.set_cons_zero, List.set_cons_succ]
  refine wpAnyH_take (i := 4) (v := .string x) rfl (by kernel_rfl) (by kernel_rfl) (by kernel_rfl) (fun _ _ _ h => h) (Or.inl ⟨by rfl, fun W ⟨_, _, _, h⟩ => by have c0 := h.c4; go_simp⟩) hHeld ?_
  try simp only [Act.put, List.getElem_toArray, List.getElem_cons_succ, List.getElem_cons_zero, List.setIfInBounds_toArray, List.set_cons_zero, List.set_cons_succ]
  clear hHeld
  refine wpAnyH_ready (rs := [2, 7]) (by kernel_rfl) (by simp) ?_
  refine AllReadyH.cons rfl (fun K hK => ?_) (AllReadyH.cons rfl (fun K hK => ?_) AllReadyH.nil)
  · rw [if_pos (by rfl)]
    go_simp
    refine (HCL.out _).mono ?_
    rintro e0 w3 ⟨rfl, hb3⟩
    replace u1 := u1.below hb3
    replace u2 := u2.below hb3
    replace bw := below_any bw hb3 bw.size
    refine hK.out _ _ ⟨_, _, _, u1⟩ (fun _ => ?_)
    clear hK K hb3
    try simp only [Act.put, List.getElem_toArray, List.getElem_cons_succ, List.getElem_cons_zero, List.setIfInBounds_toArray, List.set_cons_zero, List.set_cons_succ]
    refine wpAnyH_ready (rs := [5, 7]) (by kernel_rfl) (by simp) ?_
    refine AllReadyH.cons rfl (fun K hK => ?_) (AllReadyH.cons rfl (fun K hK => ?_) AllReadyH.nil)
    · rw [if_pos (by rfl)]
      go_simp
      refine (HCX.out _).mono ?_
      rintro e0 w3 ⟨rfl, hb3⟩
      replace u1 := u1.below hb3
      replace u2 := u2.below hb3
      replace bw := below_any bw hb3 bw.size
      refine hK.out _ _ ⟨_, _, _, u1⟩ (fun _ => ?_)
      clear hK K hb3
      try simp only [Act.put, List.getElem_toArray, List.getElem_cons_succ, List.getElem_cons_zero, List.setIfInBounds_toArray, List.set_cons_zero, List.set_cons_succ]
      refine wpAnyH_ready (rs := [7]) (by kernel_rfl) (by simp) ?_
      refine AllReadyH.cons rfl (fun K hK => ?_) AllReadyH.nil
      rw [if_pos (by rfl)]
      have c0 := u1.c5
      go_simp
      refine hK.out _ _ ⟨_, _, _, u1⟩ (fun _ => ?_)
      clear hK K c0
      try simp only [Act.put, List.getElem_toArray, List.getElem_cons_succ, List.getElem_cons_zero, List.setIfInBounds_toArray, List.set_cons_zero, List.set_cons_succ]
      refine wpAnyH_take (i := 9) (v := .pointer (some ⟨w.heap.size, 3, none⟩)) rfl (by kernel_rfl) (by kernel_rfl) (by kernel_rfl) (fun _ _ _ h => h) (Or.inl ⟨by rfl, fun W _ => by go_simp⟩) ⟨_, _, _, u1⟩ ?_
      try simp only [Act.put, List.getElem_toArray, List.getElem_cons_succ, List.getElem_cons_zero, List.setIfInBounds_toArray, List.set_cons_zero, List.set_cons_succ]
      refine wpAnyH_ready (rs := [8]) (by kernel_rfl) (by simp) ?_
      refine AllReadyH.cons rfl (fun K hK => ?_) AllReadyH.nil
      rw [if_pos (by rfl)]
      go_simp
      refine (HLL.out _ bw).mono ?_
      rintro e0 w3 ⟨V, xs, rfl, hown, hrow, hb3⟩
      have hV : HeldF w3 (fun g => w.heap.size + 1 < g ∧ g < w3.heap.size) V q := HeldF.stays (fun g hg => ⟨⟨by have := hg.1; have := u2.lt; omega, hg.2⟩, rfl⟩) q (heldF_of_sliceE q (MapPost.slice hown hrow))
      obtain ⟨pv, cv, rfl⟩ := held_slice (HeldF.held q hV)
      replace u1 := u1.below hb3
      replace u2 := u2.below hb3
      replace bw := below_any bw hb3 bw.size
      have HV := Lib.hid hV
      refine hK.out _ _ ⟨_, _, _, u1⟩ (fun _ => ?_)
      clear hK K hb3 hown hrow hV
      try simp only [Act.put, List.getElem_toArray, List.getElem_cons_succ, List.getElem_cons_zero, List.setIfInBounds_toArray, List.set_cons_zero, List.set_cons_succ]
      refine wpAnyH_ready (rs := [10]) (by kernel_rfl) (by simp) ?_
      refine AllReadyH.cons rfl (fun K hK => ?_) AllReadyH.nil
      have c0 := u1.c3
      have f0 := u1.free 3
      go_simp
      replace HV := Lib.hid (heldF_set (i := 3) (v := .string t) q HV.out)
      replace bw := below_set (e := w.heap.size) (o := 3) bw none (.string t) (Nat.le_refl _) bw.size
      replace u2 := u2.only ((Only.refl w.heap.size _).setCell 3 none (.string t)) (by omega)
      replace u1 := u1.set3 t
      refine hK.out _ _ ⟨_, _, _, u1⟩ (fun _ => ?_)
      clear hK K c0 f0
      try simp only [Act.put, List.getElem_toArray, List.getElem_cons_succ, List.getElem_cons_zero, List.setIfInBounds_toArray, List.set_cons_zero, List.set_cons_succ]
      refine wpAnyH_take (i := 11) (v := .pointer (some ⟨w.heap.size, 4, none⟩)) rfl (by kernel_rfl) (by kernel_rfl) (by kernel_rfl) (fun _ _ _ h => h) (Or.inl ⟨by rfl, fun W _ => by go_simp⟩) ⟨_, _, _, u1⟩ ?_
      try simp only [Act.put, List.getElem_toArray, List.getElem_cons_succ, List.getElem_cons_zero, List.setIfInBounds_toArray, List.set_cons_zero, List.set_cons_succ]
      refine wpAnyH_ready (rs := [12]) (by kernel_rfl) (by simp) ?_
      refine AllReadyH.cons rfl (fun K hK => ?_) AllReadyH.nil
      have c0 := u1.c4
      have f0 := u1.free 4
      go_simp
      replace HV := Lib.hid (heldF_set (i := 4) (v := .string x) q HV.out)
      replace bw := below_set (e := w.heap.size) (o := 4) bw none (.string x) (Nat.le_refl _) bw.size
      replace u2 := u2.only ((Only.refl w.heap.size _).setCell 4 none (.string x)) (by omega)
      replace u1 := u1.set4 x
      refine hK.out _ _ ⟨_, _, _, u1⟩ (fun _ => ?_)
      clear hK K c0 f0
      try simp only [Act.put, List.getElem_toArray, List.getElem_cons_succ, List.getElem_cons_zero, List.setIfInBounds_toArray, List.set_cons_zero, List.set_cons_succ]
      refine wpAnyH_take (i := 13) (v := .pointer (some ⟨w.heap.size, 5, none⟩)) rfl (by kernel_rfl) (by kernel_rfl) (by kernel_rfl) (fun _ _ _ h => h) (Or.inl ⟨by rfl, fun W _ => by go_simp⟩) ⟨_, _, _, u1⟩ ?_
      try simp only [Act.put, List.getElem_toArray, List.getElem_cons_succ, List.getElem_cons_zero, List.setIfInBounds_toArray, List.set_cons_zero, List.set_cons_succ]
      refine wpAnyH_ready (rs := [14]) (by kernel_rfl) (by simp) ?_
      refine AllReadyH.cons rfl (fun K hK => ?_) AllReadyH.nil
      have c0 := u1.c5
      have f0 := u1.free 5
      go_simp
      replace HV := Lib.hid (heldF_set (i := 5) (v := .slice pv q.length cv) q HV.out)
      replace bw := below_set (e := w.heap.size) (o := 5) bw none (.slice pv q.length cv) (Nat.le_refl _) bw.size
      replace u2 := u2.only ((Only.refl w.heap.size _).setCell 5 none (.slice pv q.length cv)) (by omega)
      replace u1 := u1.set5 pv q.length cv
      refine hK.out _ _ ⟨_, _, _, u1⟩ (fun _ => ?_)
      clear hK K c0 f0
      try simp only [Act.put, List.getElem_toArray, List.getElem_cons_succ, List.getElem_cons_zero, List.setIfInBounds_toArray, List.set_cons_zero, List.set_cons_succ]
      refine wpAnyH_done (by kernel_rfl) ?_ _
      go_wp2_with (first
        | ((with_reducible refine wpList_load6 (.tmp 1) w.heap.size u1 ?_ ?_ ?_ ?_); rfl; rfl; rfl)
        | ((with_reducible refine wpList_store6 (k' := k) (b' := b) (n' := n) (t' := t) (x' := x) (p' := pv) (len' := q.length) (cap' := cv) (.tmp 2) (.tmp 15) (w.heap.size + 1) u2 ?_ ?_ ?_ ?_ ?_); rfl; rfl; rfl; rfl; intro w5 ho5 u5))
      have b5 := below_only bw ho5 (Nat.le_succ _) bw.size
      refine bodyPost_ret (results_sixA (p := 2) Tryz.results59 _ rfl u5) rfl ⟨_, rfl, HeldF.stays (fun g hg => ⟨⟨by have := hg.1; omega, Nat.lt_of_lt_of_le hg.2 ho5.size⟩, ho5.block g hg.2 (by have := hg.1; omega)⟩) q HV.out, b5⟩
    · rw [if_pos (by rfl)]
      have c0 := u1.c5
      go_simp
      refine hK.out _ _ ⟨_, _, _, u1⟩ (fun _ => ?_)
      clear hK K c0
      try simp only [Act.put, List.getElem_toArray, List.getElem_cons_succ, List.getElem_cons_zero, List.setIfInBounds_toArray, List.set_cons_zero, List.set_cons_succ]
      refine wpAnyH_take (i := 9) (v := .pointer (some ⟨w.heap.size, 3, none⟩)) rfl (by kernel_rfl) (by kernel_rfl) (by kernel_rfl) (fun _ _ _ h => h) (Or.inl ⟨by rfl, fun W _ => by go_simp⟩) ⟨_, _, _, u1⟩ ?_
      try simp only [Act.put, List.getElem_toArray, List.getElem_cons_succ, List.getElem_cons_zero, List.setIfInBounds_toArray, List.set_cons_zero, List.set_cons_succ]
      refine wpAnyH_ready (rs := [5]) (by kernel_rfl) (by simp) ?_
      refine AllReadyH.cons rfl (fun K hK => ?_) AllReadyH.nil
      rw [if_pos (by rfl)]
      go_simp
      refine (HCX.out _).mono ?_
      rintro e0 w3 ⟨rfl, hb3⟩
      replace u1 := u1.below hb3
      replace u2 := u2.below hb3
      replace bw := below_any bw hb3 bw.size
      refine hK.out _ _ ⟨_, _, _, u1⟩ (fun _ => ?_)
      clear hK K hb3
      try simp only [Act.put, List.getElem_toArray, List.getElem_cons_succ, List.getElem_cons_zero, List.setIfInBounds_toArray, List.set_cons_zero, List.set_cons_succ]
      refine wpAnyH_ready (rs := [8]) (by kernel_rfl) (by simp) ?_
      refine AllReadyH.cons rfl (fun K hK => ?_) AllReadyH.nil
      rw [if_pos (by rfl)]
      go_simp
      refine (HLL.out _ bw).mono ?_
      rintro e0 w3 ⟨V, xs, rfl, hown, hrow, hb3⟩
      have hV : HeldF w3 (fun g => w.heap.size + 1 < g ∧ g < w3.heap.size) V q := HeldF.stays (fun g hg => ⟨⟨by have := hg.1; have := u2.lt; omega, hg.2⟩, rfl⟩) q (heldF_of_sliceE q (MapPost.slice hown hrow))
      obtain ⟨pv, cv, rfl⟩ := held_slice (HeldF.held q hV)
      replace u1 := u1.below hb3
      replace u2 := u2.below hb3
      replace bw := below_any bw hb3 bw.size
      have HV := Lib.hid hV
      refine hK.out _ _ ⟨_, _, _, u1⟩ (fun _ => ?_)
      clear hK K hb3 hown hrow hV
      try simp only [Act.put, List.getElem_toArray, List.getElem_cons_succ, List.getElem_cons_zero, List.setIfInBounds_toArray, List.set_cons_zero, List.set_cons_succ]
      refine wpAnyH_ready (rs := [10]) (by kernel_rfl) (by simp) ?_
      refine AllReadyH.cons rfl (fun K hK => ?_) AllReadyH.nil
      have c0 := u1.c3
      have f0 := u1.free 3
      go_simp
      replace HV := Lib.hid (heldF_set (i := 3) (v := .string t) q HV.out)
      replace bw := below_set (e := w.heap.size) (o := 3) bw none (.string t) (Nat.le_refl _) bw.size
      replace u2 := u2.only ((Only.refl w.heap.size _).setCell 3 none (.string t)) (by omega)
      replace u1 := u1.set3 t
      refine hK.out _ _ ⟨_, _, _, u1⟩ (fun _ => ?_)
      clear hK K c0 f0
      try simp only [Act.put, List.getElem_toArray, List.getElem_cons_succ, List.getElem_cons_zero, List.setIfInBounds_toArray, List.set_cons_zero, List.set_cons_succ]
      refine wpAnyH_take (i := 11) (v := .pointer (some ⟨w.heap.size, 4, none⟩)) rfl (by kernel_rfl) (by kernel_rfl) (by kernel_rfl) (fun _ _ _ h => h) (Or.inl ⟨by rfl, fun W _ => by go_simp⟩) ⟨_, _, _, u1⟩ ?_
      try simp only [Act.put, List.getElem_toArray, List.getElem_cons_succ, List.getElem_cons_zero, List.setIfInBounds_toArray, List.set_cons_zero, List.set_cons_succ]
      refine wpAnyH_ready (rs := [12]) (by kernel_rfl) (by simp) ?_
      refine AllReadyH.cons rfl (fun K hK => ?_) AllReadyH.nil
      have c0 := u1.c4
      have f0 := u1.free 4
      go_simp
      replace HV := Lib.hid (heldF_set (i := 4) (v := .string x) q HV.out)
      replace bw := below_set (e := w.heap.size) (o := 4) bw none (.string x) (Nat.le_refl _) bw.size
      replace u2 := u2.only ((Only.refl w.heap.size _).setCell 4 none (.string x)) (by omega)
      replace u1 := u1.set4 x
      refine hK.out _ _ ⟨_, _, _, u1⟩ (fun _ => ?_)
      clear hK K c0 f0
      try simp only [Act.put, List.getElem_toArray, List.getElem_cons_succ, List.getElem_cons_zero, List.setIfInBounds_toArray, List.set_cons_zero, List.set_cons_succ]
      refine wpAnyH_take (i := 13) (v := .pointer (some ⟨w.heap.size, 5, none⟩)) rfl (by kernel_rfl) (by kernel_rfl) (by kernel_rfl) (fun _ _ _ h => h) (Or.inl ⟨by rfl, fun W _ => by go_simp⟩) ⟨_, _, _, u1⟩ ?_
      try simp only [Act.put, List.getElem_toArray, List.getElem_cons_succ, List.getElem_cons_zero, List.setIfInBounds_toArray, List.set_cons_zero, List.set_cons_succ]
      refine wpAnyH_ready (rs := [14]) (by kernel_rfl) (by simp) ?_
      refine AllReadyH.cons rfl (fun K hK => ?_) AllReadyH.nil
      have c0 := u1.c5
      have f0 := u1.free 5
      go_simp
      replace HV := Lib.hid (heldF_set (i := 5) (v := .slice pv q.length cv) q HV.out)
      replace bw := below_set (e := w.heap.size) (o := 5) bw none (.slice pv q.length cv) (Nat.le_refl _) bw.size
      replace u2 := u2.only ((Only.refl w.heap.size _).setCell 5 none (.slice pv q.length cv)) (by omega)
      replace u1 := u1.set5 pv q.length cv
      refine hK.out _ _ ⟨_, _, _, u1⟩ (fun _ => ?_)
      clear hK K c0 f0
      try simp only [Act.put, List.getElem_toArray, List.getElem_cons_succ, List.getElem_cons_zero, List.setIfInBounds_toArray, List.set_cons_zero, List.set_cons_succ]
      refine wpAnyH_done (by kernel_rfl) ?_ _
      go_wp2_with (first
        | ((with_reducible refine wpList_load6 (.tmp 1) w.heap.size u1 ?_ ?_ ?_ ?_); rfl; rfl; rfl)
        | ((with_reducible refine wpList_store6 (k' := k) (b' := b) (n' := n) (t' := t) (x' := x) (p' := pv) (len' := q.length) (cap' := cv) (.tmp 2) (.tmp 15) (w.heap.size + 1) u2 ?_ ?_ ?_ ?_ ?_); rfl; rfl; rfl; rfl; intro w5 ho5 u5))
      have b5 := below_only bw ho5 (Nat.le_succ _) bw.size
      refine bodyPost_ret (results_sixA (p := 2) Tryz.results59 _ rfl u5) rfl ⟨_, rfl, HeldF.stays (fun g hg => ⟨⟨by have := hg.1; omega, Nat.lt_of_lt_of_le hg.2 ho5.size⟩, ho5.block g hg.2 (by have := hg.1; omega)⟩) q HV.out, b5⟩
  · rw [if_pos (by rfl)]
    have c0 := u1.c5
    go_simp
    refine hK.out _ _ ⟨_, _, _, u1⟩ (fun _ => ?_)
    clear hK K c0
    try simp only [Act.put, List.getElem_toArray, List.getElem_cons_succ, List.getElem_cons_zero, List.setIfInBounds_toArray, List.set_cons_zero, List.set_cons_succ]
    refine wpAnyH_ready (rs := [2]) (by kernel_rfl) (by simp) ?_
    refine AllReadyH.cons rfl (fun K hK => ?_) AllReadyH.nil
    rw [if_pos (by rfl)]
    go_simp
    refine (HCL.out _).mono ?_
    rintro e0 w3 ⟨rfl, hb3⟩
    replace u1 := u1.below hb3
    replace u2 := u2.below hb3
    replace bw := below_any bw hb3 bw.size
    refine hK.out _ _ ⟨_, _, _, u1⟩ (fun _ => ?_)
    clear hK K hb3
    try simp only [Act.put, List.getElem_toArray, List.getElem_cons_succ, List.getElem_cons_zero, List.setIfInBounds_toArray, List.set_cons_zero, List.set_cons_succ]
    refine wpAnyH_take (i := 9) (v := .pointer (some ⟨w.heap.size, 3, none⟩)) rfl (by kernel_rfl) (by kernel_rfl) (by kernel_rfl) (fun _ _ _ h => h) (Or.inl ⟨by rfl, fun W _ => by go_simp⟩) ⟨_, _, _, u1⟩ ?_
    try simp only [Act.put, List.getElem_toArray, List.getElem_cons_succ, List.getElem_cons_zero, List.setIfInBounds_toArray, List.set_cons_zero, List.set_cons_succ]
    refine wpAnyH_ready (rs := [5]) (by kernel_rfl) (by simp) ?_
    refine AllReadyH.cons rfl (fun K hK => ?_) AllReadyH.nil
    rw [if_pos (by rfl)]
    go_simp
    refine (HCX.out _).mono ?_
    rintro e0 w3 ⟨rfl, hb3⟩
    replace u1 := u1.below hb3
    replace u2 := u2.below hb3
    replace bw := below_any bw hb3 bw.size
    refine hK.out _ _ ⟨_, _, _, u1⟩ (fun _ => ?_)
    clear hK K hb3
    try simp only [Act.put, List.getElem_toArray, List.getElem_cons_succ, List.getElem_cons_zero, List.setIfInBounds_toArray, List.set_cons_zero, List.set_cons_succ]
    refine wpAnyH_ready (rs := [8]) (by kernel_rfl) (by simp) ?_
    refine AllReadyH.cons rfl (fun K hK => ?_) AllReadyH.nil
    rw [if_pos (by rfl)]
    go_simp
    refine (HLL.out _ bw).mono ?_
    rintro e0 w3 ⟨V, xs, rfl, hown, hrow, hb3⟩
    have hV : HeldF w3 (fun g => w.heap.size + 1 < g ∧ g < w3.heap.size) V q := HeldF.stays (fun g hg => ⟨⟨by have := hg.1; have := u2.lt; omega, hg.2⟩, rfl⟩) q (heldF_of_sliceE q (MapPost.slice hown hrow))
    obtain ⟨pv, cv, rfl⟩ := held_slice (HeldF.held q hV)
    replace u1 := u1.below hb3
    replace u2 := u2.below hb3
    replace bw := below_any bw hb3 bw.size
    have HV := Lib.hid hV
    refine hK.out _ _ ⟨_, _, _, u1⟩ (fun _ => ?_)
    clear hK K hb3 hown hrow hV
    try simp only [Act.put, List.getElem_toArray, List.getElem_cons_succ, List.getElem_cons_zero, List.setIfInBounds_toArray, List.set_cons_zero, List.set_cons_succ]
    refine wpAnyH_ready (rs := [10]) (by kernel_rfl) (by simp) ?_
    refine AllReadyH.cons rfl (fun K hK => ?_) AllReadyH.nil
    have c0 := u1.c3
    have f0 := u1.free 3
    go_simp
    replace HV := Lib.hid (heldF_set (i := 3) (v := .string t) q HV.out)
    replace bw := below_set (e := w.heap.size) (o := 3) bw none (.string t) (Nat.le_refl _) bw.size
    replace u2 := u2.only ((Only.refl w.heap.size _).setCell 3 none (.string t)) (by omega)
    replace u1 := u1.set3 t
    refine hK.out _ _ ⟨_, _, _, u1⟩ (fun _ => ?_)
    clear hK K c0 f0
    try simp only [Act.put, List.getElem_toArray, List.getElem_cons_succ, List.getElem_cons_zero, List.setIfInBounds_toArray, List.set_cons_zero, List.set_cons_succ]
    refine wpAnyH_take (i := 11) (v := .pointer (some ⟨w.heap.size, 4, none⟩)) rfl (by kernel_rfl) (by kernel_rfl) (by kernel_rfl) (fun _ _ _ h => h) (Or.inl ⟨by rfl, fun W _ => by go_simp⟩) ⟨_, _, _, u1⟩ ?_
    try simp only [Act.put, List.getElem_toArray, List.getElem_cons_succ, List.getElem_cons_zero, List.setIfInBounds_toArray, List.set_cons_zero, List.set_cons_succ]
    refine wpAnyH_ready (rs := [12]) (by kernel_rfl) (by simp) ?_
    refine AllReadyH.cons rfl (fun K hK => ?_) AllReadyH.nil
    have c0 := u1.c4
    have f0 := u1.free 4
    go_simp
    replace HV := Lib.hid (heldF_set (i := 4) (v := .string x) q HV.out)
    replace bw := below_set (e := w.heap.size) (o := 4) bw none (.string x) (Nat.le_refl _) bw.size
    replace u2 := u2.only ((Only.refl w.heap.size _).setCell 4 none (.string x)) (by omega)
    replace u1 := u1.set4 x
    refine hK.out _ _ ⟨_, _, _, u1⟩ (fun _ => ?_)
    clear hK K c0 f0
    try simp only [Act.put, List.getElem_toArray, List.getElem_cons_succ, List.getElem_cons_zero, List.setIfInBounds_toArray, List.set_cons_zero, List.set_cons_succ]
    refine wpAnyH_take (i := 13) (v := .pointer (some ⟨w.heap.size, 5, none⟩)) rfl (by kernel_rfl) (by kernel_rfl) (by kernel_rfl) (fun _ _ _ h => h) (Or.inl ⟨by rfl, fun W _ => by go_simp⟩) ⟨_, _, _, u1⟩ ?_
    try simp only [Act.put, List.getElem_toArray, List.getElem_cons_succ, List.getElem_cons_zero, List.setIfInBounds_toArray, List.set_cons_zero, List.set_cons_succ]
    refine wpAnyH_ready (rs := [14]) (by kernel_rfl) (by simp) ?_
    refine AllReadyH.cons rfl (fun K hK => ?_) AllReadyH.nil
    have c0 := u1.c5
    have f0 := u1.free 5
    go_simp
    replace HV := Lib.hid (heldF_set (i := 5) (v := .slice pv q.length cv) q HV.out)
    replace bw := below_set (e := w.heap.size) (o := 5) bw none (.slice pv q.length cv) (Nat.le_refl _) bw.size
    replace u2 := u2.only ((Only.refl w.heap.size _).setCell 5 none (.slice pv q.length cv)) (by omega)
    replace u1 := u1.set5 pv q.length cv
    refine hK.out _ _ ⟨_, _, _, u1⟩ (fun _ => ?_)
    clear hK K c0 f0
    try simp only [Act.put, List.getElem_toArray, List.getElem_cons_succ, List.getElem_cons_zero, List.setIfInBounds_toArray, List.set_cons_zero, List.set_cons_succ]
    refine wpAnyH_done (by kernel_rfl) ?_ _
    go_wp2_with (first
      | ((with_reducible refine wpList_load6 (.tmp 1) w.heap.size u1 ?_ ?_ ?_ ?_); rfl; rfl; rfl)
      | ((with_reducible refine wpList_store6 (k' := k) (b' := b) (n' := n) (t' := t) (x' := x) (p' := pv) (len' := q.length) (cap' := cv) (.tmp 2) (.tmp 15) (w.heap.size + 1) u2 ?_ ?_ ?_ ?_ ?_); rfl; rfl; rfl; rfl; intro w5 ho5 u5))
    have b5 := below_only bw ho5 (Nat.le_succ _) bw.size
    refine bodyPost_ret (results_sixA (p := 2) Tryz.results59 _ rfl u5) rfl ⟨_, rfl, HeldF.stays (fun g hg => ⟨⟨by have := hg.1; omega, Nat.lt_of_lt_of_le hg.2 ho5.size⟩, ho5.block g hg.2 (by have := hg.1; omega)⟩) q HV.out, b5⟩
mutual
theorem ownVal : (v : Val) → OwnV v
  | .mk k b n t x q => by
    intro W c h
    obtain ⟨L, rfl, hf, hq⟩ := h
    obtain ⟨p, cap, rfl⟩ := held_slice (HeldF.held q hq)
    refine (ownStep k b n t x q p cap W hf hq (ownEach q)).mono ?_
    rintro e w' ⟨V, rfl, hV, hb⟩
    exact ⟨_, [.int .i64 k, .bool b, .int .i64 n, .string t, .string x, V], rfl, rfl, ⟨V, rfl, hf, hV⟩, hb⟩
theorem ownEach : (q : List Val) → ∀ v ∈ q, OwnV v
  | [], v, h => by cases h
  | u :: r, v, h => by
    rcases List.mem_cons.1 h with e | h
    · rw [e]
      exact ownVal u
    · exact ownEach r v h
end
end Go.Proofs.YtcfmenkigolnoaaGreatDoor
