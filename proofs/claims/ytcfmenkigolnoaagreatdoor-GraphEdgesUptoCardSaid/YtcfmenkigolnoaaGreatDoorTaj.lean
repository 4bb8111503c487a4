/- Texts of one kind, one behind the other: each says ahead of itself what it shows. -/
import Derived.Test.YtcfmenkigolnoaaGreatDoorTai
import Derived.Test.YtcfmenkigolnoaaGreatDoorTag
/- ownPair, ownNode, ownEdge: copies that share nothing with what was handed in. -/
namespace Go.Proofs.YtcfmenkigolnoaaGreatDoor
open Go.RowKit

/-- Blocks above N + 1. -/
def Above (n : Nat) (w : World) : Nat → Prop := fun g => n + 1 < g ∧ g < w.heap.size
section
variable {α : Type} {E : Elem α} {w w' : World} {n i : Nat} {V v : Value} {l : List α}
theorem above_set (w : World) (n i : Nat) (v : Value) : Stays (Above n w) (Above n (w.setCell ⟨n, i, none⟩ v)) w (w.setCell ⟨n, i, none⟩ v) := fun g hg => ⟨⟨hg.1, by simpa using hg.2⟩, Below.heap_setCell _ _ _ _ (by show g ≠ n; have := hg.1; omega)⟩
theorem above_call (b : Below w.heap.size w w') : Stays (Above n w) (Above n w') w w' := fun g hg => ⟨⟨hg.1, Nat.lt_of_lt_of_le hg.2 b.size⟩, b.block g hg.2⟩
theorem above_only {e : Nat} (b : Only e w w') (he : e ≤ n + 1) : Stays (Above n w) (Above n w') w w' := fun g hg => ⟨⟨hg.1, Nat.lt_of_lt_of_le hg.2 b.size⟩, b.block g hg.2 (by have := hg.1; omega)⟩
theorem above_new (h : n + 1 < w.heap.size) : Stays (New w w') (Above n w') w' w' := fun g hg => ⟨⟨by have := hg.1; omega, hg.2⟩, rfl⟩
theorem new_above {W : World} : Stays (Above W.heap.size w) (New W w) w w := fun g hg => ⟨⟨by have := hg.1; omega, hg.2⟩, rfl⟩
end
theorem cloneText (x : ByteArray) (W : World) (c : List Value) (h : textE.rel W (Old W) c x) : Calls Tryz.prog 86 #[.string x] W (TellPost textE x W) := by
  refine (cloneAt x W (by have := h.2; omega)).mono ?_
  rintro e w' ⟨rfl, hb⟩
  exact ⟨_, [.string x], rfl, rfl, ⟨rfl, h.2⟩, hb⟩
theorem ownTexts (l : List ByteArray) (L : Value) (W : World) (hl : SliceE textE W (Old W) L l) (hn : l.length ≤ 2097152) : Calls Tryz.prog 85 #[L, .func (.func 86) #[] #[]] W (MapPost textE 9 W l) := by
  have h := map85 id l L W hl hn fun x hx W' c _ hr => cloneText x W' c hr
  rwa [List.map_id] at h
theorem range_of_heap {w : World} {g : Nat} {cs : Array Value} {t : TypeId} (h : w.heap[g]? = some (.cells cs t (0, 0))) (o : Nat) (l : List Value) (hl : (cs.toList.drop o).take l.length = l) : w.rangeAt g o l := by
  intro j u hu
  have hj : j < l.length := (List.getElem?_eq_some_iff.1 hu).1
  refine cell_of h (o + j) ?_
  rw [← hl, List.getElem?_take_of_lt hj, List.getElem?_drop, Array.getElem?_toList] at hu
  exact hu
set_option maxHeartbeats 6400000 in
set_option maxRecDepth 20000 in
theorem ownPairStep (key : ByteArray) (k : Int) (b : Bool) (n : Int) (t x : ByteArray) (q : List Val) (p : Option Addr) (cap : Nat) (w : World) (hk : key.size ≤ 2097152) (hf : Fine n t x q.length) (hl : HeldF w (Old w) (.slice p q.length cap) q) :
    Calls Tryz.prog 88 #[.agg #[.string key, .int .i64 k, .bool b, .int .i64 n, .string t, .string x, .slice p q.length cap]] w fun e w' => ∃ V, e = .returned (.agg #[.string key, .int .i64 k, .bool b, .int .i64 n, .string t, .string x, V]) ∧ HeldF w' (New w w') V q ∧ Below w.heap.size w w' := by
  obtain ⟨w1, hw1⟩ : ∃ w1, w1 = (w.alloc (.cells #[.string key, .int .i64 k, .bool b, .int .i64 n, .string t, .string x, .slice p q.length cap] 70)).alloc (.cells #[.string ⟨#[]⟩, .int .i64 0, .bool false, .int .i64 0, .string ⟨#[]⟩, .string ⟨#[]⟩, .slice none 0 0] 70) := ⟨_, rfl⟩
  have u1 : w1.heap[w.heap.size]? = some (.cells #[.string key, .int .i64 k, .bool b, .int .i64 n, .string t, .string x, .slice p q.length cap] 70 (0, 0)) := by rw [hw1]; exact heap_old _ (heap_new _ _ rfl)
  have u2 : w1.heap[w.heap.size + 1]? = some (.cells #[.string ⟨#[]⟩, .int .i64 0, .bool false, .int .i64 0, .string ⟨#[]⟩, .string ⟨#[]⟩, .slice none 0 0] 70 (0, 0)) := by rw [hw1]; exact heap_new _ _ (by simp)
  have bw : Below w.heap.size w w1 := by rw [hw1]; exact below2 _ _ _
  have HCL := Lib.hid (fun W => cloneAt key W (by omega))
  have HOV : Hid (∀ W, Below w.heap.size w W → Calls Tryz.prog 59 #[.agg #[.int .i64 k, .bool b, .int .i64 n, .string t, .string x, .slice p q.length cap]] W fun e w' => ∃ V, e = .returned (.agg #[.int .i64 k, .bool b, .int .i64 n, .string t, .string x, V]) ∧ HeldF w' (New W w') V q ∧ Below W.heap.size W w') :=
    Lib.hid fun W hb => ownStep k b n t x q p cap W hf (HeldF.stays (old_below hb) q hl) (ownEach q)
  have HW := Lib.hid hw1
  clear hw1 hf hl hk
  go_enter Tryz.func88, Tryz.ntmps88
  go_upto_region 1 with fail
  rw [← HW.out]
  refine wp_region_held_drew (S := fun W => W.heap[w.heap.size]? = some (.cells #[.string key, .int .i64 k, .bool b, .int .i64 n, .string t, .string x, .slice p q.length cap] 70 (0, 0))) (by kernel_rfl) u1 (fun _ => ?_)
  replace bw := bw.drew
  replace u1 : w1.drew.heap[w.heap.size]? = _ := u1
  replace u2 : w1.drew.heap[w.heap.size + 1]? = _ := u2
  refine wpAnyH_take (i := 0) (v := .pointer (some ⟨w.heap.size, 0, none⟩)) rfl (by kernel_rfl) (by kernel_rfl) (by kernel_rfl) (fun _ _ _ h => h) (Or.inl ⟨by rfl, fun W _ => by go_simp⟩) (u1) ?_
  try simp only [Act.put, List.getElem_toArray, List.getElem_cons_succ, List.getElem_cons_zero, List.setIfInBounds_toArray, List.set_cons_zero, List.set_cons_succ]
  refine wpAnyH_take (i := 3) (v := .pointer (some ⟨w.heap.size, 1, none⟩)) rfl (by kernel_rfl) (by kernel_rfl) (by kernel_rfl) (fun _ _ _ h => h) (Or.inl ⟨by rfl, fun W _ => by go_simp⟩) (u1) ?_
  try simp only [Act.put, List.getElem_toArray, List.getElem_cons_succ, List.getElem_cons_zero, List.setIfInBounds_toArray, List.set_cons_zero, List.set_cons_succ]
  refine wpAnyH_take (i := 1) (v := .string key) rfl (by kernel_rfl) (by kernel_rfl) (by kernel_rfl) (fun _ _ _ h => h) (Or.inl ⟨by rfl, fun W h => by have c0 := cell_of h 0 rfl; go_simp⟩) (u1) ?_
  try simp only [Act.put, List.getElem_toArray, List.getElem_cons_succ, List.getElem_cons_zero, List.setIfInBounds_toArray, List.set_cons_zero, List.set_cons_succ]
  refine wpAnyH_take (i := 4) (v := .agg #[.int .i64 k, .bool b, .int .i64 n, .string t, .string x, .slice p q.length cap]) rfl (by kernel_rfl) (by kernel_rfl) (by kernel_rfl) (fun _ _ _ h => h) (yieldsIf_load_mid (by rfl) 60 (.tmp 6) rfl w.heap.size 1 rfl [.int .i64 k, .bool b, .int .i64 n, .string t, .string x, .slice p q.length cap] _ (fun W h => range_of_heap h 1 _ rfl) Tryz.underlying60 rfl size_valE) (u1) ?_
  try simp only [Act.put, List.getElem_toArray, List.getElem_cons_succ, List.getElem_cons_zero, List.setIfInBounds_toArray, List.set_cons_zero, List.set_cons_succ]
  refine wpAnyH_ready (rs := [2]) (by kernel_rfl) (by simp) ?_
  refine AllReadyH.cons rfl (fun K hK => ?_) AllReadyH.nil
  rw [if_pos (by rfl)]
  go_simp
  refine (HCL.out _).mono ?_
  rintro e0 w3 ⟨rfl, hb3⟩
  replace u1 := (hb3.block _ (lt_of_heap u1)).trans u1
  replace u2 := (hb3.block _ (lt_of_heap u2)).trans u2
  replace bw := below_any bw hb3 bw.size
  clear hb3
  refine hK.out _ _ (u1) (fun _ => ?_)
  clear hK K
  try simp only [Act.put, List.getElem_toArray, List.getElem_cons_succ, List.getElem_cons_zero, List.setIfInBounds_toArray, List.set_cons_zero, List.set_cons_succ]
  refine wpAnyH_ready (rs := [5]) (by kernel_rfl) (by simp) ?_
  refine AllReadyH.cons rfl (fun K hK => ?_) AllReadyH.nil
  rw [if_pos (by rfl)]
  go_simp
  refine (HOV.out _ bw).mono ?_
  rintro e0 w3 ⟨V, rfl, hV, hb3⟩
  have HV := Lib.hid (HeldF.stays (above_new (n := w.heap.size) (lt_of_heap u2)) q hV)
  obtain ⟨pv, cv, rfl⟩ := held_slice (HeldF.held q hV)
  replace u1 := (hb3.block _ (lt_of_heap u1)).trans u1
  replace u2 := (hb3.block _ (lt_of_heap u2)).trans u2
  replace bw := below_any bw hb3 bw.size
  clear hb3 hV
  refine hK.out _ _ (u1) (fun _ => ?_)
  clear hK K
  try simp only [Act.put, List.getElem_toArray, List.getElem_cons_succ, List.getElem_cons_zero, List.setIfInBounds_toArray, List.set_cons_zero, List.set_cons_succ]
  refine wpAnyH_take (i := 6) (v := .agg #[.string key, .int .i64 k, .bool b, .int .i64 n, .string t, .string x, .slice pv q.length cv]) rfl (by kernel_rfl) (by kernel_rfl) (by kernel_rfl) (fun _ _ _ h => h) (Or.inl ⟨by rfl, fun W _ => by go_simp⟩) (u1) ?_
  try simp only [Act.put, List.getElem_toArray, List.getElem_cons_succ, List.getElem_cons_zero, List.setIfInBounds_toArray, List.set_cons_zero, List.set_cons_succ]
  refine wpAnyH_ready (rs := [7]) (by kernel_rfl) (by simp) ?_
  refine AllReadyH.cons rfl (fun K hK => ?_) AllReadyH.nil
  rw [if_pos (by rfl)]
  refine wp_store_row 70 (.tmp 2) (.tmp 9) rfl (w.heap.size + 1) #[.string key, .int .i64 k, .bool b, .int .i64 n, .string t, .string x, .slice pv q.length cv] rfl rfl 70 _ u2 size_pairE rfl (by simp [Value.oneCell']) ?_
  have u5 := heap_setRow (c' := #[.string key, .int .i64 k, .bool b, .int .i64 n, .string t, .string x, .slice pv q.length cv]) u2
  have on := Only.setRow (b := w.heap.size + 1) w3 #[.string key, .int .i64 k, .bool b, .int .i64 n, .string t, .string x, .slice pv q.length cv]
  replace HV := Lib.hid (HeldF.stays (above_only on (Nat.le_refl _)) q HV.out)
  replace u1 := (on.block w.heap.size (lt_of_heap u1) (by omega)).trans u1
  replace bw := below_only bw on (Nat.le_succ _) bw.size
  refine hK.out _ _ (u1) (fun _ => ?_)
  clear hK K
  try simp only [Act.put, List.getElem_toArray, List.getElem_cons_succ, List.getElem_cons_zero, List.setIfInBounds_toArray, List.set_cons_zero, List.set_cons_succ]
  refine wpAnyH_done (by kernel_rfl) ?_ _
  go_wp2_with fail
  exact bodyPost_ret (results_cell_row (p := 2) (ty := 70) Tryz.results88 _ _ (w.heap.size + 1) 70 _ (0, 0) _ rfl u5 Tryz.underlying70 rfl size_pairE) rfl ⟨_, rfl, HeldF.stays new_above q HV.out, bw⟩
theorem ownPairAt (a : PairL) (W : World) (c : List Value) (h : pairE.rel W (Old W) c a) : Calls Tryz.prog 88 #[.agg c.toArray] W (TellPost pairE a W) := by
  obtain ⟨key, ⟨k, b, n, t, x, q⟩⟩ := a
  obtain ⟨c, rfl, hk, ⟨L, rfl, hf, hq⟩⟩ := h
  obtain ⟨p, cap, rfl⟩ := held_slice (HeldF.held q hq)
  refine (ownPairStep key k b n t x q p cap W hk hf hq).mono ?_
  rintro e w' ⟨V, rfl, hV, hb⟩
  exact ⟨_, [.string key, .int .i64 k, .bool b, .int .i64 n, .string t, .string x, V], rfl, rfl, ⟨_, rfl, hk, ⟨V, rfl, hf, hV⟩⟩, hb⟩
theorem ownPairs (l : List PairL) (L : Value) (W : World) (hl : SliceE pairE W (Old W) L l) (hn : l.length ≤ 2097152) : Calls Tryz.prog 87 #[L, .func (.func 88) #[] #[]] W (MapPost pairE 70 W l) := by
  have h := map87 id l L W hl hn fun x hx W' c _ hr => ownPairAt x W' c hr
  rwa [List.map_id] at h
theorem own_keep {w w' : World} {base size n : Nat} {e : TypeId} {v : Value} {xs : List Value} (h : w.ownsRow base e size v n xs) (k : ∀ g, v.ownBlock = some g → w'.heap[g]? = w.heap[g]?) : w'.ownsRow base e size v n xs := by
  obtain ⟨h0, h⟩ := h
  refine ⟨h0, ?_⟩
  rcases h with h | ⟨g, cap, cur, rfl, h1, h2, h3⟩
  · exact .inl h
  · exact .inr ⟨g, cap, cur, rfl, h1, (k g rfl).trans h2, h3⟩
theorem own_base {w : World} {base base' size n : Nat} {e : TypeId} {v : Value} {xs : List Value} (h : w.ownsRow base e size v n xs) (k : base' ≤ base) : w.ownsRow base' e size v n xs := by
  obtain ⟨h0, h⟩ := h
  refine ⟨h0, ?_⟩
  rcases h with h | ⟨g, cap, cur, rfl, h1, h2⟩
  · exact .inl h
  · exact .inr ⟨g, cap, cur, rfl, Nat.le_trans k h1, h2⟩
theorem row_texts {w : World} {P : Nat → Prop} : {xs : List Value} → (l : List ByteArray) → RowE textE w P xs l → xs = l.map Value.string ∧ ∀ t ∈ l, t.size ≤ 2097152
  | _, [], h => by unfold RowE at h; exact ⟨h, by simp⟩
  | _, t :: l, h => by
    unfold RowE at h
    obtain ⟨c, ys, rfl, ⟨rfl, ht⟩, hr⟩ := h
    obtain ⟨rfl, h2⟩ := row_texts l hr
    refine ⟨rfl, fun u hu => ?_⟩
    rcases List.mem_cons.1 hu with rfl | hu
    · exact ht
    · exact h2 u hu
/-- A row of texts, and one of pairs, that one owns, above n + 1; the other's blocks lie below the second's. -/
def OwnT (n : Nat) (W : World) (V : Value) (ls : List ByteArray) : Prop := W.ownsRow (n + 2) 9 1 V ls.length (ls.map Value.string) ∧ ∀ t ∈ ls, t.size ≤ 2097152
def OwnP (n : Nat) (V : Value) (W : World) (U : Value) (ps : List PairL) : Prop :=
  ∃ lo xs, n + 2 ≤ lo ∧ (∀ g, V.ownBlock = some g → g < lo) ∧ W.ownsRow lo 70 7 U ps.length xs ∧ RowE pairE W (fun g => lo ≤ g ∧ g < W.heap.size ∧ U.ownBlock ≠ some g) xs ps
theorem OwnT.stays {n : Nat} {w w' : World} {V : Value} {ls : List ByteArray} (h : OwnT n w V ls) (s : Stays (Above n w) (Above n w') w w') : OwnT n w' V ls :=
  ⟨own_keep h.1 fun g e => (s g ⟨by have := (h.1.lt g e).1; omega, (h.1.lt g e).2⟩).2, h.2⟩
theorem OwnP.stays {n : Nat} {w w' : World} {V U : Value} {ps : List PairL} (h : OwnP n V w U ps) (s : Stays (Above n w) (Above n w') w w') : OwnP n V w' U ps := by
  obtain ⟨lo, xs, h1, h2, h3, h4⟩ := h
  refine ⟨lo, xs, h1, h2, own_keep h3 fun g e => (s g ⟨by have := (h3.lt g e).1; omega, (h3.lt g e).2⟩).2, h4.stays (fun g hg => ?_)⟩
  have := s g ⟨by have := hg.1; omega, hg.2.1⟩
  exact ⟨⟨hg.1, this.1.2, hg.2.2⟩, this.2⟩
theorem OwnT.mk {n : Nat} {w w' : World} {V : Value} {ls : List ByteArray} {xs : List Value} (h : n + 1 < w.heap.size) (o : w'.ownsRow w.heap.size 9 textE.k V ls.length xs) (r : RowE textE w' (Inn w V w') xs ls) : OwnT n w' V ls := by
  obtain ⟨rfl, h2⟩ := row_texts ls r
  exact ⟨own_base o (by omega), h2⟩
theorem OwnP.mk {n : Nat} {w w' : World} {V U : Value} {ps : List PairL} {xs : List Value} (h : n + 1 < w.heap.size) (hV : ∀ g, V.ownBlock = some g → g < w.heap.size) (o : w'.ownsRow w.heap.size 70 pairE.k U ps.length xs) (r : RowE pairE w' (Inn w U w') xs ps) : OwnP n V w' U ps :=
  ⟨w.heap.size, xs, by omega, hV, o, r⟩
theorem OwnT.lt {n : Nat} {w : World} {V : Value} {ls : List ByteArray} (h : OwnT n w V ls) (g : Nat) (e : V.ownBlock = some g) : g < w.heap.size := (h.1.lt g e).2
theorem OwnT.slice {n : Nat} {W w : World} {V : Value} {ls : List ByteArray} (h : OwnT n w V ls) (hn : W.heap.size ≤ n) : SliceE textE w (New W w) V ls := by
  have hr : ∀ l : List ByteArray, (∀ t ∈ l, t.size ≤ 2097152) → RowE textE w (New W w) (l.map Value.string) l := by
    intro l
    induction l with
    | nil => exact fun _ => RowE.nil
    | cons t l ih => exact fun h => RowE.append [t] l (RowE.single (E := textE) (c := [.string t]) ⟨rfl, h t (by simp)⟩) (ih fun u hu => h u (by simp [hu]))
  exact sliceE_of_own h.1 (hr ls h.2) (fun g hg => hg) (fun g e => ⟨by have := (h.1.lt g e).1; omega, (h.1.lt g e).2⟩)
theorem OwnP.slice {n : Nat} {W w : World} {V U : Value} {ps : List PairL} (h : OwnP n V w U ps) (hn : W.heap.size ≤ n) : SliceE pairE w (New W w) U ps := by
  obtain ⟨lo, xs, h1, h2, h3, h4⟩ := h
  exact sliceE_of_own h3 h4 (fun g hg => ⟨by have := hg.1; omega, hg.2.1⟩) (fun g e => ⟨by have := (h3.lt g e).1; omega, (h3.lt g e).2⟩)
set_option maxHeartbeats 6400000 in
set_option maxRecDepth 20000 in
theorem ownNodeStep (id : Int) (ls : List ByteArray) (ps : List PairL) (p1 p2 : Option Addr) (c1 c2 : Nat) (w : World) (hn1 : ls.length ≤ 2097152) (hn2 : ps.length ≤ 2097152) (hl : SliceE textE w (Old w) (.slice p1 ls.length c1) ls) (hp : SliceE pairE w (Old w) (.slice p2 ps.length c2) ps) :
    Calls Tryz.prog 47 #[.agg #[.int .i64 id, .slice p1 ls.length c1, .slice p2 ps.length c2]] w fun e w' => ∃ V U, e = .returned (.agg #[.int .i64 id, V, U]) ∧ OwnT w.heap.size w' V ls ∧ OwnP w.heap.size V w' U ps ∧ Below w.heap.size w w' := by
  obtain ⟨w1, hw1⟩ : ∃ w1, w1 = (w.alloc (.cells #[.int .i64 id, .slice p1 ls.length c1, .slice p2 ps.length c2] 38)).alloc (.cells #[.int .i64 0, .slice none 0 0, .slice none 0 0] 38) := ⟨_, rfl⟩
  have u1 : w1.heap[w.heap.size]? = some (.cells #[.int .i64 id, .slice p1 ls.length c1, .slice p2 ps.length c2] 38 (0, 0)) := by rw [hw1]; exact heap_old _ (heap_new _ _ rfl)
  have u2 : w1.heap[w.heap.size + 1]? = some (.cells #[.int .i64 0, .slice none 0 0, .slice none 0 0] 38 (0, 0)) := by rw [hw1]; exact heap_new _ _ (by simp)
  have bw : Below w.heap.size w w1 := by rw [hw1]; exact below2 _ _ _
  have HLT : Hid (∀ W, Below w.heap.size w W → Calls Tryz.prog 85 #[.slice p1 ls.length c1, .func (.func 86) #[] #[]] W (MapPost textE 9 W ls)) := Lib.hid fun W hb => ownTexts ls _ W (hl.stays (old_below hb)) hn1
  have HLP : Hid (∀ W, Below w.heap.size w W → Calls Tryz.prog 87 #[.slice p2 ps.length c2, .func (.func 88) #[] #[]] W (MapPost pairE 70 W ps)) := Lib.hid fun W hb => ownPairs ps _ W (hp.stays (old_below hb)) hn2
  clear hl hp
  have HW := Lib.hid hw1
  clear hw1
  go_enter Tryz.func47, Tryz.ntmps47
  go_upto_region 1 with fail
  rw [← HW.out]
  refine wp_region_held_drew (S := fun W => ∃ A B, W.heap[w.heap.size]? = some (.cells #[.int .i64 id, A, B] 38 (0, 0))) (by kernel_rfl) ⟨_, _, u1⟩ (fun _ => ?_)
  replace bw := bw.drew
  replace u1 : w1.drew.heap[w.heap.size]? = _ := u1
  replace u2 : w1.drew.heap[w.heap.size + 1]? = _ := u2
  refine wpAnyH_take (i := 0) (v := .pointer (some ⟨w.heap.size, 1, none⟩)) rfl (by kernel_rfl) (by kernel_rfl) (by kernel_rfl) (fun _ _ _ h => h) (Or.inl ⟨by rfl, fun W _ => by go_simp⟩) (⟨_, _, u1⟩) ?_
  try simp only [Act.put, List.getElem_toArray, List.getElem_cons_succ, List.getElem_cons_zero, List.setIfInBounds_toArray, List.set_cons_zero, List.set_cons_succ]
  refine wpAnyH_take (i := 3) (v := .pointer (some ⟨w.heap.size, 2, none⟩)) rfl (by kernel_rfl) (by kernel_rfl) (by kernel_rfl) (fun _ _ _ h => h) (Or.inl ⟨by rfl, fun W _ => by go_simp⟩) (⟨_, _, u1⟩) ?_
  try simp only [Act.put, List.getElem_toArray, List.getElem_cons_succ, List.getElem_cons_zero, List.setIfInBounds_toArray, List.set_cons_zero, List.set_cons_succ]
  refine wpAnyH_ready (rs := [1, 4]) (by kernel_rfl) (by simp) ?_
  refine AllReadyH.cons rfl (fun K hK => ?_) (AllReadyH.cons rfl (fun K hK => ?_) AllReadyH.nil)
  · rw [if_pos (by rfl)]
    have c0 := cell_of u1 1 rfl
    go_simp
    refine hK.out _ _ (⟨_, _, u1⟩) (fun _ => ?_)
    clear hK K
    try simp only [Act.put, List.getElem_toArray, List.getElem_cons_succ, List.getElem_cons_zero, List.setIfInBounds_toArray, List.set_cons_zero, List.set_cons_succ]
    refine wpAnyH_ready (rs := [2, 4]) (by kernel_rfl) (by simp) ?_
    refine AllReadyH.cons rfl (fun K hK => ?_) (AllReadyH.cons rfl (fun K hK => ?_) AllReadyH.nil)
    · rw [if_pos (by rfl)]
      go_simp
      refine (HLT.out _ bw).mono ?_
      rintro e0 w3 ⟨V, xs, rfl, hown, hrow, hb3⟩
      have HV := Lib.hid (OwnT.mk (n := w.heap.size) (lt_of_heap u2) hown hrow)
      obtain ⟨pV, cV, rfl⟩ := (MapPost.slice hown hrow).slice
      replace u1 := (hb3.block _ (lt_of_heap u1)).trans u1
      replace u2 := (hb3.block _ (lt_of_heap u2)).trans u2
      replace bw := below_any bw hb3 bw.size
      clear hb3 hown hrow
      refine hK.out _ _ (⟨_, _, u1⟩) (fun _ => ?_)
      clear hK K
      try simp only [Act.put, List.getElem_toArray, List.getElem_cons_succ, List.getElem_cons_zero, List.setIfInBounds_toArray, List.set_cons_zero, List.set_cons_succ]
      refine wpAnyH_ready (rs := [4]) (by kernel_rfl) (by simp) ?_
      refine AllReadyH.cons rfl (fun K hK => ?_) AllReadyH.nil
      rw [if_pos (by rfl)]
      have c0 := cell_of u1 2 rfl
      go_simp
      refine hK.out _ _ (⟨_, _, u1⟩) (fun _ => ?_)
      clear hK K
      try simp only [Act.put, List.getElem_toArray, List.getElem_cons_succ, List.getElem_cons_zero, List.setIfInBounds_toArray, List.set_cons_zero, List.set_cons_succ]
      refine wpAnyH_take (i := 6) (v := .pointer (some ⟨w.heap.size, 1, none⟩)) rfl (by kernel_rfl) (by kernel_rfl) (by kernel_rfl) (fun _ _ _ h => h) (Or.inl ⟨by rfl, fun W _ => by go_simp⟩) (⟨_, _, u1⟩) ?_
      try simp only [Act.put, List.getElem_toArray, List.getElem_cons_succ, List.getElem_cons_zero, List.setIfInBounds_toArray, List.set_cons_zero, List.set_cons_succ]
      refine wpAnyH_ready (rs := [5]) (by kernel_rfl) (by simp) ?_
      refine AllReadyH.cons rfl (fun K hK => ?_) AllReadyH.nil
      rw [if_pos (by rfl)]
      go_simp
      refine (HLP.out _ bw).mono ?_
      rintro e0 w3 ⟨U, xs, rfl, hown, hrow, hb3⟩
      have HU := Lib.hid (OwnP.mk (n := w.heap.size) (V := .slice pV ls.length cV) (lt_of_heap u2) HV.out.lt hown hrow)
      replace HV := Lib.hid (HV.out.stays (above_call hb3))
      obtain ⟨pU, cU, rfl⟩ := (MapPost.slice hown hrow).slice
      replace u1 := (hb3.block _ (lt_of_heap u1)).trans u1
      replace u2 := (hb3.block _ (lt_of_heap u2)).trans u2
      replace bw := below_any bw hb3 bw.size
      clear hb3 hown hrow
      refine hK.out _ _ (⟨_, _, u1⟩) (fun _ => ?_)
      clear hK K
      try simp only [Act.put, List.getElem_toArray, List.getElem_cons_succ, List.getElem_cons_zero, List.setIfInBounds_toArray, List.set_cons_zero, List.set_cons_succ]
      refine wpAnyH_ready (rs := [7]) (by kernel_rfl) (by simp) ?_
      refine AllReadyH.cons rfl (fun K hK => ?_) AllReadyH.nil
      have c0 := cell_of u1 1 rfl
      have f0 := free_of u1 1
      go_simp
      replace HV := Lib.hid (HV.out.stays (above_set _ w.heap.size 1 (.slice pV ls.length cV)))
      replace HU := Lib.hid (HU.out.stays (above_set _ w.heap.size 1 (.slice pV ls.length cV)))
      replace bw := below_set (e := w.heap.size) (o := 1) bw none (.slice pV ls.length cV) (Nat.le_refl _) bw.size
      replace u2 := ((Only.refl w.heap.size _).setCell 1 none (.slice pV ls.length cV)).block (w.heap.size + 1) (lt_of_heap u2) (by omega) |>.trans u2
      replace u1 := heap_set u1 1 (.slice pV ls.length cV)
      simp only [List.setIfInBounds_toArray, List.set_cons_zero, List.set_cons_succ] at u1
      clear c0 f0
      refine hK.out _ _ (⟨_, _, u1⟩) (fun _ => ?_)
      clear hK K
      try simp only [Act.put, List.getElem_toArray, List.getElem_cons_succ, List.getElem_cons_zero, List.setIfInBounds_toArray, List.set_cons_zero, List.set_cons_succ]
      refine wpAnyH_take (i := 8) (v := .pointer (some ⟨w.heap.size, 2, none⟩)) rfl (by kernel_rfl) (by kernel_rfl) (by kernel_rfl) (fun _ _ _ h => h) (Or.inl ⟨by rfl, fun W _ => by go_simp⟩) (⟨_, _, u1⟩) ?_
      try simp only [Act.put, List.getElem_toArray, List.getElem_cons_succ, List.getElem_cons_zero, List.setIfInBounds_toArray, List.set_cons_zero, List.set_cons_succ]
      refine wpAnyH_ready (rs := [9]) (by kernel_rfl) (by simp) ?_
      refine AllReadyH.cons rfl (fun K hK => ?_) AllReadyH.nil
      have c0 := cell_of u1 2 rfl
      have f0 := free_of u1 2
      go_simp
      replace HV := Lib.hid (HV.out.stays (above_set _ w.heap.size 2 (.slice pU ps.length cU)))
      replace HU := Lib.hid (HU.out.stays (above_set _ w.heap.size 2 (.slice pU ps.length cU)))
      replace bw := below_set (e := w.heap.size) (o := 2) bw none (.slice pU ps.length cU) (Nat.le_refl _) bw.size
      replace u2 := ((Only.refl w.heap.size _).setCell 2 none (.slice pU ps.length cU)).block (w.heap.size + 1) (lt_of_heap u2) (by omega) |>.trans u2
      replace u1 := heap_set u1 2 (.slice pU ps.length cU)
      simp only [List.setIfInBounds_toArray, List.set_cons_zero, List.set_cons_succ] at u1
      clear c0 f0
      refine hK.out _ _ (⟨_, _, u1⟩) (fun _ => ?_)
      clear hK K
      try simp only [Act.put, List.getElem_toArray, List.getElem_cons_succ, List.getElem_cons_zero, List.setIfInBounds_toArray, List.set_cons_zero, List.set_cons_succ]
      refine wpAnyH_done (by kernel_rfl) ?_ _
      go_wp2_with (first
        | ((with_reducible refine wpList_loadRowE (.tmp 1) w.heap.size 38 38 [.int .i64 id, .slice pV ls.length cV, .slice pU ps.length cU] 3 _ u1 rfl Tryz.underlying38 rfl size_nodeE ?_ ?_ ?_ ?_); rfl; rfl; rfl)
        | ((with_reducible refine wpList_storeE (.tmp 2) (.tmp 11) (w.heap.size + 1) 38 38 _ [.int .i64 id, .slice pV ls.length cV, .slice pU ps.length cU] 3 u2 rfl ?_ ?_ ?_ ?_ size_nodeE rfl (by simp [Value.oneCell']) ?_); rfl; rfl; rfl; rfl; intro w5 ho5 u5))
      have b5 := below_only bw ho5 (Nat.le_succ _) bw.size
      exact bodyPost_ret (results_cell_row (p := 2) (ty := 38) Tryz.results47 _ _ (w.heap.size + 1) 38 _ (0, 0) _ rfl u5 Tryz.underlying38 rfl size_nodeE) rfl ⟨_, _, rfl, HV.out.stays (above_only ho5 (Nat.le_refl _)), HU.out.stays (above_only ho5 (Nat.le_refl _)), b5⟩
    · rw [if_pos (by rfl)]
      have c0 := cell_of u1 2 rfl
      go_simp
      refine hK.out _ _ (⟨_, _, u1⟩) (fun _ => ?_)
      clear hK K
      try simp only [Act.put, List.getElem_toArray, List.getElem_cons_succ, List.getElem_cons_zero, List.setIfInBounds_toArray, List.set_cons_zero, List.set_cons_succ]
      refine wpAnyH_ready (rs := [2]) (by kernel_rfl) (by simp) ?_
      refine AllReadyH.cons rfl (fun K hK => ?_) AllReadyH.nil
      rw [if_pos (by rfl)]
      go_simp
      refine (HLT.out _ bw).mono ?_
      rintro e0 w3 ⟨V, xs, rfl, hown, hrow, hb3⟩
      have HV := Lib.hid (OwnT.mk (n := w.heap.size) (lt_of_heap u2) hown hrow)
      obtain ⟨pV, cV, rfl⟩ := (MapPost.slice hown hrow).slice
      replace u1 := (hb3.block _ (lt_of_heap u1)).trans u1
      replace u2 := (hb3.block _ (lt_of_heap u2)).trans u2
      replace bw := below_any bw hb3 bw.size
      clear hb3 hown hrow
      refine hK.out _ _ (⟨_, _, u1⟩) (fun _ => ?_)
      clear hK K
      try simp only [Act.put, List.getElem_toArray, List.getElem_cons_succ, List.getElem_cons_zero, List.setIfInBounds_toArray, List.set_cons_zero, List.set_cons_succ]
      refine wpAnyH_take (i := 6) (v := .pointer (some ⟨w.heap.size, 1, none⟩)) rfl (by kernel_rfl) (by kernel_rfl) (by kernel_rfl) (fun _ _ _ h => h) (Or.inl ⟨by rfl, fun W _ => by go_simp⟩) (⟨_, _, u1⟩) ?_
      try simp only [Act.put, List.getElem_toArray, List.getElem_cons_succ, List.getElem_cons_zero, List.setIfInBounds_toArray, List.set_cons_zero, List.set_cons_succ]
      refine wpAnyH_ready (rs := [5]) (by kernel_rfl) (by simp) ?_
      refine AllReadyH.cons rfl (fun K hK => ?_) AllReadyH.nil
      rw [if_pos (by rfl)]
      go_simp
      refine (HLP.out _ bw).mono ?_
      rintro e0 w3 ⟨U, xs, rfl, hown, hrow, hb3⟩
      have HU := Lib.hid (OwnP.mk (n := w.heap.size) (V := .slice pV ls.length cV) (lt_of_heap u2) HV.out.lt hown hrow)
      replace HV := Lib.hid (HV.out.stays (above_call hb3))
      obtain ⟨pU, cU, rfl⟩ := (MapPost.slice hown hrow).slice
      replace u1 := (hb3.block _ (lt_of_heap u1)).trans u1
      replace u2 := (hb3.block _ (lt_of_heap u2)).trans u2
      replace bw := below_any bw hb3 bw.size
      clear hb3 hown hrow
      refine hK.out _ _ (⟨_, _, u1⟩) (fun _ => ?_)
      clear hK K
      try simp only [Act.put, List.getElem_toArray, List.getElem_cons_succ, List.getElem_cons_zero, List.setIfInBounds_toArray, List.set_cons_zero, List.set_cons_succ]
      refine wpAnyH_ready (rs := [7]) (by kernel_rfl) (by simp) ?_
      refine AllReadyH.cons rfl (fun K hK => ?_) AllReadyH.nil
      have c0 := cell_of u1 1 rfl
      have f0 := free_of u1 1
      go_simp
      replace HV := Lib.hid (HV.out.stays (above_set _ w.heap.size 1 (.slice pV ls.length cV)))
      replace HU := Lib.hid (HU.out.stays (above_set _ w.heap.size 1 (.slice pV ls.length cV)))
      replace bw := below_set (e := w.heap.size) (o := 1) bw none (.slice pV ls.length cV) (Nat.le_refl _) bw.size
      replace u2 := ((Only.refl w.heap.size _).setCell 1 none (.slice pV ls.length cV)).block (w.heap.size + 1) (lt_of_heap u2) (by omega) |>.trans u2
      replace u1 := heap_set u1 1 (.slice pV ls.length cV)
      simp only [List.setIfInBounds_toArray, List.set_cons_zero, List.set_cons_succ] at u1
      clear c0 f0
      refine hK.out _ _ (⟨_, _, u1⟩) (fun _ => ?_)
      clear hK K
      try simp only [Act.put, List.getElem_toArray, List.getElem_cons_succ, List.getElem_cons_zero, List.setIfInBounds_toArray, List.set_cons_zero, List.set_cons_succ]
      refine wpAnyH_take (i := 8) (v := .pointer (some ⟨w.heap.size, 2, none⟩)) rfl (by kernel_rfl) (by kernel_rfl) (by kernel_rfl) (fun _ _ _ h => h) (Or.inl ⟨by rfl, fun W _ => by go_simp⟩) (⟨_, _, u1⟩) ?_
      try simp only [Act.put, List.getElem_toArray, List.getElem_cons_succ, List.getElem_cons_zero, List.setIfInBounds_toArray, List.set_cons_zero, List.set_cons_succ]
      refine wpAnyH_ready (rs := [9]) (by kernel_rfl) (by simp) ?_
      refine AllReadyH.cons rfl (fun K hK => ?_) AllReadyH.nil
      have c0 := cell_of u1 2 rfl
      have f0 := free_of u1 2
      go_simp
      replace HV := Lib.hid (HV.out.stays (above_set _ w.heap.size 2 (.slice pU ps.length cU)))
      replace HU := Lib.hid (HU.out.stays (above_set _ w.heap.size 2 (.slice pU ps.length cU)))
      replace bw := below_set (e := w.heap.size) (o := 2) bw none (.slice pU ps.length cU) (Nat.le_refl _) bw.size
      replace u2 := ((Only.refl w.heap.size _).setCell 2 none (.slice pU ps.length cU)).block (w.heap.size + 1) (lt_of_heap u2) (by omega) |>.trans u2
      replace u1 := heap_set u1 2 (.slice pU ps.length cU)
      simp only [List.setIfInBounds_toArray, List.set_cons_zero, List.set_cons_succ] at u1
      clear c0 f0
      refine hK.out _ _ (⟨_, _, u1⟩) (fun _ => ?_)
      clear hK K
      try simp only [Act.put, List.getElem_toArray, List.getElem_cons_succ, List.getElem_cons_zero, List.setIfInBounds_toArray, List.set_cons_zero, List.set_cons_succ]
      refine wpAnyH_done (by kernel_rfl) ?_ _
      go_wp2_with (first
        | ((with_reducible refine wpList_loadRowE (.tmp 1) w.heap.size 38 38 [.int .i64 id, .slice pV ls.length cV, .slice pU ps.length cU] 3 _ u1 rfl Tryz.underlying38 rfl size_nodeE ?_ ?_ ?_ ?_); rfl; rfl; rfl)
        | ((with_reducible refine wpList_storeE (.tmp 2) (.tmp 11) (w.heap.size + 1) 38 38 _ [.int .i64 id, .slice pV ls.length cV, .slice pU ps.length cU] 3 u2 rfl ?_ ?_ ?_ ?_ size_nodeE rfl (by simp [Value.oneCell']) ?_); rfl; rfl; rfl; rfl; intro w5 ho5 u5))
      have b5 := below_only bw ho5 (Nat.le_succ _) bw.size
      exact bodyPost_ret (results_cell_row (p := 2) (ty := 38) Tryz.results47 _ _ (w.heap.size + 1) 38 _ (0, 0) _ rfl u5 Tryz.underlying38 rfl size_nodeE) rfl ⟨_, _, rfl, HV.out.stays (above_only ho5 (Nat.le_refl _)), HU.out.stays (above_only ho5 (Nat.le_refl _)), b5⟩
  · rw [if_pos (by rfl)]
    have c0 := cell_of u1 2 rfl
    go_simp
    refine hK.out _ _ (⟨_, _, u1⟩) (fun _ => ?_)
    clear hK K
    try simp only [Act.put, List.getElem_toArray, List.getElem_cons_succ, List.getElem_cons_zero, List.setIfInBounds_toArray, List.set_cons_zero, List.set_cons_succ]
    refine wpAnyH_ready (rs := [1]) (by kernel_rfl) (by simp) ?_
    refine AllReadyH.cons rfl (fun K hK => ?_) AllReadyH.nil
    rw [if_pos (by rfl)]
    have c0 := cell_of u1 1 rfl
    go_simp
    refine hK.out _ _ (⟨_, _, u1⟩) (fun _ => ?_)
    clear hK K
    try simp only [Act.put, List.getElem_toArray, List.getElem_cons_succ, List.getElem_cons_zero, List.setIfInBounds_toArray, List.set_cons_zero, List.set_cons_succ]
    refine wpAnyH_ready (rs := [2]) (by kernel_rfl) (by simp) ?_
    refine AllReadyH.cons rfl (fun K hK => ?_) AllReadyH.nil
    rw [if_pos (by rfl)]
    go_simp
    refine (HLT.out _ bw).mono ?_
    rintro e0 w3 ⟨V, xs, rfl, hown, hrow, hb3⟩
    have HV := Lib.hid (OwnT.mk (n := w.heap.size) (lt_of_heap u2) hown hrow)
    obtain ⟨pV, cV, rfl⟩ := (MapPost.slice hown hrow).slice
    replace u1 := (hb3.block _ (lt_of_heap u1)).trans u1
    replace u2 := (hb3.block _ (lt_of_heap u2)).trans u2
    replace bw := below_any bw hb3 bw.size
    clear hb3 hown hrow
    refine hK.out _ _ (⟨_, _, u1⟩) (fun _ => ?_)
    clear hK K
    try simp only [Act.put, List.getElem_toArray, List.getElem_cons_succ, List.getElem_cons_zero, List.setIfInBounds_toArray, List.set_cons_zero, List.set_cons_succ]
    refine wpAnyH_take (i := 6) (v := .pointer (some ⟨w.heap.size, 1, none⟩)) rfl (by kernel_rfl) (by kernel_rfl) (by kernel_rfl) (fun _ _ _ h => h) (Or.inl ⟨by rfl, fun W _ => by go_simp⟩) (⟨_, _, u1⟩) ?_
    try simp only [Act.put, List.getElem_toArray, List.getElem_cons_succ, List.getElem_cons_zero, List.setIfInBounds_toArray, List.set_cons_zero, List.set_cons_succ]
    refine wpAnyH_ready (rs := [5]) (by kernel_rfl) (by simp) ?_
    refine AllReadyH.cons rfl (fun K hK => ?_) AllReadyH.nil
    rw [if_pos (by rfl)]
    go_simp
    refine (HLP.out _ bw).mono ?_
    rintro e0 w3 ⟨U, xs, rfl, hown, hrow, hb3⟩
    have HU := Lib.hid (OwnP.mk (n := w.heap.size) (V := .slice pV ls.length cV) (lt_of_heap u2) HV.out.lt hown hrow)
    replace HV := Lib.hid (HV.out.stays (above_call hb3))
    obtain ⟨pU, cU, rfl⟩ := (MapPost.slice hown hrow).slice
    replace u1 := (hb3.block _ (lt_of_heap u1)).trans u1
    replace u2 := (hb3.block _ (lt_of_heap u2)).trans u2
    replace bw := below_any bw hb3 bw.size
    clear hb3 hown hrow
    refine hK.out _ _ (⟨_, _, u1⟩) (fun _ => ?_)
    clear hK K
    try simp only [Act.put, List.getElem_toArray, List.getElem_cons_succ, List.getElem_cons_zero, List.setIfInBounds_toArray, List.set_cons_zero, List.set_cons_succ]
    refine wpAnyH_ready (rs := [7]) (by kernel_rfl) (by simp) ?_
    refine AllReadyH.cons rfl (fun K hK => ?_) AllReadyH.nil
    have c0 := cell_of u1 1 rfl
    have f0 := free_of u1 1
    go_simp
    replace HV := Lib.hid (HV.out.stays (above_set _ w.heap.size 1 (.slice pV ls.length cV)))
    replace HU := Lib.hid (HU.out.stays (above_set _ w.heap.size 1 (.slice pV ls.length cV)))
    replace bw := below_set (e := w.heap.size) (o := 1) bw none (.slice pV ls.length cV) (Nat.le_refl _) bw.size
    replace u2 := ((Only.refl w.heap.size _).setCell 1 none (.slice pV ls.length cV)).block (w.heap.size + 1) (lt_of_heap u2) (by omega) |>.trans u2
    replace u1 := heap_set u1 1 (.slice pV ls.length cV)
    simp only [List.setIfInBounds_toArray, List.set_cons_zero, List.set_cons_succ] at u1
    clear c0 f0
    refine hK.out _ _ (⟨_, _, u1⟩) (fun _ => ?_)
    clear hK K
    try simp only [Act.put, List.getElem_toArray, List.getElem_cons_succ, List.getElem_cons_zero, List.setIfInBounds_toArray, List.set_cons_zero, List.set_cons_succ]
    refine wpAnyH_take (i := 8) (v := .pointer (some ⟨w.heap.size, 2, none⟩)) rfl (by kernel_rfl) (by kernel_rfl) (by kernel_rfl) (fun _ _ _ h => h) (Or.inl ⟨by rfl, fun W _ => by go_simp⟩) (⟨_, _, u1⟩) ?_
    try simp only [Act.put, List.getElem_toArray, List.getElem_cons_succ, List.getElem_cons_zero, List.setIfInBounds_toArray, List.set_cons_zero, List.set_cons_succ]
    refine wpAnyH_ready (rs := [9]) (by kernel_rfl) (by simp) ?_
    refine AllReadyH.cons rfl (fun K hK => ?_) AllReadyH.nil
    have c0 := cell_of u1 2 rfl
    have f0 := free_of u1 2
    go_simp
    replace HV := Lib.hid (HV.out.stays (above_set _ w.heap.size 2 (.slice pU ps.length cU)))
    replace HU := Lib.hid (HU.out.stays (above_set _ w.heap.size 2 (.slice pU ps.length cU)))
    replace bw := below_set (e := w.heap.size) (o := 2) bw none (.slice pU ps.length cU) (Nat.le_refl _) bw.size
    replace u2 := ((Only.refl w.heap.size _).setCell 2 none (.slice pU ps.length cU)).block (w.heap.size + 1) (lt_of_heap u2) (by omega) |>.trans u2
    replace u1 := heap_set u1 2 (.slice pU ps.length cU)
    simp only [List.setIfInBounds_toArray, List.set_cons_zero, List.set_cons_succ] at u1
    clear c0 f0
    refine hK.out _ _ (⟨_, _, u1⟩) (fun _ => ?_)
    clear hK K
    try simp only [Act.put, List.getElem_toArray, List.getElem_cons_succ, List.getElem_cons_zero, List.setIfInBounds_toArray, List.set_cons_zero, List.set_cons_succ]
    refine wpAnyH_done (by kernel_rfl) ?_ _
    go_wp2_with (first
      | ((with_reducible refine wpList_loadRowE (.tmp 1) w.heap.size 38 38 [.int .i64 id, .slice pV ls.length cV, .slice pU ps.length cU] 3 _ u1 rfl Tryz.underlying38 rfl size_nodeE ?_ ?_ ?_ ?_); rfl; rfl; rfl)
      | ((with_reducible refine wpList_storeE (.tmp 2) (.tmp 11) (w.heap.size + 1) 38 38 _ [.int .i64 id, .slice pV ls.length cV, .slice pU ps.length cU] 3 u2 rfl ?_ ?_ ?_ ?_ size_nodeE rfl (by simp [Value.oneCell']) ?_); rfl; rfl; rfl; rfl; intro w5 ho5 u5))
    have b5 := below_only bw ho5 (Nat.le_succ _) bw.size
    exact bodyPost_ret (results_cell_row (p := 2) (ty := 38) Tryz.results47 _ _ (w.heap.size + 1) 38 _ (0, 0) _ rfl u5 Tryz.underlying38 rfl size_nodeE) rfl ⟨_, _, rfl, HV.out.stays (above_only ho5 (Nat.le_refl _)), HU.out.stays (above_only ho5 (Nat.le_refl _)), b5⟩
set_option maxHeartbeats 6400000 in
set_option maxRecDepth 20000 in
theorem ownEdgeStep (id src dst : Int) (ty : ByteArray) (ps : List PairL) (p2 : Option Addr) (c2 : Nat) (w : World) (hn1 : ty.size ≤ 2097152) (hn2 : ps.length ≤ 2097152) (hp : SliceE pairE w (Old w) (.slice p2 ps.length c2) ps) :
    Calls Tryz.prog 50 #[.agg #[.int .i64 id, .int .i64 src, .int .i64 dst, .string ty, .slice p2 ps.length c2]] w fun e w' => ∃ U, e = .returned (.agg #[.int .i64 id, .int .i64 src, .int .i64 dst, .string ty, U]) ∧ OwnP w.heap.size (.slice none 0 0) w' U ps ∧ Below w.heap.size w w' := by
  obtain ⟨w1, hw1⟩ : ∃ w1, w1 = (w.alloc (.cells #[.int .i64 id, .int .i64 src, .int .i64 dst, .string ty, .slice p2 ps.length c2] 41)).alloc (.cells #[.int .i64 0, .int .i64 0, .int .i64 0, .string ⟨#[]⟩, .slice none 0 0] 41) := ⟨_, rfl⟩
  have u1 : w1.heap[w.heap.size]? = some (.cells #[.int .i64 id, .int .i64 src, .int .i64 dst, .string ty, .slice p2 ps.length c2] 41 (0, 0)) := by rw [hw1]; exact heap_old _ (heap_new _ _ rfl)
  have u2 : w1.heap[w.heap.size + 1]? = some (.cells #[.int .i64 0, .int .i64 0, .int .i64 0, .string ⟨#[]⟩, .slice none 0 0] 41 (0, 0)) := by rw [hw1]; exact heap_new _ _ (by simp)
  have bw : Below w.heap.size w w1 := by rw [hw1]; exact below2 _ _ _
  have HCL := Lib.hid (fun W => cloneAt ty W (by omega))
  have HLP : Hid (∀ W, Below w.heap.size w W → Calls Tryz.prog 87 #[.slice p2 ps.length c2, .func (.func 88) #[] #[]] W (MapPost pairE 70 W ps)) := Lib.hid fun W hb => ownPairs ps _ W (hp.stays (old_below hb)) hn2
  clear hp
  have HW := Lib.hid hw1
  clear hw1
  go_enter Tryz.func50, Tryz.ntmps50
  go_upto_region 1 with fail
  rw [← HW.out]
  refine wp_region_held_drew (S := fun W => ∃ B, W.heap[w.heap.size]? = some (.cells #[.int .i64 id, .int .i64 src, .int .i64 dst, .string ty, B] 41 (0, 0))) (by kernel_rfl) ⟨_, u1⟩ (fun _ => ?_)
  replace bw := bw.drew
  replace u1 : w1.drew.heap[w.heap.size]? = _ := u1
  replace u2 : w1.drew.heap[w.heap.size + 1]? = _ := u2
  refine wpAnyH_take (i := 0) (v := .pointer (some ⟨w.heap.size, 3, none⟩)) rfl (by kernel_rfl) (by kernel_rfl) (by kernel_rfl) (fun _ _ _ h => h) (Or.inl ⟨by rfl, fun W _ => by go_simp⟩) (⟨_, u1⟩) ?_
  try simp only [Act.put, List.getElem_toArray, List.getElem_cons_succ, List.getElem_cons_zero, List.setIfInBounds_toArray, List.set_cons_zero, List.set_cons_succ]
  refine wpAnyH_take (i := 3) (v := .pointer (some ⟨w.heap.size, 4, none⟩)) rfl (by kernel_rfl) (by kernel_rfl) (by kernel_rfl) (fun _ _ _ h => h) (Or.inl ⟨by rfl, fun W _ => by go_simp⟩) (⟨_, u1⟩) ?_
  try simp only [Act.put, List.getElem_toArray, List.getElem_cons_succ, List.getElem_cons_zero, List.setIfInBounds_toArray, List.set_cons_zero, List.set_cons_succ]
  refine wpAnyH_take (i := 1) (v := .string ty) rfl (by kernel_rfl) (by kernel_rfl) (by kernel_rfl) (fun _ _ _ h => h) (Or.inl ⟨by rfl, fun W ⟨_, h⟩ => by have c0 := cell_of h 3 rfl; go_simp⟩) (⟨_, u1⟩) ?_
  try simp only [Act.put, List.getElem_toArray, List.getElem_cons_succ, List.getElem_cons_zero, List.setIfInBounds_toArray, List.set_cons_zero, List.set_cons_succ]
  refine wpAnyH_ready (rs := [2, 4]) (by kernel_rfl) (by simp) ?_
  refine AllReadyH.cons rfl (fun K hK => ?_) (AllReadyH.cons rfl (fun K hK => ?_) AllReadyH.nil)
  · rw [if_pos (by rfl)]
    go_simp
    refine (HCL.out _).mono ?_
    rintro e0 w3 ⟨rfl, hb3⟩
    replace u1 := (hb3.block _ (lt_of_heap u1)).trans u1
    replace u2 := (hb3.block _ (lt_of_heap u2)).trans u2
    replace bw := below_any bw hb3 bw.size
    clear hb3
    refine hK.out _ _ (⟨_, u1⟩) (fun _ => ?_)
    clear hK K
    try simp only [Act.put, List.getElem_toArray, List.getElem_cons_succ, List.getElem_cons_zero, List.setIfInBounds_toArray, List.set_cons_zero, List.set_cons_succ]
    refine wpAnyH_ready (rs := [4]) (by kernel_rfl) (by simp) ?_
    refine AllReadyH.cons rfl (fun K hK => ?_) AllReadyH.nil
    rw [if_pos (by rfl)]
    have c0 := cell_of u1 4 rfl
    go_simp
    refine hK.out _ _ (⟨_, u1⟩) (fun _ => ?_)
    clear hK K
    try simp only [Act.put, List.getElem_toArray, List.getElem_cons_succ, List.getElem_cons_zero, List.setIfInBounds_toArray, List.set_cons_zero, List.set_cons_succ]
    refine wpAnyH_take (i := 6) (v := .pointer (some ⟨w.heap.size, 3, none⟩)) rfl (by kernel_rfl) (by kernel_rfl) (by kernel_rfl) (fun _ _ _ h => h) (Or.inl ⟨by rfl, fun W _ => by go_simp⟩) (⟨_, u1⟩) ?_
    try simp only [Act.put, List.getElem_toArray, List.getElem_cons_succ, List.getElem_cons_zero, List.setIfInBounds_toArray, List.set_cons_zero, List.set_cons_succ]
    refine wpAnyH_ready (rs := [5]) (by kernel_rfl) (by simp) ?_
    refine AllReadyH.cons rfl (fun K hK => ?_) AllReadyH.nil
    rw [if_pos (by rfl)]
    go_simp
    refine (HLP.out _ bw).mono ?_
    rintro e0 w3 ⟨U, xs, rfl, hown, hrow, hb3⟩
    have HU := Lib.hid (OwnP.mk (n := w.heap.size) (V := .slice none 0 0) (lt_of_heap u2) (fun g e => by cases e) hown hrow)
    obtain ⟨pU, cU, rfl⟩ := (MapPost.slice hown hrow).slice
    replace u1 := (hb3.block _ (lt_of_heap u1)).trans u1
    replace u2 := (hb3.block _ (lt_of_heap u2)).trans u2
    replace bw := below_any bw hb3 bw.size
    clear hb3 hown hrow
    refine hK.out _ _ (⟨_, u1⟩) (fun _ => ?_)
    clear hK K
    try simp only [Act.put, List.getElem_toArray, List.getElem_cons_succ, List.getElem_cons_zero, List.setIfInBounds_toArray, List.set_cons_zero, List.set_cons_succ]
    refine wpAnyH_ready (rs := [7]) (by kernel_rfl) (by simp) ?_
    refine AllReadyH.cons rfl (fun K hK => ?_) AllReadyH.nil
    have c0 := cell_of u1 3 rfl
    have f0 := free_of u1 3
    go_simp
    replace HU := Lib.hid (HU.out.stays (above_set _ w.heap.size 3 (.string ty)))
    replace bw := below_set (e := w.heap.size) (o := 3) bw none (.string ty) (Nat.le_refl _) bw.size
    replace u2 := ((Only.refl w.heap.size _).setCell 3 none (.string ty)).block (w.heap.size + 1) (lt_of_heap u2) (by omega) |>.trans u2
    replace u1 := heap_set u1 3 (.string ty)
    simp only [List.setIfInBounds_toArray, List.set_cons_zero, List.set_cons_succ] at u1
    clear c0 f0
    refine hK.out _ _ (⟨_, u1⟩) (fun _ => ?_)
    clear hK K
    try simp only [Act.put, List.getElem_toArray, List.getElem_cons_succ, List.getElem_cons_zero, List.setIfInBounds_toArray, List.set_cons_zero, List.set_cons_succ]
    refine wpAnyH_take (i := 8) (v := .pointer (some ⟨w.heap.size, 4, none⟩)) rfl (by kernel_rfl) (by kernel_rfl) (by kernel_rfl) (fun _ _ _ h => h) (Or.inl ⟨by rfl, fun W _ => by go_simp⟩) (⟨_, u1⟩) ?_
    try simp only [Act.put, List.getElem_toArray, List.getElem_cons_succ, List.getElem_cons_zero, List.setIfInBounds_toArray, List.set_cons_zero, List.set_cons_succ]
    refine wpAnyH_ready (rs := [9]) (by kernel_rfl) (by simp) ?_
    refine AllReadyH.cons rfl (fun K hK => ?_) AllReadyH.nil
    have c0 := cell_of u1 4 rfl
    have f0 := free_of u1 4
    go_simp
    replace HU := Lib.hid (HU.out.stays (above_set _ w.heap.size 4 (.slice pU ps.length cU)))
    replace bw := below_set (e := w.heap.size) (o := 4) bw none (.slice pU ps.length cU) (Nat.le_refl _) bw.size
    replace u2 := ((Only.refl w.heap.size _).setCell 4 none (.slice pU ps.length cU)).block (w.heap.size + 1) (lt_of_heap u2) (by omega) |>.trans u2
    replace u1 := heap_set u1 4 (.slice pU ps.length cU)
    simp only [List.setIfInBounds_toArray, List.set_cons_zero, List.set_cons_succ] at u1
    clear c0 f0
    refine hK.out _ _ (⟨_, u1⟩) (fun _ => ?_)
    clear hK K
    try simp only [Act.put, List.getElem_toArray, List.getElem_cons_succ, List.getElem_cons_zero, List.setIfInBounds_toArray, List.set_cons_zero, List.set_cons_succ]
    refine wpAnyH_done (by kernel_rfl) ?_ _
    go_wp2_with (first
      | ((with_reducible refine wpList_loadRowE (.tmp 1) w.heap.size 41 41 [.int .i64 id, .int .i64 src, .int .i64 dst, .string ty, .slice pU ps.length cU] 5 _ u1 rfl Tryz.underlying41 rfl size_edgeE ?_ ?_ ?_ ?_); rfl; rfl; rfl)
      | ((with_reducible refine wpList_storeE (.tmp 2) (.tmp 11) (w.heap.size + 1) 41 41 _ [.int .i64 id, .int .i64 src, .int .i64 dst, .string ty, .slice pU ps.length cU] 5 u2 rfl ?_ ?_ ?_ ?_ size_edgeE rfl (by simp [Value.oneCell']) ?_); rfl; rfl; rfl; rfl; intro w5 ho5 u5))
    have b5 := below_only bw ho5 (Nat.le_succ _) bw.size
    exact bodyPost_ret (results_cell_row (p := 2) (ty := 41) Tryz.results50 _ _ (w.heap.size + 1) 41 _ (0, 0) _ rfl u5 Tryz.underlying41 rfl size_edgeE) rfl ⟨_, rfl, HU.out.stays (above_only ho5 (Nat.le_refl _)), b5⟩
  · rw [if_pos (by rfl)]
    have c0 := cell_of u1 4 rfl
    go_simp
    refine hK.out _ _ (⟨_, u1⟩) (fun _ => ?_)
    clear hK K
    try simp only [Act.put, List.getElem_toArray, List.getElem_cons_succ, List.getElem_cons_zero, List.setIfInBounds_toArray, List.set_cons_zero, List.set_cons_succ]
    refine wpAnyH_ready (rs := [2]) (by kernel_rfl) (by simp) ?_
    refine AllReadyH.cons rfl (fun K hK => ?_) AllReadyH.nil
    rw [if_pos (by rfl)]
    go_simp
    refine (HCL.out _).mono ?_
    rintro e0 w3 ⟨rfl, hb3⟩
    replace u1 := (hb3.block _ (lt_of_heap u1)).trans u1
    replace u2 := (hb3.block _ (lt_of_heap u2)).trans u2
    replace bw := below_any bw hb3 bw.size
    clear hb3
    refine hK.out _ _ (⟨_, u1⟩) (fun _ => ?_)
    clear hK K
    try simp only [Act.put, List.getElem_toArray, List.getElem_cons_succ, List.getElem_cons_zero, List.setIfInBounds_toArray, List.set_cons_zero, List.set_cons_succ]
    refine wpAnyH_take (i := 6) (v := .pointer (some ⟨w.heap.size, 3, none⟩)) rfl (by kernel_rfl) (by kernel_rfl) (by kernel_rfl) (fun _ _ _ h => h) (Or.inl ⟨by rfl, fun W _ => by go_simp⟩) (⟨_, u1⟩) ?_
    try simp only [Act.put, List.getElem_toArray, List.getElem_cons_succ, List.getElem_cons_zero, List.setIfInBounds_toArray, List.set_cons_zero, List.set_cons_succ]
    refine wpAnyH_ready (rs := [5]) (by kernel_rfl) (by simp) ?_
    refine AllReadyH.cons rfl (fun K hK => ?_) AllReadyH.nil
    rw [if_pos (by rfl)]
    go_simp
    refine (HLP.out _ bw).mono ?_
    rintro e0 w3 ⟨U, xs, rfl, hown, hrow, hb3⟩
    have HU := Lib.hid (OwnP.mk (n := w.heap.size) (V := .slice none 0 0) (lt_of_heap u2) (fun g e => by cases e) hown hrow)
    obtain ⟨pU, cU, rfl⟩ := (MapPost.slice hown hrow).slice
    replace u1 := (hb3.block _ (lt_of_heap u1)).trans u1
    replace u2 := (hb3.block _ (lt_of_heap u2)).trans u2
    replace bw := below_any bw hb3 bw.size
    clear hb3 hown hrow
    refine hK.out _ _ (⟨_, u1⟩) (fun _ => ?_)
    clear hK K
    try simp only [Act.put, List.getElem_toArray, List.getElem_cons_succ, List.getElem_cons_zero, List.setIfInBounds_toArray, List.set_cons_zero, List.set_cons_succ]
    refine wpAnyH_ready (rs := [7]) (by kernel_rfl) (by simp) ?_
    refine AllReadyH.cons rfl (fun K hK => ?_) AllReadyH.nil
    have c0 := cell_of u1 3 rfl
    have f0 := free_of u1 3
    go_simp
    replace HU := Lib.hid (HU.out.stays (above_set _ w.heap.size 3 (.string ty)))
    replace bw := below_set (e := w.heap.size) (o := 3) bw none (.string ty) (Nat.le_refl _) bw.size
    replace u2 := ((Only.refl w.heap.size _).setCell 3 none (.string ty)).block (w.heap.size + 1) (lt_of_heap u2) (by omega) |>.trans u2
    replace u1 := heap_set u1 3 (.string ty)
    simp only [List.setIfInBounds_toArray, List.set_cons_zero, List.set_cons_succ] at u1
    clear c0 f0
    refine hK.out _ _ (⟨_, u1⟩) (fun _ => ?_)
    clear hK K
    try simp only [Act.put, List.getElem_toArray, List.getElem_cons_succ, List.getElem_cons_zero, List.setIfInBounds_toArray, List.set_cons_zero, List.set_cons_succ]
    refine wpAnyH_take (i := 8) (v := .pointer (some ⟨w.heap.size, 4, none⟩)) rfl (by kernel_rfl) (by kernel_rfl) (by kernel_rfl) (fun _ _ _ h => h) (Or.inl ⟨by rfl, fun W _ => by go_simp⟩) (⟨_, u1⟩) ?_
    try simp only [Act.put, List.getElem_toArray, List.getElem_cons_succ, List.getElem_cons_zero, List.setIfInBounds_toArray, List.set_cons_zero, List.set_cons_succ]
    refine wpAnyH_ready (rs := [9]) (by kernel_rfl) (by simp) ?_
    refine AllReadyH.cons rfl (fun K hK => ?_) AllReadyH.nil
    have c0 := cell_of u1 4 rfl
    have f0 := free_of u1 4
    go_simp
    replace HU := Lib.hid (HU.out.stays (above_set _ w.heap.size 4 (.slice pU ps.length cU)))
    replace bw := below_set (e := w.heap.size) (o := 4) bw none (.slice pU ps.length cU) (Nat.le_refl _) bw.size
    replace u2 := ((Only.refl w.heap.size _).setCell 4 none (.slice pU ps.length cU)).block (w.heap.size + 1) (lt_of_heap u2) (by omega) |>.trans u2
    replace u1 := heap_set u1 4 (.slice pU ps.length cU)
    simp only [List.setIfInBounds_toArray, List.set_cons_zero, List.set_cons_succ] at u1
    clear c0 f0
    refine hK.out _ _ (⟨_, u1⟩) (fun _ => ?_)
    clear hK K
    try simp only [Act.put, List.getElem_toArray, List.getElem_cons_succ, List.getElem_cons_zero, List.setIfInBounds_toArray, List.set_cons_zero, List.set_cons_succ]
    refine wpAnyH_done (by kernel_rfl) ?_ _
    go_wp2_with (first
      | ((with_reducible refine wpList_loadRowE (.tmp 1) w.heap.size 41 41 [.int .i64 id, .int .i64 src, .int .i64 dst, .string ty, .slice pU ps.length cU] 5 _ u1 rfl Tryz.underlying41 rfl size_edgeE ?_ ?_ ?_ ?_); rfl; rfl; rfl)
      | ((with_reducible refine wpList_storeE (.tmp 2) (.tmp 11) (w.heap.size + 1) 41 41 _ [.int .i64 id, .int .i64 src, .int .i64 dst, .string ty, .slice pU ps.length cU] 5 u2 rfl ?_ ?_ ?_ ?_ size_edgeE rfl (by simp [Value.oneCell']) ?_); rfl; rfl; rfl; rfl; intro w5 ho5 u5))
    have b5 := below_only bw ho5 (Nat.le_succ _) bw.size
    exact bodyPost_ret (results_cell_row (p := 2) (ty := 41) Tryz.results50 _ _ (w.heap.size + 1) 41 _ (0, 0) _ rfl u5 Tryz.underlying41 rfl size_edgeE) rfl ⟨_, rfl, HU.out.stays (above_only ho5 (Nat.le_refl _)), b5⟩
end Go.Proofs.YtcfmenkigolnoaaGreatDoor
