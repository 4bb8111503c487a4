/- Texts of one kind, one behind the other: each says ahead of itself what it shows. -/
import Derived.Shelf.Strings.Builder1
import Derived.Shelf.Strings.Builder2
import Derived.Shelf.Strings.OnBuilder
import Derived.Test.YtoifjjgakblhhaaGreatDoorHau
import Derived.Test.YtoifjjgakblhhaaGreatDoorHas
import Derived.Deep.MidRow
/- Two texts joined, by the library's own contract of strings.Join; the program's joinTexts. -/
namespace Go.Proofs
open Go.Shelf
def Tryz.lays156_ren : Go.Shelf.Ren := ⟨fun | 156 => 132 | 165 => 155 | 166 => 156 | 169 => 157 | 240 => 177 | 241 => 178 | 276 => 201 | 277 => 202 | n => n, fun | 31 => 141 | 9 => 9 | 3 => 3 | 4 => 4 | 0 => 0 | 20 => 20 | 72 => 159 | 76 => 163 | 70 => 157 | 37 => 40 | 75 => 162 | 127 => 181 | 164 => 200 | 5 => 5 | 80 => 123 | n => n, fun | n => n⟩
theorem Tryz.lays156 : Go.Proofs.Lays.n156 Tryz.prog Tryz.lays156_ren := {
  mixed := by kernel_rfl
  f156 := Tryz.func132.trans (congrArg some (by kernel_rfl))
  f165 := Tryz.func155.trans (congrArg some (by kernel_rfl))
  f166 := Tryz.func156.trans (congrArg some (by kernel_rfl))
  f169 := Tryz.func157.trans (congrArg some (by kernel_rfl))
  f240 := Tryz.func177.trans (congrArg some (by kernel_rfl))
  f241 := Tryz.func178.trans (congrArg some (by kernel_rfl))
  f276 := Tryz.func201.trans (congrArg some (by kernel_rfl))
  f277 := Tryz.func202.trans (congrArg some (by kernel_rfl))
  t0 := Tryz.underlying0
  a0 := Tryz.isAgg0
  z0 := Tryz.sizeOf0
  v0 := Tryz.zeroValue0
  t3 := Tryz.underlying3
  a3 := Tryz.isAgg3
  z3 := Tryz.sizeOf3
  v3 := Tryz.zeroValue3
  t4 := Tryz.underlying4
  a4 := Tryz.isAgg4
  z4 := Tryz.sizeOf4
  v4 := Tryz.zeroValue4
  t9 := Tryz.underlying9
  a9 := Tryz.isAgg9
  z9 := Tryz.sizeOf9
  v9 := Tryz.zeroValue9
  t20 := Tryz.underlying20
  a20 := Tryz.isAgg20
  z20 := Tryz.sizeOf20
  v20 := Tryz.zeroValue20
  t31 := Tryz.underlying141
  a31 := Tryz.isAgg141
  z31 := Tryz.sizeOf141
  v31 := Tryz.zeroValue141
  t37 := Tryz.underlying40
  a37 := Tryz.isAgg40
  z37 := Tryz.sizeOf40
  v37 := Tryz.zeroValue40
  t70 := Tryz.underlying157
  a70 := Tryz.isAgg157
  z70 := Tryz.sizeOf157
  v70 := Tryz.zeroValue157
  t72 := Tryz.underlying159
  a72 := Tryz.isAgg159
  z72 := Tryz.sizeOf159
  v72 := Tryz.zeroValue159
  t75 := Tryz.underlying162
  a75 := Tryz.isAgg162
  z75 := Tryz.sizeOf162
  v75 := Tryz.zeroValue162
  t76 := Tryz.underlying163
  a76 := Tryz.isAgg163
  z76 := Tryz.sizeOf163
  v76 := Tryz.zeroValue163
  t127 := Tryz.underlying181
  a127 := Tryz.isAgg181
  z127 := Tryz.sizeOf181
  v127 := Tryz.zeroValue181
  t164 := Tryz.underlying200
  a164 := Tryz.isAgg200
  z164 := Tryz.sizeOf200
  v164 := Tryz.zeroValue200 }
theorem Tryz.Builder_Extra_156 : Builder.Extra Tryz.prog Tryz.lays156_ren := {
  sizeBuilder := by kernel_rfl
  liesBuilder := by kernel_rfl
  t5 := Tryz.underlying5
  a5 := Tryz.isAgg5
  z5 := Tryz.sizeOf5
  v5 := Tryz.zeroValue5
  infoByte := by kernel_rfl
  cellsByte := by kernel_rfl
  sizeByte := by kernel_rfl
  neB5 := by decide }
open Go.RowKit in
theorem Tryz.strings_Join (bk o c : Nat) (xs : List ByteArray) (sep : ByteArray) (w : World) (hcells : ∀ (j : Nat) x, xs[j]? = some x → w.cell? ⟨bk, o + j, none⟩ = some (.string x)) (hbk : bk < w.heap.size) (hN : xs.length ≤ 140737488355328) (hcap : xs.length ≤ c) (hlen : (Lib.join (xs.map (·.data.toList)) sep.data.toList).length ≤ 140737488355328) :
    Calls Tryz.prog 132 #[.slice (some ⟨bk, o, none⟩) xs.length c, .string sep] w fun e w' => e = .returned (.string ⟨(Lib.join (xs.map (·.data.toList)) sep.data.toList).toArray⟩) ∧ Below w.heap.size w w' := Any.strings_Join Tryz.lays156 Tryz.Builder_Extra_156 bk o c xs sep w hcells hbk hN hcap hlen
namespace YtoifjjgakblhhaaGreatDoor
open Go.RowKit
theorem join_two (a b : ByteArray) : (⟨(Lib.join ([a, b].map (·.data.toList)) (⟨#[]⟩ : ByteArray).data.toList).toArray⟩ : ByteArray) = a ++ b := by
  apply bytes_ext
  simp [Lib.join]
theorem joinTwoAt (a b : ByteArray) (w : World) (g : Nat) (h0 : w.cell? ⟨g, 0, none⟩ = some (.string a)) (h1 : w.cell? ⟨g, 1, none⟩ = some (.string b)) (hs : a.size + b.size ≤ 1000000000) :
    Calls Tryz.prog 132 #[.slice (some ⟨g, 0, none⟩) 2 2, .string ⟨#[]⟩] w fun e w' => e = .returned (.string (a ++ b)) ∧ Below w.heap.size w w' := by
  have hl : (Lib.join ([a, b].map (·.data.toList)) (⟨#[]⟩ : ByteArray).data.toList).length ≤ 140737488355328 := by
    have h := congrArg ByteArray.size (join_two a b)
    rw [ByteArray.size_append] at h
    have h2 : (⟨(Lib.join ([a, b].map (·.data.toList)) (⟨#[]⟩ : ByteArray).data.toList).toArray⟩ : ByteArray).size = (Lib.join ([a, b].map (·.data.toList)) (⟨#[]⟩ : ByteArray).data.toList).length := by simp [ByteArray.size]
    omega
  have h := Tryz.strings_Join g 0 2 [a, b] ⟨#[]⟩ w (fun j x hx => ?_) (World.block_lt_of_cell? w ⟨g, 0, none⟩ h0) (by simp) (by simp) hl
  · rw [join_two] at h
    exact h
  · match j, hx with
    | 0, hx => simp at hx; subst hx; simpa using h0
    | 1, hx => simp at hx; subst hx; simpa using h1
set_option maxRecDepth 20000 in
set_option maxHeartbeats 3200000 in
theorem joinTextsNo (a b : ByteArray) (w : World) (h : 1048576 < a.size + b.size) (ha : a.size ≤ 2097152) (hb : b.size ≤ 2097152) :
    Calls Tryz.prog 99 #[.string a, .string b] w (RPost w 0 0 ⟨#[]⟩ 2) := by
  obtain ⟨W0, hW0⟩ : ∃ W0, W0 = w.alloc (.cells #[.int .i64 0, .bool false, .int .i64 0, .string ⟨#[]⟩, .string ⟨#[]⟩, .slice none 0 0] 28) := ⟨_, rfl⟩
  have S : Six W0 w.heap.size 0 false 0 ⟨#[]⟩ ⟨#[]⟩ none 0 0 := by rw [hW0]; exact six_new _ rfl
  have b0 : Below w.heap.size w W0 := by rw [hW0]; exact below1 _ _
  have H0 := Lib.hid hW0
  have hi : (1048576 : Int) < a.size + b.size := by omega
  clear hW0 h
  go_enter Tryz.func99, Tryz.ntmps99
  go_wp2_with (first
    | ((try rw [← H0.out]); (with_reducible refine wpList_store6 (k' := 0) (b' := false) (n' := 0) (t' := ⟨#[]⟩) (x' := ⟨#[]⟩) (p' := none) (len' := 0) (cap' := 0) (.tmp 4) (.tmp 12) w.heap.size S ?_ ?_ ?_ ?_ ?_); rfl; rfl; rfl; rfl; intro w9 on9 S9))
  refine bodyPost_ret (results_six_tmp (p := 4) (q := 5) Tryz.results99 _ (.int .i64 2) rfl rfl S9) rfl ⟨rfl, below_only b0 on9 (Nat.le_refl _) b0.size⟩
set_option maxRecDepth 20000 in
set_option maxHeartbeats 3200000 in
theorem joinTextsYes (a b : ByteArray) (w : World) (h : a.size + b.size ≤ 1048576) :
    Calls Tryz.prog 99 #[.string a, .string b] w (RPost w 4 0 (a ++ b) 0) := by
  obtain ⟨W0, hW0⟩ : ∃ W0, W0 = w.alloc (.cells #[.int .i64 0, .bool false, .int .i64 0, .string ⟨#[]⟩, .string ⟨#[]⟩, .slice none 0 0] 28) := ⟨_, rfl⟩
  have S : Six W0 w.heap.size 0 false 0 ⟨#[]⟩ ⟨#[]⟩ none 0 0 := by rw [hW0]; exact six_new _ rfl
  have b0 : Below w.heap.size w W0 := by rw [hW0]; exact below1 _ _
  have T : Six (W0.alloc (.cells #[.string a, .string b] 9)) w.heap.size 0 false 0 ⟨#[]⟩ ⟨#[]⟩ none 0 0 := S.alloc _
  have b1 : Below w.heap.size w (W0.alloc (.cells #[.string a, .string b] 9)) := b0.alloc b0.size _
  have hz : W0.heap.size = w.heap.size + 1 := by rw [hW0]; simp
  have hc := joinTwoAt a b (W0.alloc (.cells #[.string a, .string b] 9)) (w.heap.size + 1) (by rw [← hz]; simp) (by rw [← hz]; simp) (by omega)
  have H0 := Lib.hid hW0
  have hi : ¬ (1048576 : Int) < a.size + b.size := by omega
  have ha : a.size ≤ 1048576 := by omega
  have hb : b.size ≤ 1048576 := by omega
  clear hW0 h hz
  go_enter Tryz.func99, Tryz.ntmps99
  go_wp2_with (first
    | (go_at_call 132; (try rw [← H0.out]); (with_reducible refine hc.mono ?_); rintro e w3 ⟨rfl, hb3⟩; have S3 := T.below hb3; have b3 := below_any b1 hb3 b1.size; clear hb3)
    | ((with_reducible refine wpList_store6 (k' := 4) (b' := false) (n' := 0) (t' := a ++ b) (x' := ⟨#[]⟩) (p' := none) (len' := 0) (cap' := 0) (.tmp 4) (.tmp 17) w.heap.size S3 ?_ ?_ ?_ ?_ ?_); rfl; rfl; rfl; rfl; intro w9 on9 S9))
  refine bodyPost_ret (results_six_tmp (p := 4) (q := 5) Tryz.results99 _ (.int .i64 0) rfl rfl S9) rfl ⟨rfl, below_only b3 on9 (Nat.le_refl _) b3.size⟩
end YtoifjjgakblhhaaGreatDoor
end Go.Proofs

/- Values whose lists lie apart from one another: each in blocks of its own. -/
namespace Go.Proofs.YtoifjjgakblhhaaGreatDoor
open Go.RowKit

theorem range_heap {w w' : World} {g : Nat} (h : w'.heap[g]? = w.heap[g]?) {o : Nat} {cs : List Value} (r : w.rangeAt g o cs) : w'.rangeAt g o cs := fun j v hv => (World.cell?_of_block (a := ⟨g, o + j, none⟩) h).trans (r j v hv)
theorem there_heap {w w' : World} {g : Nat} (h : w'.heap[g]? = w.heap[g]?) {o n : Nat} (r : w.there g o n) : w'.there g o n := fun j hj =>
  ⟨by rw [World.cell?_of_block (a := ⟨g, o + j, none⟩) h]; exact (r j hj).1, by rw [World.frozen?_of_block (a := ⟨g, o + j, none⟩) h]; exact (r j hj).2⟩
mutual
/-- A value lies at off, and all lists in it in blocks from s to e. -/
def OneT (w : World) (g off s e : Nat) : Val → Prop
  | .mk k b n t x l => ∃ L, w.rangeAt g off [.int .i64 k, .bool b, .int .i64 n, .string t, .string x, L] ∧ w.there g off 6 ∧ Fine n t x l.length ∧ HeldT w s e L l
/-- A list, and all that lie in it, in blocks from lo to hi: no two in one. -/
def HeldT (w : World) (lo hi : Nat) (L : Value) : List Val → Prop
  | [] => ∃ p cap, L = .slice p 0 cap
  | v :: r => ∃ g off cap s e, L = .slice (some ⟨g, off, none⟩) (r.length + 1) cap ∧ lo ≤ g ∧ g < hi ∧ lo ≤ s ∧ s ≤ e ∧ e ≤ hi ∧ ¬ (s ≤ g ∧ g < e) ∧ OneT w g off s e v ∧ RestT w g (off + 6) e hi r
/-- Values one behind the other; the lists in them in blocks from lo to hi, in their order. -/
def RestT (w : World) (g off lo hi : Nat) : List Val → Prop
  | [] => True
  | v :: r => ∃ s e, lo ≤ s ∧ s ≤ e ∧ e ≤ hi ∧ ¬ (s ≤ g ∧ g < e) ∧ OneT w g off s e v ∧ RestT w g (off + 6) e hi r
end
mutual
theorem OneT.held {w : World} {g off s e : Nat} : (v : Val) → OneT w g off s e v → HoldsOne w g off v
  | .mk k b n t x l, h => by
    unfold OneT at h
    unfold HoldsOne
    obtain ⟨L, r, _, hf, hl⟩ := h
    exact ⟨r 0 _ rfl, r 1 _ rfl, r 2 _ rfl, r 3 _ rfl, r 4 _ rfl, hf, L, r 5 _ rfl, HeldT.held l hl⟩
theorem HeldT.held {w : World} {lo hi : Nat} {L : Value} : (l : List Val) → HeldT w lo hi L l → Held w L l
  | [], h => by
    unfold HeldT at h
    unfold Held
    exact h
  | v :: r, h => by
    unfold HeldT at h
    unfold Held
    obtain ⟨g, off, cap, s, e, rfl, _, _, _, _, _, _, hv, hr⟩ := h
    exact ⟨g, off, cap, rfl, OneT.held v hv, RestT.held r hr⟩
theorem RestT.held {w : World} {g off lo hi : Nat} : (l : List Val) → RestT w g off lo hi l → Holds w g off l
  | [], _ => by unfold Holds; trivial
  | v :: r, h => by
    unfold RestT at h
    unfold Holds
    obtain ⟨s, e, _, _, _, _, hv, hr⟩ := h
    exact ⟨OneT.held v hv, RestT.held r hr⟩
end
/-- What keeps the values of block g from off on. -/
structure Keep (w w' : World) (g off lo hi : Nat) : Prop where
  rng : ∀ o cs, off ≤ o → w.rangeAt g o cs → w'.rangeAt g o cs
  thr : ∀ o n, off ≤ o → w.there g o n → w'.there g o n
  blk : ∀ i, lo ≤ i → i < hi → i ≠ g → w'.heap[i]? = w.heap[i]?
theorem Keep.more {w w' : World} {g off lo hi off2 lo2 hi2 : Nat} (h : Keep w w' g off lo hi) (h1 : off ≤ off2) (h2 : lo ≤ lo2) (h3 : hi2 ≤ hi) : Keep w w' g off2 lo2 hi2 :=
  ⟨fun o cs ho => h.rng o cs (by omega), fun o n ho => h.thr o n (by omega), fun i a b c => h.blk i (by omega) (by omega) c⟩
theorem Keep.heap {w w' : World} {g off lo hi : Nat} (hg : w'.heap[g]? = w.heap[g]?) (h : ∀ i, lo ≤ i → i < hi → w'.heap[i]? = w.heap[i]?) : Keep w w' g off lo hi :=
  ⟨fun _ _ _ r => range_heap hg r, fun _ _ _ r => there_heap hg r, fun i a b _ => h i a b⟩
mutual
theorem OneT.keep {w w' : World} {g off s e : Nat} (h : Keep w w' g off s e) (hn : ¬ (s ≤ g ∧ g < e)) : (v : Val) → OneT w g off s e v → OneT w' g off s e v
  | .mk k b n t x l, hv => by
    unfold OneT at hv ⊢
    obtain ⟨L, r, th, hf, hl⟩ := hv
    exact ⟨L, h.rng _ _ (Nat.le_refl _) r, h.thr _ _ (Nat.le_refl _) th, hf, HeldT.stays (fun i a b => h.blk i a b (fun q => hn ⟨q ▸ a, q ▸ b⟩)) l hl⟩
theorem HeldT.stays {w w' : World} {lo hi : Nat} {L : Value} (h : ∀ i, lo ≤ i → i < hi → w'.heap[i]? = w.heap[i]?) : (l : List Val) → HeldT w lo hi L l → HeldT w' lo hi L l
  | [], hl => by
    unfold HeldT at hl ⊢
    exact hl
  | v :: r, hl => by
    unfold HeldT at hl ⊢
    obtain ⟨g, off, cap, s, e, rfl, h1, h2, h3, h4, h5, h6, hv, hr⟩ := hl
    have k : Keep w w' g off lo hi := Keep.heap (h g h1 h2) h
    exact ⟨g, off, cap, s, e, rfl, h1, h2, h3, h4, h5, h6, OneT.keep (k.more (Nat.le_refl _) h3 h5) h6 v hv, RestT.keep (k.more (by omega) (by omega) (Nat.le_refl _)) r hr⟩
theorem RestT.keep {w w' : World} {g off lo hi : Nat} (h : Keep w w' g off lo hi) : (l : List Val) → RestT w g off lo hi l → RestT w' g off lo hi l
  | [], _ => by unfold RestT; trivial
  | v :: r, hl => by
    unfold RestT at hl ⊢
    obtain ⟨s, e, h3, h4, h5, h6, hv, hr⟩ := hl
    exact ⟨s, e, h3, h4, h5, h6, OneT.keep (h.more (Nat.le_refl _) h3 h5) h6 v hv, RestT.keep (h.more (by omega) (by omega) (Nat.le_refl _)) r hr⟩
end
theorem RestT.wide {w : World} {g off lo hi lo2 : Nat} (h : lo2 ≤ lo) : (l : List Val) → RestT w g off lo hi l → RestT w g off lo2 hi l
  | [], _ => by unfold RestT; trivial
  | v :: r, hl => by
    unfold RestT at hl ⊢
    obtain ⟨s, e, h3, hl⟩ := hl
    exact ⟨s, e, by omega, hl⟩
theorem RestT.high {w : World} {g : Nat} : (l : List Val) → (off lo hi hi2 : Nat) → hi ≤ hi2 → RestT w g off lo hi l → RestT w g off lo hi2 l
  | [], _, _, _, _, _, _ => by unfold RestT; trivial
  | v :: r, off, lo, hi, hi2, h, hl => by
    unfold RestT at hl ⊢
    obtain ⟨s, e, h3, h4, h5, h6, hv, hr⟩ := hl
    exact ⟨s, e, h3, h4, by omega, h6, hv, RestT.high r _ _ _ _ h hr⟩
theorem HeldT.wide {w : World} {lo hi lo2 hi2 : Nat} {L : Value} (h : lo2 ≤ lo) (h2 : hi ≤ hi2) : (l : List Val) → HeldT w lo hi L l → HeldT w lo2 hi2 L l
  | [], hl => by
    unfold HeldT at hl ⊢
    exact hl
  | v :: r, hl => by
    unfold HeldT at hl ⊢
    obtain ⟨g, off, cap, s, e, rfl, h1, h2', h3, h4, h5, h6, hv, hr⟩ := hl
    exact ⟨g, off, cap, s, e, rfl, by omega, by omega, by omega, h4, by omega, h6, hv, RestT.high r _ _ _ _ h2 hr⟩
theorem HeldT.form {w : World} {lo hi : Nat} {p : Option Addr} {n cap : Nat} {v : Val} {r : List Val} (h : HeldT w lo hi (.slice p n cap) (v :: r)) : ∃ g off, p = some ⟨g, off, none⟩ ∧ n = r.length + 1 ∧ lo ≤ g ∧ g < hi ∧ RestT w g off lo hi (v :: r) := by
  unfold HeldT at h
  obtain ⟨g, off, cap', s, e, q, h1, h2, h3, h4, h5, h6, hv, hr⟩ := h
  injection q with q1 q2 q3
  unfold RestT
  exact ⟨g, off, q1, q2, h1, h2, s, e, h3, h4, h5, h6, hv, hr⟩
theorem HeldT.mk {w : World} {lo hi : Nat} {g off cap : Nat} {l : List Val} (h1 : lo ≤ g) (h2 : g < hi) (h : RestT w g off lo hi l) : HeldT w lo hi (.slice (some ⟨g, off, none⟩) l.length cap) l := by
  cases l with
  | nil => unfold HeldT; exact ⟨_, _, rfl⟩
  | cons v r =>
    unfold RestT at h
    unfold HeldT
    obtain ⟨s, e, h3, h4, h5, h6, hv, hr⟩ := h
    exact ⟨g, off, cap, s, e, rfl, h1, h2, h3, h4, h5, h6, hv, hr⟩
/-- The cells of values, their lists apart from each other and from the block own. -/
def CellsT (w : World) (own : Option Nat) (lo hi : Nat) : List Value → List Val → Prop
  | xs, [] => xs = []
  | xs, .mk k b n t x q :: r => ∃ L ys s e, xs = .int .i64 k :: .bool b :: .int .i64 n :: .string t :: .string x :: L :: ys ∧ Fine n t x q.length ∧ lo ≤ s ∧ s ≤ e ∧ e ≤ hi ∧ (∀ g, own = some g → ¬ (s ≤ g ∧ g < e)) ∧ HeldT w s e L q ∧ CellsT w own e hi ys r
theorem CellsT.snoc {w : World} {own : Option Nat} {hi s e : Nat} {k : Int} {b : Bool} {n : Int} {t x : ByteArray} {q : List Val} {L : Value} (h1 : hi ≤ s) (h2 : s ≤ e) (ho : ∀ g, own = some g → ¬ (s ≤ g ∧ g < e)) (hf : Fine n t x q.length) (hq : HeldT w s e L q) :
    (l : List Val) → (lo : Nat) → {xs : List Value} → lo ≤ hi → CellsT w own lo hi xs l → CellsT w own lo e (xs ++ [.int .i64 k, .bool b, .int .i64 n, .string t, .string x, L]) (l ++ [.mk k b n t x q])
  | [], lo, xs, h3, h => by
    unfold CellsT at h
    subst h
    show CellsT w own lo e [.int .i64 k, .bool b, .int .i64 n, .string t, .string x, L] [.mk k b n t x q]
    unfold CellsT
    exact ⟨L, [], s, e, rfl, hf, by omega, h2, Nat.le_refl _, ho, hq, by unfold CellsT; rfl⟩
  | .mk k' b' n' t' x' q' :: l, lo, xs, h3, h => by
    unfold CellsT at h
    obtain ⟨L', ys, s', e', rfl, hf', g1, g2, g3, g4, hq', hr⟩ := h
    show CellsT w own lo e _ (.mk k' b' n' t' x' q' :: (l ++ _))
    unfold CellsT
    exact ⟨L', _, s', e', rfl, hf', g1, g2, by omega, g4, hq', CellsT.snoc h1 h2 ho hf hq l e' g3 hr⟩
theorem CellsT.stays {w w' : World} {own : Option Nat} {hi : Nat} : (l : List Val) → (lo : Nat) → {xs : List Value} → (∀ i, lo ≤ i → i < hi → own ≠ some i → w'.heap[i]? = w.heap[i]?) → CellsT w own lo hi xs l → CellsT w' own lo hi xs l
  | [], _, _, _, h => by unfold CellsT at h ⊢; exact h
  | .mk k b n t x q :: l, lo, _, hs, h => by
    unfold CellsT at h ⊢
    obtain ⟨L, ys, s, e, rfl, hf, g1, g2, g3, g4, hq, hr⟩ := h
    exact ⟨L, ys, s, e, rfl, hf, g1, g2, g3, g4, hq.stays (fun i a b => hs i (by omega) (by omega) (fun o => g4 i o ⟨a, b⟩)) q, CellsT.stays l e (fun i a b => hs i (by omega) b) hr⟩
theorem CellsT.owner {w : World} {own own2 : Option Nat} {hi : Nat} (ho : own2 = own ∨ ∃ m, own2 = some m ∧ hi ≤ m) : (l : List Val) → (lo : Nat) → {xs : List Value} → CellsT w own lo hi xs l → CellsT w own2 lo hi xs l
  | [], _, _, h => by unfold CellsT at h ⊢; exact h
  | .mk k b n t x q :: l, lo, _, h => by
    unfold CellsT at h ⊢
    obtain ⟨L, ys, s, e, rfl, hf, g1, g2, g3, g4, hq, hr⟩ := h
    refine ⟨L, ys, s, e, rfl, hf, g1, g2, g3, fun g hg => ?_, hq, CellsT.owner ho l e hr⟩
    rcases ho with h | ⟨m, h, hm⟩
    · exact g4 g (h ▸ hg)
    · rw [h] at hg
      injection hg with hg
      omega
theorem CellsT.high {w : World} {own : Option Nat} {hi hi2 : Nat} (h2 : hi ≤ hi2) : (l : List Val) → (lo : Nat) → {xs : List Value} → CellsT w own lo hi xs l → CellsT w own lo hi2 xs l
  | [], _, _, h => by unfold CellsT at h ⊢; exact h
  | .mk k b n t x q :: l, lo, _, h => by
    unfold CellsT at h ⊢
    obtain ⟨L, ys, s, e, rfl, hf, g1, g2, g3, g4, hq, hr⟩ := h
    exact ⟨L, ys, s, e, rfl, hf, g1, g2, by omega, g4, hq, CellsT.high h2 l e hr⟩
theorem CellsT.rest {w : World} {g hi : Nat} : (l : List Val) → (off lo : Nat) → {xs : List Value} → CellsT w (some g) lo hi xs l → w.rangeAt g off xs → w.there g off (l.length * 6) → RestT w g off lo hi l
  | [], _, _, _, _, _, _ => by unfold RestT; trivial
  | .mk k b n t x q :: l, off, lo, _, h, hr, ht => by
    unfold CellsT at h
    obtain ⟨L, ys, s, e, rfl, hf, g1, g2, g3, g4, hq, hl⟩ := h
    unfold RestT
    refine ⟨s, e, g1, g2, g3, g4 g rfl, ?_, CellsT.rest l (off + 6) e hl (fun j v hv => ?_) (fun j hj => ?_)⟩
    · unfold OneT
      refine ⟨L, fun j v hv => hr j v ?_, fun j hj => ht j (by simp only [List.length_cons]; omega), hf, hq⟩
      match j, hv with
      | 0, hv => exact hv
      | 1, hv => exact hv
      | 2, hv => exact hv
      | 3, hv => exact hv
      | 4, hv => exact hv
      | 5, hv => exact hv
      | j + 6, hv => simp at hv
    · have := hr (j + 6) v hv
      rwa [show off + (j + 6) = off + 6 + j by omega] at this
    · have := ht (j + 6) (by simp only [List.length_cons]; omega)
      rwa [show off + (j + 6) = off + 6 + j by omega] at this
theorem CellsT.cells1 {w : World} {own : Option Nat} {hi : Nat} : (l : List Val) → (lo : Nat) → {xs : List Value} → CellsT w own lo hi xs l → ∀ u ∈ xs, u.oneCell' = true
  | [], _, _, h, u, hu => by
    unfold CellsT at h
    subst h
    cases hu
  | .mk k b n t x q :: l, lo, _, h, u, hu => by
    unfold CellsT at h
    obtain ⟨L, ys, s, e, rfl, hf, g1, g2, g3, g4, hq, hr⟩ := h
    obtain ⟨p, c, rfl⟩ := held_slice (HeldT.held q hq)
    simp only [List.mem_cons] at hu
    rcases hu with rfl | rfl | rfl | rfl | rfl | rfl | hu
    · rfl
    · rfl
    · rfl
    · rfl
    · rfl
    · rfl
    · exact CellsT.cells1 l e hr u hu
/-- What is one's own, and whose lists lie apart, is held so. -/
theorem heldT_of_own {w : World} {base lo hi : Nat} {V : Value} {xs : List Value} {l : List Val} (h : w.ownsRow base 28 6 V l.length xs) (c : CellsT w V.ownBlock lo hi xs l) (h1 : lo ≤ base) (h2 : w.heap.size ≤ hi) : HeldT w lo hi V l := by
  have hbb := h
  obtain ⟨hl, h0 | ⟨g, cap, cur, rfl, hg, hh, hc, hm, hz, ht⟩⟩ := h
  · obtain ⟨rfl, hn⟩ := h0
    obtain rfl := List.length_eq_zero_iff.1 hn
    unfold HeldT
    exact ⟨_, _, rfl⟩
  · have hlt : g < w.heap.size := by
      by_cases e : g < w.heap.size
      · exact e
      · rw [Array.getElem?_eq_none (by omega)] at hh; cases hh
    refine HeldT.mk (by omega) (by omega) (CellsT.rest l 0 lo c (fun j v hv => ?_) (fun j hj => ?_))
    · have := hbb.cells (g := g) rfl j v hv
      rwa [Addr.add_mid] at this
    · have hj2 : j < cur.size := by rw [hz]; have := Nat.mul_le_mul_right 6 hc; omega
      have e : w.cell? ⟨g, 0 + j, none⟩ = cur[0 + j]? := cell_of_row w g (0 + j) cur 28 (0, 0) hh
      refine ⟨?_, ?_⟩
      · rw [e, Nat.zero_add, Array.getElem?_eq_getElem hj2]
        rfl
      · exact free_of hh _
end Go.Proofs.YtoifjjgakblhhaaGreatDoor

/- The copies that the document's own text makes: their lists lie apart. -/
namespace Go.Proofs.YtoifjjgakblhhaaGreatDoor
open Go.RowKit

def CopyT (w : World) (q : List Val) (e : Ending) (w' : World) : Prop := ∃ V xs, e = .returned V ∧ w'.ownsRow w.heap.size 28 6 V q.length xs ∧ CellsT w' V.ownBlock w.heap.size w'.heap.size xs q ∧ Below w.heap.size w w'
/-- What a round keeps. -/
structure AccT (w : World) (l : List Val) (A : Value) (wr : World) : Prop where
  own : ∃ xs hi, wr.ownsRow w.heap.size 28 6 A l.length xs ∧ CellsT wr A.ownBlock w.heap.size hi xs l ∧ w.heap.size ≤ hi ∧ hi ≤ wr.heap.size
  bel : Below w.heap.size w wr
theorem AccT.next {w wr wf w1 : World} {l : List Val} {A A2 : Value} {xs : List Value} {hi : Nat} {k : Int} {b : Bool} {n : Int} {t x : ByteArray} {q : List Val} {V : Value} {o : Obj}
    (hx : wr.ownsRow w.heap.size 28 6 A l.length xs) (hc : CellsT wr A.ownBlock w.heap.size hi xs l) (hh1 : w.heap.size ≤ hi) (hh2 : hi ≤ wr.heap.size) (hbel : Below w.heap.size w wr)
    (bf : Below wr.heap.size wr wf) (hf : Fine n t x q.length) (hq : HeldT wf wr.heap.size wf.heap.size V q)
    (hown : w1.ownsRow w.heap.size 28 6 A2 (l.length + 1) (xs ++ [.int .i64 k, .bool b, .int .i64 n, .string t, .string x, V])) (hgrow : (wf.alloc o).grownBy w1 A.ownBlock) (hloc : A2.ownBlock = A.ownBlock ∨ A2.ownBlock = some (wf.heap.size + 1)) :
    AccT w (l ++ [.mk k b n t x q]) A2 w1 := by
  have hs := bf.size
  have hs1 := hgrow.size
  have hz : (wf.alloc o).heap.size = wf.heap.size + 1 := by simp
  have hA : ∀ g, A.ownBlock = some g → g < wr.heap.size := fun g h => (hx.lt g h).2
  have keep : ∀ i, i < wf.heap.size → A.ownBlock ≠ some i → w1.heap[i]? = wf.heap[i]? := fun i hi hne => by
    rw [hgrow.block i (by omega) (fun h => hne h.symm)]
    exact Below.heap_alloc _ _ _ hi
  refine ⟨⟨_, wf.heap.size, by rw [List.length_append]; exact hown, ?_, by omega, by omega⟩, ?_⟩
  · have c1 : CellsT w1 A.ownBlock w.heap.size hi xs l := CellsT.stays l _ (fun i a b' hne => (keep i (by omega) hne).trans (bf.block i (by omega))) hc
    have c2 : CellsT w1 A2.ownBlock w.heap.size hi xs l := CellsT.owner (hloc.imp id fun h => ⟨_, h, by omega⟩) l _ c1
    refine CellsT.snoc hh2 hs (fun g hg hb => ?_) hf (HeldT.stays (fun i a b' => keep i b' (fun h => ?_)) q hq) l _ hh1 c2
    · rcases hloc with h | h
      · have := hA g (by rw [← h]; exact hg)
        omega
      · rw [h] at hg
        injection hg with hg
        omega
    · have := hA i h
      omega
  · have h0 := hbel.size
    exact (((hbel.trans (bf.mono h0)).alloc (by omega) o).grown hgrow (by omega) (fun g hg => (hx.lt g hg).1))
/-- What CopyValue tells: the same cells, and a list of new blocks. -/
def RValT (w : World) (k : Int) (b : Bool) (n : Int) (t x : ByteArray) (q : List Val) (e : Ending) (w' : World) : Prop :=
  ∃ p c, e = .returned (.agg #[.int .i64 k, .bool b, .int .i64 n, .string t, .string x, .slice p q.length c]) ∧ HeldT w' w.heap.size w'.heap.size (.slice p q.length c) q ∧ Below w.heap.size w w'
def TCopyV (v : Val) : Prop := ∀ (W : World) (k : Int) (b : Bool) (n : Int) (t x : ByteArray) (q : List Val) (p : Option Addr) (cap : Nat), v = .mk k b n t x q → q.length ≤ 2097152 → Held W (.slice p q.length cap) q →
  Calls Tryz.prog 37 #[.slice p q.length cap] W (CopyT W q)

set_option maxRecDepth 20000 in
set_option maxHeartbeats 3200000 in
theorem tcopyValue (k : Int) (b : Bool) (n : Int) (t x : ByteArray) (q : List Val) (p : Option Addr) (cap : Nat) (w : World) (hc : ∀ W, Below w.heap.size w W → Calls Tryz.prog 37 #[.slice p q.length cap] W (CopyT W q)) :
    Calls Tryz.prog 12 #[.agg #[.int .i64 k, .bool b, .int .i64 n, .string t, .string x, .slice p q.length cap]] w (RValT w k b n t x q) := by
  obtain ⟨W0, hW0⟩ : ∃ W0, W0 = (w.alloc (.cells #[.int .i64 k, .bool b, .int .i64 n, .string t, .string x, .slice p q.length cap] 28)).alloc (.cells #[.int .i64 0, .bool false, .int .i64 0, .string ⟨#[]⟩, .string ⟨#[]⟩, .slice none 0 0] 28) := ⟨_, rfl⟩
  have S1 : Six W0 w.heap.size k b n t x p q.length cap := by rw [hW0]; exact (six_new _ rfl).alloc _
  have S2 : Six W0 (w.heap.size + 1) 0 false 0 ⟨#[]⟩ ⟨#[]⟩ none 0 0 := by rw [hW0]; exact six_new _ (by simp)
  have b0 : Below w.heap.size w W0 := by rw [hW0]; exact (below1 _ _).alloc (by simp) _
  have z0 : W0.heap.size = w.heap.size + 2 := by rw [hW0]; simp
  have c5 := S1.c5
  have H0 := Lib.hid hW0
  have HZ := Lib.hid z0
  clear hW0 z0
  go_enter Tryz.func12, Tryz.ntmps12
  go_wp2_with (first
    | (go_at_call 37; rw [← H0.out]; (with_reducible refine (hc _ b0).mono ?_); rintro e w2 ⟨V, ys, rfl, hv, hcs, hb2⟩
       have hq2 : HeldT w2 W0.heap.size w2.heap.size V q := heldT_of_own hv hcs (Nat.le_refl _) (Nat.le_refl _)
       obtain ⟨p2, c2, rfl⟩ := held_slice (HeldT.held q hq2)
       have T1 := S1.below hb2; have T2 := S2.below hb2; have b2 := below_any b0 hb2 b0.size; have c5 := T1.c5; have f5 := T1.free 5
       have HQ := Lib.hid hq2; clear hq2 hv hcs hb2 S1 S2 b0)
    | ((with_reducible refine wpList_load6 (.tmp 1) w.heap.size (T1.set5 p2 q.length c2) ?_ ?_ ?_ ?_); rfl; rfl; rfl)
    | ((with_reducible refine wpList_store6 (k' := k) (b' := b) (n' := n) (t' := t) (x' := x) (p' := p2) (len' := q.length) (cap' := c2) (.tmp 2) (.tmp 7) (w.heap.size + 1) (Six.only T2 (Only.refl w.heap.size _ |>.setCell 5 none _) (by omega)) ?_ ?_ ?_ ?_ ?_); rfl; rfl; rfl; rfl; intro w9 on9 S9))
  have on5 : Only w.heap.size w2 (w2.setCell ⟨w.heap.size, 5, none⟩ (.slice p2 q.length c2)) := (Only.refl w.heap.size w2).setCell 5 none _
  have s5 := on5.size
  have s9 := on9.size
  have b5 : Below w.heap.size w (w2.setCell ⟨w.heap.size, 5, none⟩ (.slice p2 q.length c2)) := below_only b2 on5 (Nat.le_refl _) b2.size
  refine bodyPost_ret (results_sixA (p := 2) Tryz.results12 _ rfl S9) rfl ⟨p2, c2, rfl, ?_, below_only b5 on9 (by omega) b5.size⟩
  have hz := HZ.out
  exact HeldT.wide (by omega) (by omega) q (HeldT.stays (fun i a b' => (on9.block i (by omega) (by omega)).trans (on5.block i (by omega) (by omega))) q HQ.out)
set_option maxRecDepth 20000 in
set_option maxHeartbeats 6400000 in
theorem tcopySome (l : List Val) (g off cap : Nat) (w : World) (hl : Holds w g off l) (hn : l.length ≤ 2097152) (each : ∀ v ∈ l, TCopyV v) :
    Calls Tryz.prog 37 #[.slice (some ⟨g, off, none⟩) l.length cap] w (CopyT w l) := by
  obtain ⟨n, hln⟩ : ∃ n, n = l.length := ⟨_, rfl⟩
  rw [← hln] at hn ⊢
  obtain ⟨i0, hi, hz0, hz1, hz2⟩ := info_parts info28b
  have HL := Lib.hid hln
  have HH := Lib.hid hl
  have HE := Lib.hid each
  clear hl hln each
  go_enter Tryz.func37, Tryz.ntmps37
  go_wp2_with fail
  go_loopg [3, 4] n (fun gg s3 s4 wr => ∃ j : Nat, j + gg = n ∧ s4 = .int .i64 j ∧ Hid (AccT w (l.take j) s3 wr))
  case atStart => exact ⟨0, by omega, rfl, Lib.hid ⟨⟨[], w.heap.size, by simpa using World.ownsRow_nil w w.heap.size 28 6, by unfold CellsT; rfl, Nat.le_refl _, Nat.le_refl _⟩, Below.refl _ _⟩⟩
  case round =>
    obtain ⟨j, hjg, rfl, HA⟩ := hrel
    by_cases hlt : (j : Int) < n
    · have hj1 : j < l.length := by have := HL.out; omega
      obtain ⟨k, b, m, t, x, q, p, cp, o1⟩ := ((Holds.at_ l off HH.out j hj1).below _ HA.out.bel).opens
      have hcp : Calls Tryz.prog 12 #[.agg #[.int .i64 k, .bool b, .int .i64 m, .string t, .string x, .slice p q.length cp]] wr (RValT wr k b m t x q) :=
        tcopyValue k b m t x q p cp wr fun W h => HE.out l[j] (List.getElem_mem hj1) W k b m t x q p cp o1.e o1.hf.hn (Held.below q o1.hl h)
      unfold RValT at hcp
      have HF := Lib.hid o1.hf
      have HV := Lib.hid o1.e
      have hjl : (l.take j).length = j := by rw [List.length_take]; omega
      have c0 := o1.c0
      have c1 := o1.c1
      have c2 := o1.c2
      have c3 := o1.c3
      have c4 := o1.c4
      have c5 := o1.c5
      clear o1
      go_wp2_with (first
        | ((with_reducible refine wpList_loadMid6 (.tmp 14) g (off + j * 6) k b m t x _ c0 c1 c2 c3 c4 c5 ?_ ?_ ?_ ?_); rfl; rfl; rfl)
        | (go_at_call 12; (with_reducible refine hcp.mono ?_); rintro e wf ⟨p5, k5, rfl, hq0, bf0⟩
           obtain ⟨⟨xs, hi9, hown, hcs, hh1, hh2⟩, hbel⟩ := HA.out
           have hownX := own_below hown bf0
           have hbs := hbel.size
           have hfs := bf0.size
           have HX := Lib.hid (And.intro hown (And.intro hcs (And.intro hh1 (And.intro hh2 (And.intro hbel (And.intro bf0 hq0))))))
           clear hown hcs hh1 hh2 hbel bf0 hq0 HA c0 c1 c2 c3 c4 c5 hcp)
        | (at_builtin; refine wpList_append_own_at _ rfl _ _ 22 rfl w.heap.size 28 i0 (.agg #[.int .i64 0, .bool false, .int .i64 0, .string ⟨#[]⟩, .string ⟨#[]⟩, .slice none 0 0]) 6 80 Tryz.underlying22 hi hz0 hz1 hz2 rfl (by decide) _ _ _ rfl (hownX.alloc _) ⟨wf.heap.size, 0, none⟩ 1 1 [.int .i64 k, .bool b, .int .i64 m, .string t, .string x, .slice p5 q.length k5] rfl rfl (cell_six_new _ _ _ _ _ _ _ _) ?_ ?_ ?_ ?_ ?_))
      all_goals (try (first | (rw [hjl]; unfold maxLen; omega) | (rw [hjl]; omega) | (simp; omega) | (intro u hu; simp only [List.mem_cons, List.mem_nil_iff, or_false] at hu; rcases hu with rfl | rfl | rfl | rfl | rfl | rfl <;> rfl)))
      intro v' w1 hown' hgrow _ hloc
      have acc := AccT.next (k := k) (b := b) (n := m) (t := t) (x := x) (q := q) HX.out.1 HX.out.2.1 HX.out.2.2.1 HX.out.2.2.2.1 HX.out.2.2.2.2.1 HX.out.2.2.2.2.2.1 HF.out HX.out.2.2.2.2.2.2 (by rw [hjl]; exact hown') hgrow hloc
      have e : l.take (j + 1) = l.take j ++ [.mk k b m t x q] := by rw [List.take_succ_eq_append_getElem hj1, HV.out]
      rw [← e] at acc
      have ACC := Lib.hid acc
      clear acc hown' hgrow hloc hownX
      go_wp2_with fail
      go_roundg (gk - 1)
      case measure => omega
      case rel => exact ⟨j + 1, by omega, by go_num, ACC⟩
    · have e : l.take j = l := by rw [List.take_of_length_le]; have := HL.out; omega
      have hA := HA.out
      rw [e] at hA
      obtain ⟨⟨xs, hi9, hown, hcs, hh1, hh2⟩, hbel⟩ := hA
      have HX := Lib.hid (And.intro hown (And.intro (CellsT.high hh2 l _ hcs) hbel))
      clear hown hcs hbel HA hh1 hh2
      go_wp2_with fail
      go_ret
      exact ⟨_, xs, rfl, HX.out.1, HX.out.2.1, HX.out.2.2⟩

theorem tcopy_list (q : List Val) (p : Option Addr) (cap : Nat) (w : World) (hl : Held w (.slice p q.length cap) q) (hn : q.length ≤ 2097152) (each : ∀ u ∈ q, TCopyV u) :
    Calls Tryz.prog 37 #[.slice p q.length cap] w (CopyT w q) := by
  cases q with
  | nil =>
    go_enter Tryz.func37, Tryz.ntmps37
    go_wp2_with fail
    go_loopg [3, 4] 0 (fun gg s3 s4 wr => gg = 0 ∧ s4 = .int .i64 0 ∧ s3 = .slice none 0 0 ∧ wr = w)
    case atStart => exact ⟨rfl, rfl, rfl, rfl⟩
    case round =>
      obtain ⟨_, rfl, rfl, rfl⟩ := hrel
      go_wp2_with fail
      go_ret
      exact ⟨_, [], rfl, World.ownsRow_nil _ _ 28 6, by unfold CellsT; rfl, Below.refl _ _⟩
  | cons v r =>
    obtain ⟨g, off, rfl, hh⟩ := hl.form
    exact tcopySome (v :: r) g off cap w hh hn each
mutual
theorem tcopyVal : (v : Val) → TCopyV v
  | .mk k b n t x q => fun W k1 b1 n1 t1 x1 q1 p cap e hn hl => by
    cases e
    exact tcopy_list q p cap W hl hn (tcopyEach q)
theorem tcopyEach : (q : List Val) → ∀ u ∈ q, TCopyV u
  | [], _, h => absurd h (by simp)
  | v :: r, u, h => by
    rcases List.mem_cons.1 h with h | h
    · rw [h]; exact tcopyVal v
    · exact tcopyEach r u h
end
end Go.Proofs.YtoifjjgakblhhaaGreatDoor
