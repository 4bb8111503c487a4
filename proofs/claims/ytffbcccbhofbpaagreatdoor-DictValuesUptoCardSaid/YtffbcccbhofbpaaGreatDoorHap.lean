/- Texts of one kind, one behind the other: each says ahead of itself what it shows. -/
import Derived.Test.YtffbcccbhofbpaaGreatDoorHag
import Derived.Test.YtffbcccbhofbpaaGreatDoorHaj
import Derived.Deep.LoopGhost
import Derived.Laws.BitsAllLaws
import Derived.Laws.BytesArg
/- What bytes are decoded as: the pure half: what was encoded is read again; a byte more or less is refused. -/
namespace Go.Proofs.YtffbcccbhofbpaaGreatDoor

/-- The number that bytes say, the highest first. -/
def numW : List UInt8 → Nat := fun l => l.foldl (fun n c => n * 256 + c.toNat) 0
theorem numW_snoc (l : List UInt8) (c : UInt8) : numW (l ++ [c]) = numW l * 256 + c.toNat := by
  unfold numW
  rw [List.foldl_append]
  rfl
theorem foldl_num (l : List UInt8) (m : Nat) : l.foldl (fun n c => n * 256 + c.toNat) m = m * 256 ^ l.length + numW l := by
  induction l generalizing m with
  | nil => simp [numW]
  | cons c r ih =>
    rw [List.foldl_cons, ih]
    show _ = _ + List.foldl (fun n c => n * 256 + c.toNat) (0 * 256 + c.toNat) r
    rw [ih, List.length_cons, Nat.pow_succ]
    rw [Nat.add_mul, Nat.zero_mul, Nat.zero_add, Nat.mul_assoc, Nat.mul_comm 256]
    omega
theorem numW_cons (c : UInt8) (r : List UInt8) : numW (c :: r) = c.toNat * 256 ^ r.length + numW r := by
  show List.foldl (fun n c => n * 256 + c.toNat) (0 * 256 + c.toNat) r = _
  rw [foldl_num, Nat.zero_mul, Nat.zero_add]
theorem numW_lt : (l : List UInt8) → numW l < 256 ^ l.length
  | [] => by decide
  | c :: r => by
    rw [numW_cons, List.length_cons, Nat.pow_succ]
    have h1 := numW_lt r
    have h2 := UInt8.toNat_lt c
    have h3 : (c.toNat + 1) * 256 ^ r.length ≤ 256 * 256 ^ r.length := Nat.mul_le_mul_right _ (by omega)
    rw [Nat.add_mul, Nat.one_mul] at h3
    rw [Nat.mul_comm _ 256]
    omega
theorem emod_mul2 (a p : Int) (hp : 0 < p) : a % (p * 256) = a % p + p * (a / p % 256) := by
  have e1 : p * (a / p) + a % p = a := Int.mul_ediv_add_emod a p
  have e2 : 256 * (a / p / 256) + a / p % 256 = a / p := Int.mul_ediv_add_emod (a / p) 256
  have h1 : 0 ≤ a % p := Int.emod_nonneg _ (by omega)
  have h2 : a % p < p := Int.emod_lt_of_pos _ hp
  have h3 : 0 ≤ a / p % 256 := Int.emod_nonneg _ (by decide)
  have h4 : a / p % 256 < 256 := Int.emod_lt_of_pos _ (by decide)
  generalize a / p % 256 = s at e2 h3 h4 ⊢
  generalize a / p / 256 = q at e2
  have e3 : a = a % p + p * s + p * 256 * q := by
    have : p * (256 * q + s) + a % p = a := by rw [e2]; exact e1
    rw [Int.mul_add, ← Int.mul_assoc] at this
    omega
  have h5 : 0 ≤ p * s := Int.mul_nonneg (by omega) h3
  have h6 : p * s + p ≤ p * 256 := by
    have : p * (s + 1) ≤ p * 256 := Int.mul_le_mul_of_nonneg_left (by omega) (by omega)
    rwa [Int.mul_add, Int.mul_one] at this
  generalize a % p = m at e3 h1 h2 ⊢
  rw [e3, Int.add_mul_emod_self_left]
  exact Int.emod_eq_of_lt (by omega) (by omega)
theorem numW_be (n : Int) : (k : Nat) → (numW (beB n k) : Int) = n % (256 : Int) ^ k
  | 0 => by simp [beB, numW, Int.emod_one]
  | i + 1 => by
    show (numW (byteOf n i :: beB n i) : Int) = _
    rw [numW_cons, Int.natCast_add, Int.natCast_mul, byteOf_int, numW_be n i, beB_length]
    have e : (2 : Int) ^ (8 * i) = 256 ^ i := by rw [Int.pow_mul]; rfl
    rw [e, Int.natCast_pow]
    have h0 : (0 : Int) < 256 ^ i := Int.pow_pos (by decide)
    rw [show (256 : Int) ^ (i + 1) = 256 ^ i * 256 from Int.pow_succ _ _, emod_mul2 n _ h0, Int.add_comm, Int.mul_comm]
    rfl
/-- A number of 64 bits, read with its sign. -/
def toI64 (n : Nat) : Int := if n < 9223372036854775808 then n else (n : Int) - 18446744073709551616
def E0 : ByteArray := ⟨#[]⟩
/-- A text and what is left. -/
def rdT (l : List UInt8) : Option (ByteArray × List UInt8) :=
  if 4 ≤ l.length ∧ numW (l.take 4) ≤ 1048576 ∧ numW (l.take 4) ≤ (l.drop 4).length then some (⟨((l.drop 4).take (numW (l.take 4))).toArray⟩, (l.drop 4).drop (numW (l.take 4))) else none
/-- So many values, one behind the other, and what is left. -/
def rdL (g : List UInt8 → Option (Val × List UInt8)) : Nat → List UInt8 → Option (List Val × List UInt8)
  | 0, l => some ([], l)
  | n + 1, l => match g l with
    | none => none
    | some (v, l') => match rdL g n l' with
      | none => none
      | some (q, l'') => some (v :: q, l'')
/-- What follows a kind. -/
def rdK (g : Option (List UInt8 → Option (Val × List UInt8))) (k : Nat) (r : List UInt8) : Option (Val × List UInt8) :=
  if k = 1 then (match r with
    | [] => none
    | b :: r' => if b.toNat ≤ 1 then some (.mk 1 (b.toNat == 1) 0 E0 E0 [], r') else none)
  else if k = 2 ∨ k = 6 ∨ k = 7 then (if 8 ≤ r.length then some (.mk k false (toI64 (numW (r.take 8))) E0 E0 [], r.drop 8) else none)
  else if k = 3 ∨ k = 4 ∨ k = 8 ∨ k = 9 then (match rdT r with
    | none => none
    | some (t, r') => some (.mk k false 0 t E0 [], r'))
  else if k = 10 then (match rdT r with
    | none => none
    | some (t, r') => match rdT r' with
      | none => none
      | some (x, r'') => some (.mk k false 0 t x [], r''))
  else if k = 5 then (match g with
    | none => none
    | some g => if 4 ≤ r.length ∧ numW (r.take 4) ≤ 4096 then (match rdL g (numW (r.take 4)) (r.drop 4) with
      | none => none
      | some (q, r') => some (.mk 5 false 0 E0 E0 q, r')) else none)
  else some (.mk k false 0 E0 E0 [], r)
/-- A value and what is left; f: so many lists may it have in one another. -/
def rdV : Nat → List UInt8 → Option (Val × List UInt8)
  | _, [] => none
  | 0, c :: r => rdK none c.toNat r
  | f + 1, c :: r => rdK (some (rdV f)) c.toNat r
/-- What Decode tells. -/
def decP (l : List UInt8) : Option Val := match rdV 60 l with
  | some (v, []) => if mayP v 0 then some v else none
  | _ => none

/-- More bytes behind change nothing but what is left. -/
def Ext (g : List UInt8 → Option (Val × List UInt8)) : Prop := ∀ l s v r, g l = some (v, r) → g (l ++ s) = some (v, r ++ s)
theorem rdT_ext (l s : List UInt8) (t : ByteArray) (r : List UInt8) (h : rdT l = some (t, r)) : rdT (l ++ s) = some (t, r ++ s) := by
  unfold rdT at h ⊢
  by_cases h1 : 4 ≤ l.length ∧ numW (l.take 4) ≤ 1048576 ∧ numW (l.take 4) ≤ (l.drop 4).length
  · rw [if_pos h1] at h
    obtain ⟨a, b, c⟩ := h1
    have e1 : (l ++ s).take 4 = l.take 4 := List.take_append_of_le_length a
    have e2 : (l ++ s).drop 4 = l.drop 4 ++ s := List.drop_append_of_le_length a
    rw [e1, e2, if_pos ⟨by rw [List.length_append]; omega, b, by rw [List.length_append]; omega⟩, List.take_append_of_le_length c, List.drop_append_of_le_length c]
    simp only [Option.some.injEq, Prod.mk.injEq] at h ⊢
    exact ⟨h.1, by rw [h.2]⟩
  · rw [if_neg h1] at h
    cases h
theorem rdL_ext {g : List UInt8 → Option (Val × List UInt8)} (hg : Ext g) : (n : Nat) → ∀ (l s : List UInt8) (q : List Val) (r : List UInt8), rdL g n l = some (q, r) → rdL g n (l ++ s) = some (q, r ++ s)
  | 0, l, s, q, r, h => by
    simp only [rdL, Option.some.injEq, Prod.mk.injEq] at h ⊢
    exact ⟨h.1, by rw [h.2]⟩
  | n + 1, l, s, q, r, h => by
    unfold rdL at h ⊢
    cases hv : g l with
    | none => rw [hv] at h; cases h
    | some p =>
      obtain ⟨v, l'⟩ := p
      rw [hv] at h
      rw [hg l s v l' hv]
      simp only at h ⊢
      cases hq : rdL g n l' with
      | none => rw [hq] at h; cases h
      | some p2 =>
        obtain ⟨q', l''⟩ := p2
        rw [hq] at h
        rw [rdL_ext hg n l' s q' l'' hq]
        simp only [Option.some.injEq, Prod.mk.injEq] at h ⊢
        exact ⟨h.1, by rw [h.2]⟩
theorem rdK_ext (g : Option (List UInt8 → Option (Val × List UInt8))) (hg : ∀ g', g = some g' → Ext g') (k : Nat) : Ext (rdK g k) := by
  intro l s v r h
  unfold rdK at h ⊢
  split at h
  · rename_i hk
    rw [if_pos hk]
    cases l with
    | nil => cases h
    | cons b l' =>
      simp only [List.cons_append] at h ⊢
      split at h
      · rename_i hb
        rw [if_pos hb]
        simp only [Option.some.injEq, Prod.mk.injEq] at h ⊢
        exact ⟨h.1, by rw [h.2]⟩
      · cases h
  rename_i k1
  rw [if_neg k1]
  split at h
  · rename_i hk
    rw [if_pos hk]
    split at h
    · rename_i hb
      rw [if_pos (by rw [List.length_append]; omega), List.take_append_of_le_length hb, List.drop_append_of_le_length hb]
      simp only [Option.some.injEq, Prod.mk.injEq] at h ⊢
      exact ⟨h.1, by rw [h.2]⟩
    · cases h
  rename_i k2
  rw [if_neg k2]
  split at h
  · rename_i hk
    rw [if_pos hk]
    cases ht : rdT l with
    | none => rw [ht] at h; cases h
    | some p =>
      obtain ⟨t, l'⟩ := p
      rw [ht] at h
      rw [rdT_ext l s t l' ht]
      simp only [Option.some.injEq, Prod.mk.injEq] at h ⊢
      exact ⟨h.1, by rw [h.2]⟩
  rename_i k3
  rw [if_neg k3]
  split at h
  · rename_i hk
    rw [if_pos hk]
    cases ht : rdT l with
    | none => rw [ht] at h; cases h
    | some p =>
      obtain ⟨t, l'⟩ := p
      rw [ht] at h
      rw [rdT_ext l s t l' ht]
      simp only at h ⊢
      cases hx : rdT l' with
      | none => rw [hx] at h; cases h
      | some p2 =>
        obtain ⟨x, l''⟩ := p2
        rw [hx] at h
        rw [rdT_ext l' s x l'' hx]
        simp only [Option.some.injEq, Prod.mk.injEq] at h ⊢
        exact ⟨h.1, by rw [h.2]⟩
  rename_i k4
  rw [if_neg k4]
  split at h
  · rename_i hk
    rw [if_pos hk]
    cases g with
    | none => cases h
    | some g =>
      simp only at h ⊢
      split at h
      · rename_i hb
        rw [if_pos ⟨by rw [List.length_append]; omega, by rw [List.take_append_of_le_length hb.1]; exact hb.2⟩, List.take_append_of_le_length hb.1, List.drop_append_of_le_length hb.1]
        cases hq : rdL g (numW (l.take 4)) (l.drop 4) with
        | none => rw [hq] at h; cases h
        | some p2 =>
          obtain ⟨q', l''⟩ := p2
          rw [hq] at h
          rw [rdL_ext (hg g rfl) _ _ s q' l'' hq]
          simp only [Option.some.injEq, Prod.mk.injEq] at h ⊢
          exact ⟨h.1, by rw [h.2]⟩
      · cases h
  rename_i k5
  rw [if_neg k5]
  simp only [Option.some.injEq, Prod.mk.injEq] at h ⊢
  exact ⟨h.1, by rw [h.2]⟩
theorem rdV_ext : (f : Nat) → Ext (rdV f)
  | 0 => by
    intro l s v r h
    cases l with
    | nil => simp [rdV] at h
    | cons c l' =>
      simp only [rdV, List.cons_append] at h ⊢
      exact rdK_ext none (fun _ e => by cases e) c.toNat l' s v r h
  | f + 1 => by
    intro l s v r h
    cases l with
    | nil => simp [rdV] at h
    | cons c l' =>
      simp only [rdV, List.cons_append] at h ⊢
      exact rdK_ext (some (rdV f)) (fun g e => by cases e; exact rdV_ext f) c.toNat l' s v r h
end Go.Proofs.YtffbcccbhofbpaaGreatDoor

/- The reader: take, int, count, text. -/
namespace Go.Proofs.YtffbcccbhofbpaaGreatDoor
open Go.RowKit

/-- The reader's block, and the bytes that are left. -/
def Rd (w : World) (R : Nat) (l : List UInt8) : Prop := ∃ p cap, w.heap[R]? = some (.cells #[.slice p l.length cap] 81) ∧ l.length ≤ cap ∧ cap ≤ maxLen ∧
  ((p = none ∧ l = []) ∨ ∃ g off, p = some ⟨g, off, none⟩ ∧ g ≠ R ∧ (∃ cs : Array Value × (Nat × Nat), w.heap[g]? = some (Obj.cells cs.1 5 cs.2)) ∧ ∀ j c, l[j]? = some c → w.cell? ⟨g, off + j, none⟩ = some (.int .u8 c.toNat))
theorem Rd.lt {w : World} {R : Nat} {l : List UInt8} (h : Rd w R l) : R < w.heap.size := by
  obtain ⟨p, cap, h, _⟩ := h
  exact lt_of_heap h
theorem Rd.below {w w' : World} {R : Nat} {l : List UInt8} (h : Rd w R l) (b : Below w.heap.size w w') : Rd w' R l := by
  obtain ⟨p, cap, h1, h2, h3, h4⟩ := h
  refine ⟨p, cap, (b.block R (lt_of_heap h1)).trans h1, h2, h3, ?_⟩
  rcases h4 with h4 | ⟨g, off, e, hne, ⟨cs, hcs⟩, hc⟩
  · exact .inl h4
  · exact .inr ⟨g, off, e, hne, ⟨cs, (b.block g (lt_of_heap hcs)).trans hcs⟩, fun j c hj => (b.cell (p := ⟨g, off + j, none⟩) (World.block_lt_of_cell? w _ (hc j c hj))).trans (hc j c hj)⟩
theorem Bts.only {w w' : World} {R : Nat} {A : Value} {l : List UInt8} (h : Bts w A l) (o : Only R w w') (hne : ∀ g, A.ownBlock = some g → g ≠ R) : Bts w' A l := by
  obtain ⟨p, cap, rfl, h⟩ := h
  refine ⟨p, cap, rfl, ?_⟩
  rcases h with h | ⟨g, off, rfl, h⟩
  · exact .inl h
  · exact .inr ⟨g, off, rfl, fun j c hj => (World.cell?_of_block (w := w) (a := ⟨g, off + j, none⟩) (o.block g (World.block_lt_of_cell? w _ (h j c hj)) (hne g rfl))).trans (h j c hj)⟩

set_option maxRecDepth 20000 in
set_option maxHeartbeats 3200000 in
theorem takeNo (R : Nat) (l : List UInt8) (n : Nat) (w : World) (h : Rd w R l) (hn : l.length < n) (hn2 : n ≤ 4294967296) (hl : l.length ≤ 1000000000) :
    Calls Tryz.prog 63 #[.pointer (some ⟨R, 0, none⟩), .int .i64 n] w fun e w' => e = .returned (.tuple #[.slice none 0 0, .bool false]) ∧ w' = w := by
  obtain ⟨p, cap, h1, h2, h3, h4⟩ := h
  have c0 : w.cell? ⟨R, 0, none⟩ = some (.slice p l.length cap) := cell_of h1 _ rfl
  have hlt : (l.length : Int) < n := by omega
  clear h4 h1 h2
  go_enter Tryz.func63, Tryz.ntmps63
  go_wp2_with fail
  go_ret2
  simp
/-- What take tells where there is enough. -/
def TakePost (R : Nat) (l : List UInt8) (n : Nat) (w : World) (e : Ending) (w' : World) : Prop := ∃ T, e = .returned (.tuple #[T, .bool true]) ∧ Bts w' T (l.take n) ∧ Rd w' R (l.drop n) ∧ Only R w w'
set_option maxRecDepth 20000 in
set_option maxHeartbeats 3200000 in
theorem takeYes (R : Nat) (l : List UInt8) (n : Nat) (w : World) (h : Rd w R l) (hn : n ≤ l.length) (hl : l.length ≤ 1000000000) :
    Calls Tryz.prog 63 #[.pointer (some ⟨R, 0, none⟩), .int .i64 n] w (TakePost R l n w) := by
  obtain ⟨p, cap, h1, h2, h3, h4⟩ := h
  have c0 : w.cell? ⟨R, 0, none⟩ = some (.slice p l.length cap) := cell_of h1 _ rfl
  have f0 : w.frozen? ⟨R, 0, none⟩ = false := free_of h1 _
  have hlt : (n : Int) ≤ l.length := by omega
  have hnc : n ≤ cap := by omega
  have hcm : cap ≤ 9223372036854775807 := by unfold maxLen at h3; omega
  have et : (l.take n).length = n := by rw [List.length_take]; omega
  have ed : (l.drop n).length = l.length - n := List.length_drop
  rcases h4 with ⟨rfl, rfl⟩ | ⟨g, off, rfl, hne, ⟨cs, hcs⟩, hc⟩
  · obtain rfl : n = 0 := by simpa using hn
    have hset := heap_set h1 0 (.slice none 0 cap)
    have H1 := Lib.hid h1
    have HS := Lib.hid hset
    clear h1 hset
    go_enter Tryz.func63, Tryz.ntmps63
    go_wp2_with fail
    all_goals go_ret2
    all_goals exact ⟨_, rfl, ⟨none, _, rfl, .inl rfl⟩, ⟨none, _, heap_set H1.out 0 _, Nat.zero_le _, by omega, .inl ⟨rfl, rfl⟩⟩, (Only.refl R w).setCell 0 none _⟩
  · have H1 := Lib.hid h1
    have HC := Lib.hid hc
    have hb : ∀ W, Only R w W → ∀ j c, l[j]? = some c → W.cell? ⟨g, off + j, none⟩ = some (.int .u8 c.toNat) := fun W o j c hj =>
      (World.cell?_of_block (w := w) (a := ⟨g, off + j, none⟩) (o.block g (World.block_lt_of_cell? w _ (hc j c hj)) hne)).trans (hc j c hj)
    have HB := Lib.hid hb
    have hcs2 : ∀ W, Only R w W → W.heap[g]? = some (Obj.cells cs.1 5 cs.2) := fun W o => (o.block g (lt_of_heap hcs) hne).trans hcs
    have HC2 := Lib.hid hcs2
    clear h1 hc hb hcs hcs2
    by_cases hcn : cap = n
    · subst hcn
      have hl2 : l.length = cap := by omega
      have HL2 := Lib.hid hl2
      go_enter Tryz.func63, Tryz.ntmps63
      go_wp2_with fail
      go_ret2
      refine ⟨_, rfl, ⟨some ⟨g, off, none⟩, cap, by rw [et]; rfl, .inr ⟨g, off, rfl, fun j c hj => HB.out _ ((Only.refl R w).setCell 0 none _) j c (by rw [List.getElem?_take] at hj; split at hj; exact hj; cases hj)⟩⟩, ?_, (Only.refl R w).setCell 0 none _⟩
      refine ⟨_, 0, by rw [ed, HL2.out]; simpa using heap_set H1.out 0 _, by rw [ed]; omega, by omega, .inr ⟨g, off, rfl, hne, ⟨cs, HC2.out _ ((Only.refl R w).setCell 0 none _)⟩, fun j c hj => ?_⟩⟩
      have := (List.getElem?_eq_some_iff.1 hj).1
      omega
    · go_enter Tryz.func63, Tryz.ntmps63
      go_wp2_with fail
      go_ret2
      refine ⟨_, rfl, ⟨some ⟨g, off, none⟩, cap, by rw [et]; rfl, .inr ⟨g, off, rfl, fun j c hj => HB.out _ ((Only.refl R w).setCell 0 none _) j c (by rw [List.getElem?_take] at hj; split at hj; exact hj; cases hj)⟩⟩, ?_, (Only.refl R w).setCell 0 none _⟩
      refine ⟨_, cap - n, by rw [ed]; exact heap_set H1.out 0 _, by rw [ed]; omega, by omega, .inr ⟨g, off + n, rfl, hne, ⟨cs, HC2.out _ ((Only.refl R w).setCell 0 none _)⟩, fun j c hj => ?_⟩⟩
      rw [List.getElem?_drop] at hj
      rw [Nat.add_assoc]
      exact HB.out _ ((Only.refl R w).setCell 0 none _) (n + j) c hj
end Go.Proofs.YtffbcccbhofbpaaGreatDoor

/- The reader: int, count, text. -/
namespace Go.Proofs.YtffbcccbhofbpaaGreatDoor
open Go.RowKit

theorem orStep (x y : Nat) (hx : x < 72057594037927936) (hy : y < 256) : Value.int IntKind.u64 (bits BinOp.or IntKind.u64 ((x : Int) * 256) (y : Int)) = Value.int IntKind.u64 ((x * 256 + y : Nat) : Int) := by
  have e : ((x : Int) * 256) = ((x * 256 : Nat) : Int) := by simp
  rw [e, u64_or_nat (x * 256) y (by omega) (by omega)]
  have h := Nat.two_pow_add_eq_or_of_lt (i := 8) (b := y) (by omega) x
  rw [show 2 ^ 8 * x = x * 256 by omega] at h
  rw [← h]
theorem convNil (W : World) (c : Nat) : (convert 57 9 (.slice none 0 c)).run Tryz.prog W = .ok (.string ⟨#[]⟩) W :=
  run_convert_bytes_nil (P := Tryz.prog) (w := W) 57 5 Tryz.underlying57 Tryz.underlying5 0 c 9 Tryz.underlying9
/-- What int tells. -/
def IntPost (R : Nat) (l : List UInt8) (k : Nat) (w : World) (e : Ending) (w' : World) : Prop :=
  (l.length < k ∧ e = .returned (.tuple #[.int .u64 0, .bool false]) ∧ w' = w) ∨ (k ≤ l.length ∧ e = .returned (.tuple #[.int .u64 (numW (l.take k)), .bool true]) ∧ Rd w' R (l.drop k) ∧ Only R w w')
set_option maxRecDepth 20000 in
set_option maxHeartbeats 3200000 in
theorem intAt (R : Nat) (l : List UInt8) (k : Nat) (w : World) (h : Rd w R l) (hk : k ≤ 8) (hl : l.length ≤ 1000000000) :
    Calls Tryz.prog 52 #[.pointer (some ⟨R, 0, none⟩), .int .i64 k] w (IntPost R l k w) := by
  by_cases hlk : l.length < k
  · have ht := takeNo R l k w h hlk (by omega) hl
    go_enter Tryz.func52, Tryz.ntmps52
    go_wp2_with (go_at_call 63; (with_reducible refine ht.mono ?_); rintro e w1 ⟨rfl, rfl⟩)
    go_loopg [8, 19] 0 (fun gg s8 s19 wr => gg = 0 ∧ s8 = .int .u64 0 ∧ s19 = .int .i64 0 ∧ wr = w1)
    case atStart => exact ⟨rfl, rfl, rfl, rfl⟩
    case round =>
      obtain ⟨_, rfl, rfl, rfl⟩ := hrel
      go_wp2_with fail
      go_ret2
      exact .inl ⟨hlk, rfl, rfl⟩
  · have ht := takeYes R l k w h (by omega) hl
    have et : (l.take k).length = k := by rw [List.length_take]; omega
    obtain ⟨m, hm⟩ : ∃ m, m = l.take k := ⟨_, rfl⟩
    unfold TakePost at ht
    rw [← hm] at ht et
    have HM := Lib.hid hm
    clear hm
    go_enter Tryz.func52, Tryz.ntmps52
    go_upto_region 2 with (go_at_call 63; (with_reducible refine ht.mono ?_); rintro e w1 ⟨T, rfl, hT, hR, hO⟩)
    obtain ⟨p, cap, rfl, hc⟩ := hT
    rw [et]
    have HC := Lib.hid hc
    have HR := Lib.hid (And.intro hR hO)
    clear hc hR hO ht
    go_wp2_with fail
    go_loopg [8, 19] k (fun gg s8 s19 wr => ∃ j : Nat, j + gg = k ∧ s8 = .int .u64 (numW (m.take j)) ∧ s19 = .int .i64 j ∧ wr = w1)
    case atStart => exact ⟨0, by omega, rfl, rfl, rfl⟩
    case round =>
      obtain ⟨j, hjg, rfl, rfl, rfl⟩ := hrel
      by_cases hlt : (j : Int) < k
      · have hj1 : j < m.length := by omega
        obtain ⟨g, off, rfl, c1⟩ : ∃ g off, p = some ⟨g, off, none⟩ ∧ ∀ j c, m[j]? = some c → wr.cell? ⟨g, off + j, none⟩ = some (.int .u8 c.toNat) := by
          rcases HC.out with h | h
          · rw [h] at hj1; simp at hj1
          · exact h
        obtain ⟨a, ha⟩ : ∃ a, a = m[j] := ⟨_, rfl⟩
        have d1 := c1 j a (by rw [ha]; exact List.getElem?_eq_getElem hj1)
        have hs : numW (m.take (j + 1)) = numW (m.take j) * 256 + a.toNat := by rw [List.take_succ_eq_append_getElem hj1, numW_snoc, ha]
        have hb : numW (m.take j) < 256 ^ 7 := by
          have h1 := numW_lt (m.take j)
          rw [List.length_take] at h1
          exact Nat.lt_of_lt_of_le h1 (Nat.pow_le_pow_right (by decide) (by omega))
        have hb2 : numW (m.take j) < 72057594037927936 := hb
        have ha2 : a.toNat < 256 := UInt8.toNat_lt a
        have HS := Lib.hid hs
        clear c1 hb ha hs
        obtain ⟨x, hx⟩ : ∃ x, x = numW (m.take j) := ⟨_, rfl⟩
        obtain ⟨y, hy⟩ : ∃ y, y = a.toNat := ⟨_, rfl⟩
        rw [← hx] at hb2 ⊢
        rw [← hy] at ha2 d1
        rw [← hx, ← hy] at HS
        clear hx hy
        go_wp2_with fail
        go_roundg (gk - 1)
        case measure => omega
        case rel => exact ⟨j + 1, by omega, by rw [HS.out]; exact orStep x y hb2 ha2, by go_num, rfl⟩
      · have e : m.take j = m := by rw [List.take_of_length_le]; omega
        rw [e]
        go_wp2_with fail
        go_ret2
        exact .inr ⟨by omega, by rw [← HM.out]; rfl, HR.out.1, HR.out.2⟩
/-- What count tells. -/
def CountPost (R : Nat) (l : List UInt8) (most : Nat) (w : World) (e : Ending) (w' : World) : Prop :=
  (¬(4 ≤ l.length ∧ numW (l.take 4) ≤ most) ∧ (∃ z, e = .returned (.tuple #[.int .i64 z, .bool false])) ∧ Only R w w') ∨ ((4 ≤ l.length ∧ numW (l.take 4) ≤ most) ∧ e = .returned (.tuple #[.int .i64 (numW (l.take 4)), .bool true]) ∧ Rd w' R (l.drop 4) ∧ Only R w w')
theorem num4 (l : List UInt8) : numW (l.take 4) < 4294967296 := by
  have h1 := numW_lt (l.take 4)
  rw [List.length_take] at h1
  have h2 : 256 ^ min 4 l.length ≤ 256 ^ 4 := Nat.pow_le_pow_right (by decide) (Nat.min_le_left _ _)
  exact Nat.lt_of_lt_of_le h1 h2
set_option maxRecDepth 20000 in
set_option maxHeartbeats 3200000 in
theorem countAt (R : Nat) (l : List UInt8) (most : Nat) (w : World) (h : Rd w R l) (hm : most ≤ 1048576) (hl : l.length ≤ 1000000000) :
    Calls Tryz.prog 64 #[.pointer (some ⟨R, 0, none⟩), .int .i64 most] w (CountPost R l most w) := by
  have hi : Calls Tryz.prog 52 #[.pointer (some ⟨R, 0, none⟩), .int .i64 4] w (IntPost R l 4 w) := intAt R l 4 w h (by omega) hl
  have hn := num4 l
  unfold IntPost at hi
  unfold CountPost
  obtain ⟨x, hx⟩ : ∃ x, x = numW (l.take 4) := ⟨_, rfl⟩
  rw [← hx] at hi hn ⊢
  clear hx
  by_cases h4 : 4 ≤ l.length
  · have hi' : Calls Tryz.prog 52 #[.pointer (some ⟨R, 0, none⟩), .int .i64 4] w fun e w' => e = .returned (.tuple #[.int .u64 x, .bool true]) ∧ Rd w' R (l.drop 4) ∧ Only R w w' := hi.mono (by
      rintro e w' (⟨h, _⟩ | ⟨_, he, h⟩)
      · omega
      · exact ⟨he, h⟩)
    clear hi
    by_cases hx2 : x ≤ most
    · have hx3 : (x : Int) ≤ most := by omega
      go_enter Tryz.func64, Tryz.ntmps64
      go_wp2_with (go_at_call 52; (with_reducible refine hi'.mono ?_); rintro e w1 ⟨rfl, hR, hO⟩)
      go_ret2
      exact .inr ⟨⟨h4, hx2⟩, rfl, hR, hO⟩
    · have hx3 : ¬(x : Int) ≤ most := by omega
      go_enter Tryz.func64, Tryz.ntmps64
      go_wp2_with (go_at_call 52; (with_reducible refine hi'.mono ?_); rintro e w1 ⟨rfl, hR, hO⟩)
      go_ret2
      exact .inl ⟨fun h => hx2 h.2, ⟨_, rfl⟩, hO⟩
  · have hi' : Calls Tryz.prog 52 #[.pointer (some ⟨R, 0, none⟩), .int .i64 4] w fun e w' => e = .returned (.tuple #[.int .u64 0, .bool false]) ∧ w' = w := hi.mono (by
      rintro e w' (⟨_, he, h⟩ | ⟨h, _⟩)
      · exact ⟨he, h⟩
      · omega)
    clear hi
    go_enter Tryz.func64, Tryz.ntmps64
    go_wp2_with (go_at_call 52; (with_reducible refine hi'.mono ?_); rintro e w1 ⟨rfl, rfl⟩)
    go_ret2
    exact .inl ⟨fun h => h4 h.1, ⟨_, rfl⟩, Only.refl _ _⟩
/-- What text tells. -/
def TextPost (R : Nat) (l : List UInt8) (w : World) (e : Ending) (w' : World) : Prop :=
  (rdT l = none ∧ (∃ t : ByteArray, e = .returned (.tuple #[.string t, .bool false])) ∧ Only R w w') ∨ (∃ t r, rdT l = some (t, r) ∧ t.size ≤ 1048576 ∧ r.length ≤ l.length ∧ e = .returned (.tuple #[.string t, .bool true]) ∧ Rd w' R r ∧ Only R w w')
set_option maxRecDepth 20000 in
set_option maxHeartbeats 3200000 in
theorem textAtR (R : Nat) (l : List UInt8) (w : World) (h : Rd w R l) (hl : l.length ≤ 1000000000) :
    Calls Tryz.prog 53 #[.pointer (some ⟨R, 0, none⟩)] w (TextPost R l w) := by
  have hc : Calls Tryz.prog 64 #[.pointer (some ⟨R, 0, none⟩), .int .i64 1048576] w (CountPost R l 1048576 w) := countAt R l 1048576 w h (by omega) hl
  unfold CountPost at hc
  unfold TextPost
  by_cases h4 : 4 ≤ l.length ∧ numW (l.take 4) ≤ 1048576
  · have hc' : Calls Tryz.prog 64 #[.pointer (some ⟨R, 0, none⟩), .int .i64 1048576] w fun e w' => e = .returned (.tuple #[.int .i64 (numW (l.take 4)), .bool true]) ∧ Rd w' R (l.drop 4) ∧ Only R w w' := hc.mono (by
      rintro e w' (⟨h, _⟩ | ⟨_, he, h⟩)
      · exact absurd h4 h
      · exact ⟨he, h⟩)
    have ld : (l.drop 4).length ≤ 1000000000 := by rw [List.length_drop]; omega
    have ht1 := fun W hR => takeYes R (l.drop 4) (numW (l.take 4)) W hR
    have ht0 := fun W hR hn => takeNo R (l.drop 4) (numW (l.take 4)) W hR hn (by omega) ld
    unfold TakePost at ht1
    obtain ⟨x, hx⟩ : ∃ x, x = numW (l.take 4) := ⟨_, rfl⟩
    have hx2 : x ≤ 1048576 := by rw [hx]; exact h4.2
    rw [← hx] at hc' ht1 ht0
    have HX := Lib.hid hx
    clear hc hx
    by_cases hle : x ≤ (l.drop 4).length
    · have ht : ∀ W, Rd W R (l.drop 4) → _ := fun W hR => ht1 W hR hle ld
      have hr : rdT l = some (⟨((l.drop 4).take x).toArray⟩, (l.drop 4).drop x) := by
        unfold rdT
        rw [← HX.out, if_pos ⟨h4.1, hx2, hle⟩]
      have et : ((l.drop 4).take x).length = x := by rw [List.length_take]; omega
      have lr : ((l.drop 4).drop x).length ≤ l.length := by rw [List.length_drop, List.length_drop]; omega
      have HR := Lib.hid (And.intro hr lr)
      obtain ⟨m, hm⟩ : ∃ m, m = (l.drop 4).take x := ⟨_, rfl⟩
      rw [← hm] at et ht
      have HM := Lib.hid hm
      clear ht1 ht0 hr lr hm
      go_enter Tryz.func53, Tryz.ntmps53
      go_upto_region 5 with (first
        | (go_at_call 64; (with_reducible refine hc'.mono ?_); rintro e w1 ⟨rfl, hR, hO⟩)
        | (go_at_call 63; (with_reducible refine (ht _ hR).mono ?_); rintro e w2 ⟨T, rfl, hT, hR2, hO2⟩))
      obtain ⟨p, cap, rfl, hb⟩ := hT
      rw [et]
      have hconv : (convert 57 9 (.slice p x cap)).run Tryz.prog w2 = .ok (.string ⟨m.toArray⟩) w2 := by
        rcases hb with hb | ⟨g, off, rfl, hb⟩
        · have : x = 0 := by rw [hb] at et; simpa using et.symm
          subst this
          rw [hb]
          cases p with
          | none => exact convNil w2 cap
          | some a => exact run_convert_bytes_back (P := Tryz.prog) w2 57 9 5 a cap [] Tryz.underlying57 Tryz.underlying5 Tryz.underlying9 (fun j hj => absurd hj (by simp))
        · have := run_convert_bytes_back (P := Tryz.prog) w2 57 9 5 ⟨g, off, none⟩ cap m Tryz.underlying57 Tryz.underlying5 Tryz.underlying9 (fun j hj => by
            rw [Addr.add_mid]
            exact hb j _ (List.getElem?_eq_getElem hj))
          rw [et] at this
          exact this
      have HO := Lib.hid (And.intro hR2 (hO.trans hO2))
      clear hb hR hO hR2 hO2 ht hc'
      go_wp2_with fail
      go_ret2
      refine .inr ⟨⟨m.toArray⟩, (l.drop 4).drop x, by rw [HM.out]; exact HR.out.1, ?_, HR.out.2, rfl, HO.out.1, HO.out.2⟩
      show m.length ≤ 1048576
      omega
    · have ht : ∀ W, Rd W R (l.drop 4) → _ := fun W hR => ht0 W hR (by omega)
      have hr : rdT l = none := by
        unfold rdT
        rw [← HX.out, if_neg (fun h => hle h.2.2)]
      have HR := Lib.hid hr
      have hnil := fun W => convNil W 0
      clear ht1 ht0 hr
      go_enter Tryz.func53, Tryz.ntmps53
      go_wp2_with (first
        | (go_at_call 64; (with_reducible refine hc'.mono ?_); rintro e w1 ⟨rfl, hR, hO⟩)
        | (go_at_call 63; (with_reducible refine (ht _ hR).mono ?_); rintro e w2 ⟨rfl, rfl⟩; have hnil := hnil w2))
      go_ret2
      exact .inl ⟨HR.out, ⟨_, rfl⟩, hO⟩
  · have hc' : Calls Tryz.prog 64 #[.pointer (some ⟨R, 0, none⟩), .int .i64 1048576] w fun e w' => (∃ z, e = .returned (.tuple #[.int .i64 z, .bool false])) ∧ Only R w w' := hc.mono (by
      rintro e w' (⟨_, he, h⟩ | ⟨h, _⟩)
      · exact ⟨he, h⟩
      · exact absurd h h4)
    have hr : rdT l = none := by
      unfold rdT
      rw [if_neg (fun h => h4 ⟨h.1, h.2.1⟩)]
    clear hc
    go_enter Tryz.func53, Tryz.ntmps53
    go_wp2_with (go_at_call 64; (with_reducible refine hc'.mono ?_); rintro e w1 ⟨⟨z, rfl⟩, hO⟩)
    go_ret2
    exact .inl ⟨hr, ⟨_, rfl⟩, hO⟩
end Go.Proofs.YtffbcccbhofbpaaGreatDoor

/- Equality goes both ways; what is the same is equal. No Go stands here. -/
namespace Go.Proofs.YtffbcccbhofbpaaGreatDoor

mutual
theorem sameP_comm : (v v2 : Val) → sameP v v2 = sameP v2 v
  | .mk k b n t x l, .mk k2 b2 n2 t2 x2 l2 => by
    unfold sameP
    rw [eachSame_comm l l2, show (k == k2) = (k2 == k) from BEq.comm, show (b == b2) = (b2 == b) from BEq.comm, show (n == n2) = (n2 == n) from BEq.comm,
      show (t.toList == t2.toList) = (t2.toList == t.toList) from BEq.comm, show (x.toList == x2.toList) = (x2.toList == x.toList) from BEq.comm, show (l.length == l2.length) = (l2.length == l.length) from BEq.comm]
theorem eachSame_comm : (l l2 : List Val) → eachSame l l2 = eachSame l2 l
  | [], [] => rfl
  | [], _ :: _ => by unfold eachSame; rfl
  | _ :: _, [] => by unfold eachSame; rfl
  | v :: r, v2 :: r2 => by
    unfold eachSame
    rw [sameP_comm v v2, eachSame_comm r r2]
end
mutual
theorem sameP_refl : (v : Val) → sameP v v = true
  | .mk k b n t x l => by
    unfold sameP
    rw [eachSame_refl l]
    simp
theorem eachSame_refl : (l : List Val) → eachSame l l = true
  | [] => by unfold eachSame; rfl
  | v :: r => by
    unfold eachSame
    rw [sameP_refl v, eachSame_refl r]
    rfl
end
theorem cmpZ_comm0 (a b : Int) : (cmpZ a b == 0) = (cmpZ b a == 0) := by
  rw [cmpZ_swap b a, Bool.eq_iff_iff, beq_iff_eq, beq_iff_eq]
  omega
theorem andE_comm (a b : Int) : andE a b = andE b a := by
  unfold andE
  have e1 : (a = 0 ∨ b = 0) = (b = 0 ∨ a = 0) := propext Or.comm
  have e2 : (a = 2 ∨ b = 2) = (b = 2 ∨ a = 2) := propext Or.comm
  simp only [e1, e2]
mutual
theorem equalP_comm (lang : Int) : (v v2 : Val) → equalP lang v v2 = equalP lang v2 v
  | .mk k b n t x l, .mk k2 b2 n2 t2 x2 l2 => by
    unfold equalP
    have e1 : (k = 0 ∨ k2 = 0) = (k2 = 0 ∨ k = 0) := propext Or.comm
    have e2 : (numB k = true ∧ numB k2 = true) = (numB k2 = true ∧ numB k = true) := propext And.comm
    have e3 : (graphB k || (graphB k2 || (openP k k2 (sameP (.mk k b n t x l) (.mk k2 b2 n2 t2 x2 l2)) || openP k2 k (sameP (.mk k2 b2 n2 t2 x2 l2) (.mk k b n t x l))))) =
        (graphB k2 || (graphB k || (openP k2 k (sameP (.mk k2 b2 n2 t2 x2 l2) (.mk k b n t x l)) || openP k k2 (sameP (.mk k b n t x l) (.mk k2 b2 n2 t2 x2 l2))))) := by
      cases graphB k <;> cases graphB k2 <;> simp [Bool.or_comm]
    have e4 : (k = 5 ∧ k2 = 5) = (k2 = 5 ∧ k = 5) := propext And.comm
    have e5 : (if l.length = l2.length then eachEqual lang l l2 else 0) = (if l2.length = l.length then eachEqual lang l2 l else 0) := by
      by_cases h : l.length = l2.length
      · rw [if_pos h, if_pos h.symm, eachEqual_comm lang l l2]
      · rw [if_neg h, if_neg (fun e => h e.symm)]
    rw [e3, e5, cmpZ_comm0, sameP_comm (.mk k b n t x l) (.mk k2 b2 n2 t2 x2 l2)]
    simp only [e1, e2, e4]
theorem eachEqual_comm (lang : Int) : (l l2 : List Val) → eachEqual lang l l2 = eachEqual lang l2 l
  | [], [] => rfl
  | [], _ :: _ => by unfold eachEqual; rfl
  | _ :: _, [] => by unfold eachEqual; rfl
  | v :: r, v2 :: r2 => by
    unfold eachEqual
    rw [equalP_comm lang v v2, eachEqual_comm lang r r2]
end
theorem andE_ne {a b : Int} (h : a ≠ 0) (g : b ≠ 0) : andE a b ≠ 0 := by
  unfold andE
  rw [if_neg (by omega)]
  split <;> omega
theorem cmpZ_self (a : Int) : cmpZ a a = 0 := by unfold cmpZ; simp
mutual
theorem equalP_self (lang : Int) : (v : Val) → equalP lang v v ≠ 0
  | .mk k b n t x l => by
    unfold equalP
    split
    · omega
    · split
      · rw [cmpZ_self]; decide
      · split
        · omega
        · split
          · rw [if_pos rfl]; exact eachEqual_self lang l
          · rw [sameP_refl]; decide
theorem eachEqual_self (lang : Int) : (l : List Val) → eachEqual lang l l ≠ 0
  | [] => by unfold eachEqual; omega
  | v :: r => by
    unfold eachEqual
    exact andE_ne (equalP_self lang v) (eachEqual_self lang r)
end
theorem equalP_plain (lang : Int) (k : Int) (b : Bool) (n : Int) (t x : ByteArray) (l : List Val) (h1 : 1 ≤ k) (h4 : k ≤ 4) : equalP lang (.mk k b n t x l) (.mk k b n t x l) = 1 := by
  unfold equalP
  rw [if_neg (by omega)]
  split
  · rw [cmpZ_self]; rfl
  · have g : graphB k = false := by unfold graphB; simp; omega
    have o : openP k k (sameP (.mk k b n t x l) (.mk k b n t x l)) = false := by unfold openP; rw [show (k == 10) = false by simp; omega]; rfl
    rw [if_neg (by rw [g, o]; simp), if_neg (by omega), sameP_refl]
    rfl
end Go.Proofs.YtffbcccbhofbpaaGreatDoor

/- Less of two values, and how it goes with equality. No Go stands here. -/
namespace Go.Proofs.YtffbcccbhofbpaaGreatDoor

/-- The truth value of one value being below another. -/
def lessP : Val → Val → Int
  | .mk k b n t _ _, .mk k2 b2 n2 t2 _ _ =>
    if numB k = true ∧ numB k2 = true then tI (decide (cmpZ (numV k n t) (numV k2 n2 t2) < 0))
    else if k = 4 ∧ k2 = 4 then tI (Op.bytesLess t.toList t2.toList)
    else if k = 1 ∧ k2 = 1 then tI (!b && b2)
    else 2
theorem lessP_mk (k : Int) (b : Bool) (n : Int) (t x : ByteArray) (l : List Val) (k2 : Int) (b2 : Bool) (n2 : Int) (t2 x2 : ByteArray) (l2 : List Val) : lessP (.mk k b n t x l) (.mk k2 b2 n2 t2 x2 l2) =
    if numB k = true ∧ numB k2 = true then tI (decide (cmpZ (numV k n t) (numV k2 n2 t2) < 0)) else if k = 4 ∧ k2 = 4 then tI (Op.bytesLess t.toList t2.toList) else if k = 1 ∧ k2 = 1 then tI (!b && b2) else 2 := rfl
def lessTop (v v2 : Val) : Int := if mayP v 0 && mayP v2 0 then lessP v v2 else 2
/-- Equal, of any two values. -/
def eqTop (lang : Int) (v v2 : Val) : Int := if mayP v 0 && mayP v2 0 then equalP lang v v2 else 2
theorem eqTop_comm (lang : Int) (v v2 : Val) : eqTop lang v v2 = eqTop lang v2 v := by
  unfold eqTop
  rw [Bool.and_comm, equalP_comm]
theorem e3_eqTop (lang : Int) (v v2 : Val) : E3 (eqTop lang v v2) := by
  unfold eqTop
  split
  · exact e3_equal _ _ _
  · exact .inr (.inr rfl)
theorem eqTop_self (lang : Int) (v : Val) : eqTop lang v v ≠ 0 := by
  unfold eqTop
  split
  · exact equalP_self lang v
  · omega
theorem less_irrefl : (l : List UInt8) → Op.bytesLess l l = false
  | [] => rfl
  | a :: x => by
    unfold Op.bytesLess
    rw [less_irrefl x, Bool.and_false, Bool.or_false]
    simp
theorem less_asymm : (l m : List UInt8) → Op.bytesLess l m = true → Op.bytesLess m l = false
  | [], [], h => by cases h
  | [], _ :: _, _ => rfl
  | _ :: _, [], h => by cases h
  | a :: x, b :: y, h => by
    unfold Op.bytesLess at h ⊢
    rw [Bool.or_eq_true, Bool.and_eq_true, decide_eq_true_eq, beq_iff_eq] at h
    rw [Bool.or_eq_false_iff, decide_eq_false_iff_not, Bool.and_eq_false_iff, beq_eq_false_iff_ne]
    rcases h with h | ⟨rfl, h⟩
    · exact ⟨fun g => absurd (UInt8.lt_iff_toNat_lt.1 g) (by have := UInt8.lt_iff_toNat_lt.1 h; omega), .inl (fun e => by rw [e] at h; exact absurd (UInt8.lt_iff_toNat_lt.1 h) (by omega))⟩
    · exact ⟨fun g => absurd (UInt8.lt_iff_toNat_lt.1 g) (by omega), .inr (less_asymm x y h)⟩
theorem tI_one {b : Bool} : tI b = 1 ↔ b = true := by cases b <;> simp [tI]
theorem numB_iff (k : Int) : numB k = true ↔ (k = 2 ∨ k = 3) := by unfold numB; simp
theorem sameP_parts {k : Int} {b : Bool} {n : Int} {t x : ByteArray} {l : List Val} {k2 : Int} {b2 : Bool} {n2 : Int} {t2 x2 : ByteArray} {l2 : List Val} (h : sameP (.mk k b n t x l) (.mk k2 b2 n2 t2 x2 l2) = true) :
    k = k2 ∧ b = b2 ∧ n = n2 ∧ t.toList = t2.toList ∧ x.toList = x2.toList := by
  unfold sameP at h
  simp only [Bool.and_eq_true, beq_iff_eq] at h
  exact ⟨h.1, h.2.1, h.2.2.1, h.2.2.2.1, h.2.2.2.2.1⟩
theorem equal_less (lang : Int) : (v v2 : Val) → equalP lang v v2 = 1 → lessP v v2 ≠ 1
  | .mk k b n t x l, .mk k2 b2 n2 t2 x2 l2, h => by
    unfold equalP at h
    rw [lessP_mk]
    by_cases hn : numB k = true ∧ numB k2 = true
    · have h0 : ¬ (k = 0 ∨ k2 = 0) := by
        have h1 := (numB_iff k).1 hn.1
        have h2 := (numB_iff k2).1 hn.2
        omega
      rw [if_neg h0, if_pos hn, tI_one, beq_iff_eq] at h
      rw [if_pos hn, h]
      decide
    · rw [if_neg hn]
      rw [if_neg hn] at h
      by_cases h4 : k = 4 ∧ k2 = 4
      · rw [if_pos h4]
        obtain ⟨rfl, rfl⟩ := h4
        rw [if_neg (by omega)] at h
        split at h
        · omega
        · rw [if_neg (by omega), tI_one] at h
          obtain ⟨_, _, _, ht, _⟩ := sameP_parts h
          rw [ht, less_irrefl]
          decide
      · rw [if_neg h4]
        by_cases h1 : k = 1 ∧ k2 = 1
        · rw [if_pos h1]
          obtain ⟨rfl, rfl⟩ := h1
          rw [if_neg (by omega)] at h
          split at h
          · omega
          · rw [if_neg (by omega), tI_one] at h
            obtain ⟨_, hb, _⟩ := sameP_parts h
            rw [hb]
            cases b2 <;> decide
        · rw [if_neg h1]; omega
theorem less_back : (v v2 : Val) → lessP v v2 = 1 → lessP v2 v = 0
  | .mk k b n t x l, .mk k2 b2 n2 t2 x2 l2, h => by
    rw [lessP_mk] at h ⊢
    by_cases hn : numB k = true ∧ numB k2 = true
    · rw [if_pos hn, tI_one, decide_eq_true_eq] at h
      rw [if_pos hn.symm, cmpZ_swap, decide_eq_false (by omega)]
      rfl
    · rw [if_neg hn] at h
      rw [if_neg (fun e => hn e.symm)]
      by_cases h4 : k = 4 ∧ k2 = 4
      · rw [if_pos h4, tI_one] at h
        rw [if_pos h4.symm, less_asymm _ _ h]
        rfl
      · rw [if_neg h4] at h
        rw [if_neg (fun e => h4 e.symm)]
        by_cases h1 : k = 1 ∧ k2 = 1
        · rw [if_pos h1, tI_one] at h
          rw [if_pos h1.symm]
          cases b <;> cases b2 <;> first | rfl | (cases h)
        · rw [if_neg h1] at h; omega
theorem eq_lessTop (lang : Int) (v v2 : Val) (h : eqTop lang v v2 = 1) : lessTop v v2 ≠ 1 ∧ lessTop v2 v ≠ 1 := by
  have h' := h
  rw [eqTop_comm] at h'
  unfold eqTop at h h'
  unfold lessTop
  constructor
  · split at h
    · rename_i c
      rw [if_pos c]; exact equal_less lang v v2 h
    · omega
  · split at h'
    · rename_i c
      rw [if_pos c]; exact equal_less lang v2 v h'
    · omega
theorem less_backTop (v v2 : Val) (h : lessTop v v2 = 1) : lessTop v2 v = 0 := by
  unfold lessTop at h ⊢
  split at h
  · rename_i c
    rw [Bool.and_comm] at c
    rw [if_pos c]; exact less_back v v2 h
  · omega
theorem eqTop_plain (lang : Int) (k : Int) (b : Bool) (n : Int) (t x : ByteArray) (l : List Val) (hm : mayP (.mk k b n t x l) 0 = true) (h1 : 1 ≤ k) (h4 : k ≤ 4) : eqTop lang (.mk k b n t x l) (.mk k b n t x l) = 1 := by
  unfold eqTop
  rw [hm, Bool.and_self, if_pos rfl]
  exact equalP_plain lang k b n t x l h1 h4
theorem e3_lessTop (v v2 : Val) : E3 (lessTop v v2) := by
  unfold lessTop
  split
  · cases v; cases v2
    rw [lessP_mk]
    split
    · exact e3_tI _
    · split
      · exact e3_tI _
      · split
        · exact e3_tI _
        · exact .inr (.inr rfl)
  · exact .inr (.inr rfl)
end Go.Proofs.YtffbcccbhofbpaaGreatDoor
