/- Texts of one kind, one behind the other: each says ahead of itself what it shows. -/
import Derived.Test.YtoifjjgakblhhaaGreatDoorHai
import Derived.Test.YtoifjjgakblhhaaGreatDoorHan
import Derived.Test.YtoifjjgakblhhaaGreatDoorHao
import Derived.Test.YtoifjjgakblhhaaGreatDoorHal
import Derived.Maps.AppendAt
import Derived.Shelf.Strconv.Clone
/- What was encoded is decoded as it was: the pure half. -/
namespace Go.Proofs.YtoifjjgakblhhaaGreatDoor

mutual
/-- Each number fits, in all that lies in a value. -/
def fineV : Val → Prop
  | .mk _ _ n t x l => Fine n t x l.length ∧ fineAll l
def fineAll : List Val → Prop
  | [] => True
  | v :: r => fineV v ∧ fineAll r
end
mutual
theorem HoldsOne.fine {w : World} {g off : Nat} : (v : Val) → HoldsOne w g off v → fineV v
  | .mk k b n t x l, h => by
    unfold HoldsOne at h
    obtain ⟨_, _, _, _, _, hf, L, _, hl⟩ := h
    unfold fineV
    exact ⟨hf, Held.fine l hl⟩
theorem Held.fine {w : World} {L : Value} : (l : List Val) → Held w L l → fineAll l
  | [], _ => by unfold fineAll; trivial
  | v :: r, h => by
    unfold Held at h
    obtain ⟨g, off, cap, e, hv, hr⟩ := h
    unfold fineAll
    exact ⟨HoldsOne.fine v hv, Holds.fine r hr⟩
theorem Holds.fine {w : World} {g off : Nat} : (l : List Val) → Holds w g off l → fineAll l
  | [], _ => by unfold fineAll; trivial
  | v :: r, h => by
    unfold Holds at h
    unfold fineAll
    exact ⟨HoldsOne.fine v h.1, Holds.fine r h.2⟩
end
theorem fine_mem : {l : List Val} → {v : Val} → fineAll l → v ∈ l → fineV v
  | [], _, _, h => absurd h (by simp)
  | u :: r, v, hf, h => by
    unfold fineAll at hf
    rcases List.mem_cons.1 h with h | h
    · rw [h]; exact hf.1
    · exact fine_mem hf.2 h
theorem toI64_be (n : Int) (h1 : -9223372036854775808 ≤ n) (h2 : n ≤ 9223372036854775807) : toI64 (numW (beB n 8)) = n := by
  have h := numW_be n 8
  rw [show (256 : Int) ^ 8 = 18446744073709551616 from rfl] at h
  generalize numW (beB n 8) = m at h ⊢
  unfold toI64
  split <;> omega
theorem take_app {a b : List UInt8} {k : Nat} (h : a.length = k) : (a ++ b).take k = a := by subst h; exact List.take_left
theorem drop_app {a b : List UInt8} {k : Nat} (h : a.length = k) : (a ++ b).drop k = b := by subst h; exact List.drop_left
theorem rdT_len (t : ByteArray) (r : List UInt8) (ht : t.size ≤ 1048576) : rdT (lenB t ++ r) = some (t, r) := by
  unfold rdT lenB
  have e1 : (beB t.size 4 ++ txtB t ++ r).take 4 = beB t.size 4 := by rw [List.append_assoc]; exact take_app (beB_length _ _)
  have e2 : (beB t.size 4 ++ txtB t ++ r).drop 4 = txtB t ++ r := by rw [List.append_assoc]; exact drop_app (beB_length _ _)
  have e3 : numW (beB t.size 4) = t.size := by
    have h := numW_be t.size 4
    rw [show (256 : Int) ^ 4 = 4294967296 from rfl] at h
    omega
  rw [e1, e2, e3, if_pos ⟨by rw [List.length_append, List.length_append, beB_length]; omega, ht, by rw [List.length_append, txtB_length]; omega⟩, take_app (txtB_length t), drop_app (txtB_length t)]
  rfl
theorem e0 {t : ByteArray} (h : t.size = 0) : t = E0 := by
  have : t.data = #[] := Array.size_eq_zero_iff.1 h
  cases t
  simp only at this
  subst this
  rfl
theorem bare_parts {b : Bool} {n : Int} {t x : ByteArray} {len : Nat} (h : bareP b n t x len = true) : b = false ∧ n = 0 ∧ t.size = 0 ∧ x.size = 0 ∧ len = 0 := by
  unfold bareP at h
  simp only [Bool.and_eq_true, decide_eq_true_eq, Bool.not_eq_true'] at h
  obtain ⟨⟨⟨⟨h1, h2⟩, h3⟩, h4⟩, h5⟩ := h
  exact ⟨h1, h2, h3, h4, h5⟩
theorem kindB (k : Int) (h0 : 0 ≤ k) (h1 : k ≤ 10) : (byteOf k 0).toNat = k.toNat := by
  have h := byteOf_int k 0
  rw [show (2 : Int) ^ (8 * 0) = 1 from rfl, Int.ediv_one] at h
  omega
theorem nil_of {l : List Val} (h : l.length = 0) : l = [] := List.length_eq_zero_iff.1 h
theorem chk_size {t : ByteArray} (h : chk t.data.toList = true) : t.size ≤ 1048576 := by
  have := chk_len h
  rw [Array.length_toList] at this
  have e : t.data.size = t.size := rfl
  omega
theorem addr_size {t : ByteArray} (h : addrP t = true) : t.size ≤ 1048576 := by
  unfold addrP at h
  exact (of_decide_eq_true h).2.1
theorem name_size {t : ByteArray} (h : nameP t = true) : t.size ≤ 1048576 := by
  unfold nameP at h
  have := (of_decide_eq_true h).2.1
  omega
/-- What was encoded is read again, whatever lies behind it. -/
def Again (v : Val) : Prop := ∀ (d : Nat) (r : List UInt8), d ≤ 60 → fineV v → mayP v d = true → rdV (60 - d) (encP v ++ r) = some (v, r)
theorem again_list (d : Nat) (hd : d ≤ 60) : (q : List Val) → (∀ v ∈ q, Again v) → fineAll q → eachP q d = true → ∀ r, rdL (rdV (60 - d)) q.length (encAll q ++ r) = some (q, r)
  | [], _, _, _, r => by simp [rdL, encAll]
  | v :: q, hA, hf, hm, r => by
    unfold fineAll at hf
    unfold eachP at hm
    rw [Bool.and_eq_true] at hm
    have h1 := hA v (by simp) d (encAll q ++ r) hd hf.1 hm.1
    have h2 := again_list d hd q (fun u hu => hA u (List.mem_cons_of_mem _ hu)) hf.2 hm.2 r
    rw [List.length_cons]
    unfold rdL encAll
    rw [List.append_assoc, h1]
    simp only
    rw [h2]
theorem rdV_cons (f : Nat) (c : UInt8) (r : List UInt8) : rdV f (c :: r) = rdK (if f = 0 then none else some (rdV (f - 1))) c.toNat r := by
  cases f with
  | zero => rfl
  | succ f => rfl
theorem againStep (v : Val) (k : Int) (b : Bool) (n : Int) (t x : ByteArray) (q : List Val) (ev : v = .mk k b n t x q) (each : ∀ u ∈ q, Again u) : Again v := by
  subst ev
  intro d r hd hf hm
  unfold fineV at hf
  obtain ⟨hf, hfa⟩ := hf
  unfold mayP fitsP at hm
  unfold encP
  rw [List.cons_append, rdV_cons]
  split at hm
  · rename_i hk
    subst hk
    obtain ⟨rfl, rfl, ht, hx, hq⟩ := bare_parts hm
    rw [e0 ht, e0 hx, nil_of hq, kindB 0 (by decide) (by decide)]
    rfl
  split at hm
  · rename_i _ hk
    subst hk
    obtain ⟨_, rfl, ht, hx, hq⟩ := bare_parts hm
    rw [e0 ht, e0 hx, nil_of hq, kindB 1 (by decide) (by decide)]
    cases b <;> rfl
  split at hm
  · rename_i _ _ hk
    subst hk
    obtain ⟨rfl, _, ht, hx, hq⟩ := bare_parts hm
    rw [e0 ht, e0 hx, nil_of hq, kindB 2 (by decide) (by decide)]
    have h8 : (beB n 8 ++ r).take 8 = beB n 8 := take_app (beB_length _ _)
    have h9 : (beB n 8 ++ r).drop 8 = r := drop_app (beB_length _ _)
    show (if 8 ≤ (beB n 8 ++ r).length then some (Val.mk 2 false (toI64 (numW ((beB n 8 ++ r).take 8))) E0 E0 [], (beB n 8 ++ r).drop 8) else none) = _
    rw [if_pos (by rw [List.length_append, beB_length]; omega), h8, h9, toI64_be n hf.lo hf.hi]
  split at hm
  · rename_i _ _ _ hk
    subst hk
    rw [Bool.and_eq_true] at hm
    obtain ⟨hc, hm⟩ := hm
    obtain ⟨rfl, rfl, _, hx, hq⟩ := bare_parts hm
    rw [e0 hx, nil_of hq, kindB 3 (by decide) (by decide)]
    show (match rdT (lenB t ++ r) with | none => none | some (t, r') => some (Val.mk 3 false 0 t E0 [], r')) = _
    rw [rdT_len t r (chk_size hc)]
  split at hm
  · rename_i _ _ _ _ hk
    subst hk
    rw [Bool.and_eq_true] at hm
    obtain ⟨hc, hm⟩ := hm
    obtain ⟨rfl, rfl, _, hx, hq⟩ := bare_parts hm
    rw [e0 hx, nil_of hq, kindB 4 (by decide) (by decide)]
    show (match rdT (lenB t ++ r) with | none => none | some (t, r') => some (Val.mk 4 false 0 t E0 [], r')) = _
    rw [rdT_len t r (of_decide_eq_true hc)]
  split at hm
  · rename_i _ _ _ _ _ hk
    subst hk
    rw [Bool.and_eq_true, Bool.and_eq_true, Bool.and_eq_true] at hm
    obtain ⟨⟨⟨hl, hdd⟩, he⟩, hm⟩ := hm
    obtain ⟨rfl, rfl, ht, hx, _⟩ := bare_parts hm
    have hl := of_decide_eq_true hl
    have hdd := of_decide_eq_true hdd
    rw [e0 ht, e0 hx, kindB 5 (by decide) (by decide), if_neg (show ¬60 - d = 0 by omega)]
    have h4 : (beB q.length 4 ++ encAll q ++ r).take 4 = beB q.length 4 := by rw [List.append_assoc]; exact take_app (beB_length _ _)
    have h5 : (beB q.length 4 ++ encAll q ++ r).drop 4 = encAll q ++ r := by rw [List.append_assoc]; exact drop_app (beB_length _ _)
    have h6 : numW (beB q.length 4) = q.length := by
      have h := numW_be q.length 4
      rw [show (256 : Int) ^ 4 = 4294967296 from rfl] at h
      omega
    have h7 := again_list (d + 1) hdd q each hfa he r
    rw [show 60 - (d + 1) = 60 - d - 1 by omega] at h7
    show (if 4 ≤ (beB q.length 4 ++ encAll q ++ r).length ∧ numW ((beB q.length 4 ++ encAll q ++ r).take 4) ≤ 4096 then (match rdL (rdV (60 - d - 1)) (numW ((beB q.length 4 ++ encAll q ++ r).take 4)) ((beB q.length 4 ++ encAll q ++ r).drop 4) with | none => none | some (q, r') => some (Val.mk 5 false 0 E0 E0 q, r')) else none) = _
    rw [h4, h5, h6, if_pos ⟨by rw [List.length_append, List.length_append, beB_length]; omega, hl⟩, h7]
  split at hm
  · rename_i _ _ _ _ _ _ hk
    rw [Bool.and_eq_true] at hm
    obtain ⟨_, hm⟩ := hm
    obtain ⟨rfl, _, ht, hx, hq⟩ := bare_parts hm
    have h8 : (beB n 8 ++ r).take 8 = beB n 8 := take_app (beB_length _ _)
    have h9 : (beB n 8 ++ r).drop 8 = r := drop_app (beB_length _ _)
    rcases hk with hk | hk
    · subst hk
      rw [e0 ht, e0 hx, nil_of hq, kindB 6 (by decide) (by decide)]
      show (if 8 ≤ (beB n 8 ++ r).length then some (Val.mk 6 false (toI64 (numW ((beB n 8 ++ r).take 8))) E0 E0 [], (beB n 8 ++ r).drop 8) else none) = _
      rw [if_pos (by rw [List.length_append, beB_length]; omega), h8, h9, toI64_be n hf.lo hf.hi]
    · subst hk
      rw [e0 ht, e0 hx, nil_of hq, kindB 7 (by decide) (by decide)]
      show (if 8 ≤ (beB n 8 ++ r).length then some (Val.mk 7 false (toI64 (numW ((beB n 8 ++ r).take 8))) E0 E0 [], (beB n 8 ++ r).drop 8) else none) = _
      rw [if_pos (by rw [List.length_append, beB_length]; omega), h8, h9, toI64_be n hf.lo hf.hi]
  split at hm
  · rename_i _ _ _ _ _ _ _ hk
    subst hk
    rw [Bool.and_eq_true] at hm
    obtain ⟨hc, hm⟩ := hm
    obtain ⟨rfl, rfl, _, hx, hq⟩ := bare_parts hm
    rw [e0 hx, nil_of hq, kindB 8 (by decide) (by decide)]
    show (match rdT (lenB t ++ r) with | none => none | some (t, r') => some (Val.mk 8 false 0 t E0 [], r')) = _
    rw [rdT_len t r (addr_size hc)]
  split at hm
  · rename_i _ _ _ _ _ _ _ _ hk
    subst hk
    rw [Bool.and_eq_true] at hm
    obtain ⟨hc, hm⟩ := hm
    obtain ⟨rfl, rfl, _, hx, hq⟩ := bare_parts hm
    rw [e0 hx, nil_of hq, kindB 9 (by decide) (by decide)]
    show (match rdT (lenB t ++ r) with | none => none | some (t, r') => some (Val.mk 9 false 0 t E0 [], r')) = _
    rw [rdT_len t r (name_size hc)]
  split at hm
  · rename_i _ _ _ _ _ _ _ _ _ hk
    subst hk
    rw [Bool.and_eq_true, Bool.and_eq_true] at hm
    obtain ⟨ht, hc, hm⟩ := hm
    obtain ⟨rfl, rfl, _, _, hq⟩ := bare_parts hm
    rw [nil_of hq, kindB 10 (by decide) (by decide)]
    show (match rdT (lenB t ++ lenB x ++ r) with | none => none | some (t, r') => (match rdT r' with | none => none | some (x, r'') => some (Val.mk 10 false 0 t x [], r''))) = _
    rw [List.append_assoc, rdT_len t _ (of_decide_eq_true ht)]
    simp only
    rw [rdT_len x r (addr_size hc)]
  · cases hm
mutual
theorem againVal : (v : Val) → Again v
  | .mk k b n t x q => againStep _ k b n t x q rfl (againEach q)
theorem againEach : (q : List Val) → ∀ u ∈ q, Again u
  | [], _, h => absurd h (by simp)
  | v :: r, u, h => by
    rcases List.mem_cons.1 h with h | h
    · rw [h]; exact againVal v
    · exact againEach r u h
end
/-- What was encoded is decoded as it was. -/
theorem dec_enc (v : Val) (hf : fineV v) (hm : mayP v 0 = true) : decP (encP v) = some v := by
  have h := againVal v 0 [] (by omega) hf hm
  rw [List.append_nil] at h
  unfold decP
  rw [show (60 : Nat) - 0 = 60 from rfl] at h
  rw [h]
  simp only
  rw [if_pos hm]
/-- A byte more is refused. -/
theorem dec_more (v : Val) (hf : fineV v) (hm : mayP v 0 = true) (c : UInt8) : decP (encP v ++ [c]) = none := by
  have h := againVal v 0 [c] (by omega) hf hm
  unfold decP
  rw [show (60 : Nat) - 0 = 60 from rfl] at h
  rw [h]
/-- A byte less is refused. -/
theorem dec_less (v : Val) (hf : fineV v) (hm : mayP v 0 = true) (l : List UInt8) (c : UInt8) (e : encP v = l ++ [c]) : decP l = none := by
  have h := againVal v 0 [] (by omega) hf hm
  rw [List.append_nil, show (60 : Nat) - 0 = 60 from rfl] at h
  unfold decP
  cases hr : rdV 60 l with
  | none => rfl
  | some p =>
    obtain ⟨u, s⟩ := p
    cases s with
    | cons a s => rfl
    | nil =>
      have h2 := rdV_ext 60 l [c] u [] hr
      rw [← e, h] at h2
      simp at h2
/-- Unlike values have unlike bytes. -/
theorem enc_inj (v u : Val) (hf : fineV v) (hm : mayP v 0 = true) (hf2 : fineV u) (hm2 : mayP u 0 = true) (h : encP v = encP u) : v = u := by
  have h1 := dec_enc v hf hm
  have h2 := dec_enc u hf2 hm2
  rw [h, h2] at h1
  exact (Option.some.inj h1).symm
mutual
theorem same_eq : (v u : Val) → sameP v u = true → v = u
  | .mk k b n t x l, .mk k2 b2 n2 t2 x2 l2, h => by
    unfold sameP at h
    simp only [Bool.and_eq_true, beq_iff_eq] at h
    obtain ⟨rfl, rfl, rfl, ht, hx, hl, he⟩ := h
    rw [toList_eq, toList_eq] at ht hx
    have e1 : t = t2 := by cases t; cases t2; simp only at ht; rw [Array.toList_inj.1 ht]
    have e2 : x = x2 := by cases x; cases x2; simp only at hx; rw [Array.toList_inj.1 hx]
    rw [e1, e2, eachSame_eq l l2 hl he]
theorem eachSame_eq : (l l2 : List Val) → l.length = l2.length → eachSame l l2 = true → l = l2
  | [], [], _, _ => rfl
  | [], _ :: _, h, _ => absurd h (by simp)
  | _ :: _, [], h, _ => absurd h (by simp)
  | v :: r, u :: s, h, he => by
    unfold eachSame at he
    rw [Bool.and_eq_true] at he
    rw [same_eq v u he.1, eachSame_eq r s (by simpa using h) he.2]
end
end Go.Proofs.YtoifjjgakblhhaaGreatDoor

/- Values in one another, in blocks of one's own: where they lie, said with the blocks that hold them; a row of values that one owns. -/
namespace Go.Proofs.YtoifjjgakblhhaaGreatDoor
open Go.RowKit

mutual
/-- A value's six cells lie from off on; all lists in it lie in blocks of P. -/
def HoldsOneF (w : World) (P : Nat → Prop) (g off : Nat) : Val → Prop
  | .mk k b n t x l => w.cell? ⟨g, off, none⟩ = some (.int .i64 k) ∧ w.cell? ⟨g, off + 1, none⟩ = some (.bool b) ∧ w.cell? ⟨g, off + 2, none⟩ = some (.int .i64 n) ∧
    w.cell? ⟨g, off + 3, none⟩ = some (.string t) ∧ w.cell? ⟨g, off + 4, none⟩ = some (.string x) ∧ Fine n t x l.length ∧
    ∃ L, w.cell? ⟨g, off + 5, none⟩ = some L ∧ HeldF w P L l
/-- A slice whose elements are these, in blocks of P. -/
def HeldF (w : World) (P : Nat → Prop) (L : Value) : List Val → Prop
  | [] => ∃ p cap, L = .slice p 0 cap
  | v :: r => ∃ g off cap, L = .slice (some ⟨g, off, none⟩) (r.length + 1) cap ∧ P g ∧ HoldsOneF w P g off v ∧ HoldsF w P g (off + 6) r
/-- Values one behind the other from off on; all lists in them lie in blocks of P. -/
def HoldsF (w : World) (P : Nat → Prop) (g off : Nat) : List Val → Prop
  | [] => True
  | v :: r => HoldsOneF w P g off v ∧ HoldsF w P g (off + 6) r
end
mutual
theorem HoldsOneF.held {w : World} {P : Nat → Prop} {g off : Nat} : (v : Val) → HoldsOneF w P g off v → HoldsOne w g off v
  | .mk k b n t x l, h => by
    unfold HoldsOneF at h
    unfold HoldsOne
    obtain ⟨h0, h1, h2, h3, h4, hf, L, h5, hl⟩ := h
    exact ⟨h0, h1, h2, h3, h4, hf, L, h5, HeldF.held l hl⟩
theorem HeldF.held {w : World} {P : Nat → Prop} {L : Value} : (l : List Val) → HeldF w P L l → Held w L l
  | [], h => by
    unfold HeldF at h
    unfold Held
    exact h
  | v :: r, h => by
    unfold HeldF at h
    unfold Held
    obtain ⟨g, off, cap, e, _, hv, hr⟩ := h
    exact ⟨g, off, cap, e, HoldsOneF.held v hv, HoldsF.held r hr⟩
theorem HoldsF.held {w : World} {P : Nat → Prop} {g off : Nat} : (l : List Val) → HoldsF w P g off l → Holds w g off l
  | [], _ => by unfold Holds; trivial
  | v :: r, h => by
    unfold HoldsF at h
    unfold Holds
    exact ⟨HoldsOneF.held v h.1, HoldsF.held r h.2⟩
end
/-- All blocks of P are blocks of P', and are as they were. -/
def Stays (P P' : Nat → Prop) (w w' : World) : Prop := ∀ g, P g → P' g ∧ w'.heap[g]? = w.heap[g]?
theorem Stays.cell {P P' : Nat → Prop} {w w' : World} (h : Stays P P' w w') {g : Nat} (hg : P g) (o : Nat) {v : Value} (hv : w.cell? ⟨g, o, none⟩ = some v) : w'.cell? ⟨g, o, none⟩ = some v :=
  (World.cell?_of_block (w := w) (a := ⟨g, o, none⟩) (h g hg).2).trans hv
mutual
theorem HoldsOneF.stays {w w' : World} {P P' : Nat → Prop} {g off : Nat} (s : Stays P P' w w') (hg : P g) : (v : Val) → HoldsOneF w P g off v → HoldsOneF w' P' g off v
  | .mk k b n t x l, h => by
    unfold HoldsOneF at h ⊢
    obtain ⟨h0, h1, h2, h3, h4, hf, L, h5, hl⟩ := h
    exact ⟨s.cell hg _ h0, s.cell hg _ h1, s.cell hg _ h2, s.cell hg _ h3, s.cell hg _ h4, hf, L, s.cell hg _ h5, HeldF.stays s l hl⟩
theorem HeldF.stays {w w' : World} {P P' : Nat → Prop} {L : Value} (s : Stays P P' w w') : (l : List Val) → HeldF w P L l → HeldF w' P' L l
  | [], h => by
    unfold HeldF at h ⊢
    exact h
  | v :: r, h => by
    unfold HeldF at h ⊢
    obtain ⟨g, off, cap, e, hg, hv, hr⟩ := h
    exact ⟨g, off, cap, e, (s g hg).1, HoldsOneF.stays s hg v hv, HoldsF.stays s hg r hr⟩
theorem HoldsF.stays {w w' : World} {P P' : Nat → Prop} {g off : Nat} (s : Stays P P' w w') (hg : P g) : (l : List Val) → HoldsF w P g off l → HoldsF w' P' g off l
  | [], _ => by unfold HoldsF; trivial
  | v :: r, h => by
    unfold HoldsF at h ⊢
    exact ⟨HoldsOneF.stays s hg v h.1, HoldsF.stays s hg r h.2⟩
end
/-- Cells, six a value; all lists in them lie in blocks of P. -/
def CellsF (w : World) (P : Nat → Prop) : List Value → List Val → Prop
  | xs, [] => xs = []
  | xs, .mk k b n t x q :: r => ∃ L ys, xs = .int .i64 k :: .bool b :: .int .i64 n :: .string t :: .string x :: L :: ys ∧ Fine n t x q.length ∧ HeldF w P L q ∧ CellsF w P ys r
theorem CellsF.append {w : World} {P : Nat → Prop} : {xs ys : List Value} → (l r : List Val) → CellsF w P xs l → CellsF w P ys r → CellsF w P (xs ++ ys) (l ++ r)
  | _, _, [], _, h, g => by
    unfold CellsF at h
    subst h
    exact g
  | _, _, .mk k b n t x q :: l, r, h, g => by
    unfold CellsF at h
    obtain ⟨L, zs, rfl, hf, hq, hr⟩ := h
    show CellsF w P _ (.mk k b n t x q :: (l ++ r))
    unfold CellsF
    exact ⟨L, _, rfl, hf, hq, CellsF.append l r hr g⟩
theorem CellsF.stays {w w' : World} {P P' : Nat → Prop} (s : Stays P P' w w') : {xs : List Value} → (l : List Val) → CellsF w P xs l → CellsF w' P' xs l
  | _, [], h => by unfold CellsF at h ⊢; exact h
  | _, .mk k b n t x q :: l, h => by
    unfold CellsF at h ⊢
    obtain ⟨L, zs, rfl, hf, hq, hr⟩ := h
    exact ⟨L, zs, rfl, hf, HeldF.stays s q hq, CellsF.stays s l hr⟩
theorem CellsF.one {w : World} {P : Nat → Prop} {k : Int} {b : Bool} {n : Int} {t x : ByteArray} {q : List Val} {L : Value} (hf : Fine n t x q.length) (hq : HeldF w P L q) : CellsF w P [.int .i64 k, .bool b, .int .i64 n, .string t, .string x, L] [.mk k b n t x q] := by
  unfold CellsF
  exact ⟨L, [], rfl, hf, hq, by unfold CellsF; rfl⟩
theorem CellsF.cells1 {w : World} {P : Nat → Prop} : {xs : List Value} → (l : List Val) → CellsF w P xs l → ∀ u ∈ xs, u.oneCell' = true
  | _, [], h, u, hu => by
    unfold CellsF at h
    subst h
    cases hu
  | _, .mk k b n t x q :: l, h, u, hu => by
    unfold CellsF at h
    obtain ⟨L, zs, rfl, hf, hq, hr⟩ := h
    obtain ⟨p, cap, rfl⟩ := held_slice (HeldF.held q hq)
    simp only [List.mem_cons] at hu
    rcases hu with rfl | rfl | rfl | rfl | rfl | rfl | hu
    all_goals first | rfl | exact CellsF.cells1 l hr u hu
theorem CellsF.holds {w : World} {P : Nat → Prop} {g : Nat} : {xs : List Value} → (l : List Val) → (off : Nat) → CellsF w P xs l → (∀ (j : Nat) u, xs[j]? = some u → w.cell? ⟨g, off + j, none⟩ = some u) → HoldsF w P g off l
  | _, [], _, _, _ => by unfold HoldsF; trivial
  | _, .mk k b n t x q :: l, off, h, hc => by
    unfold CellsF at h
    obtain ⟨L, zs, rfl, hf, hq, hr⟩ := h
    unfold HoldsF HoldsOneF
    refine ⟨⟨hc 0 _ rfl, hc 1 _ rfl, hc 2 _ rfl, hc 3 _ rfl, hc 4 _ rfl, hf, L, hc 5 _ rfl, hq⟩, CellsF.holds l (off + 6) hr fun j u hj => ?_⟩
    have := hc (j + 6) u hj
    rw [show off + 6 + j = off + (j + 6) by omega]
    exact this
/-- A row that one owns, of these values, whose lists lie elsewhere, in blocks of P: it is held. -/
theorem heldF_of_own {w : World} {base : Nat} {P P' : Nat → Prop} {V : Value} {xs : List Value} {l : List Val} (h : w.ownsRow base 28 6 V l.length xs) (c : CellsF w P xs l) (s : ∀ g, P g → P' g) (hP : ∀ g, V.ownBlock = some g → P' g) : HeldF w P' V l := by
  have c' : CellsF w P' xs l := c.stays (fun g hg => ⟨s g hg, rfl⟩) l
  rcases h.2 with ⟨rfl, hn⟩ | ⟨g, cap, cur, rfl, hb, hg, hcap, _, hsz, htk⟩
  · obtain rfl := List.length_eq_zero_iff.1 hn
    unfold HeldF
    exact ⟨none, 0, rfl⟩
  · have hh : HoldsF w P' g 0 l := c'.holds l 0 fun j u hj => by
      have e : cur[j]? = some u := by
        rw [← htk, List.getElem?_take] at hj
        split at hj
        · rw [← Array.getElem?_toList]; exact hj
        · cases hj
      rw [Nat.zero_add]
      exact cell_of hg j e
    cases l with
    | nil =>
      unfold HeldF
      exact ⟨_, cap, rfl⟩
    | cons v r =>
      unfold HoldsF at hh
      unfold HeldF
      exact ⟨g, 0, cap, rfl, hP g rfl, hh.1, hh.2⟩
end Go.Proofs.YtoifjjgakblhhaaGreatDoor

/- The library's copying of a string, by the library's own contract. -/
namespace Go.Proofs
open Go.Shelf
def Tryz.laysM316_ren : Go.Shelf.Ren := ⟨fun | 316 => 179 | n => n, fun | 9 => 9 | 3 => 3 | 4 => 4 | 37 => 40 | 0 => 0 | 127 => 181 | 5 => 5 | n => n, fun | n => n⟩
theorem Tryz.laysM316 : Go.Proofs.LaysM.n316 Tryz.prog Tryz.laysM316_ren := {
  mixed := by kernel_rfl
  f316 := Tryz.func179.trans (congrArg some (by kernel_rfl))
  t0 := Tryz.underlying0
  a0 := Tryz.isAgg0
  z0 := Tryz.sizeOf0
  v0 := Tryz.zeroValue0
  t3 := Tryz.underlying3
  a3 := Tryz.isAgg3
  z3 := Tryz.sizeOf3
  v3 := Tryz.zeroValue3
  t4 := Tryz.underlying4
  a4 := Tryz.isAgg4
  z4 := Tryz.sizeOf4
  v4 := Tryz.zeroValue4
  t9 := Tryz.underlying9
  a9 := Tryz.isAgg9
  z9 := Tryz.sizeOf9
  v9 := Tryz.zeroValue9
  t37 := Tryz.underlying40
  a37 := Tryz.isAgg40
  z37 := Tryz.sizeOf40
  v37 := Tryz.zeroValue40
  t127 := Tryz.underlying181
  a127 := Tryz.isAgg181
  z127 := Tryz.sizeOf181
  v127 := Tryz.zeroValue181
  t5 := Tryz.underlying5
  a5 := Tryz.isAgg5
  z5 := Tryz.sizeOf5
  v5 := Tryz.zeroValue5
  i0 := by kernel_rfl
  i3 := by kernel_rfl
  i4 := by kernel_rfl
  i5 := by kernel_rfl
  i9 := by kernel_rfl
  i37 := by kernel_rfl
  i127 := by kernel_rfl }
namespace YtoifjjgakblhhaaGreatDoor
open Go.RowKit
theorem slClone (s : ByteArray) (w : World) (h2 : s.size ≤ 281474976710656) : Calls Tryz.prog 179 #[.string s] w fun e w' => e = .returned (.string s) ∧ Below w.heap.size w w' := Any.stringslite_Clone Tryz.laysM316 s w h2
theorem cloneAt (s : ByteArray) (w : World) (h2 : s.size ≤ 281474976710656) :
    Calls Tryz.prog 158 #[.string s] w fun e w' => e = .returned (.string s) ∧ Below w.heap.size w w' := by
  go_enter Tryz.func158, Tryz.ntmps158
  go_wp2_with (go_at_call 179; (with_reducible refine (slClone s _ h2).mono ?_); rintro e w' ⟨rfl, hb⟩)
  go_ret
  exact ⟨rfl, hb⟩
end YtoifjjgakblhhaaGreatDoor
end Go.Proofs
