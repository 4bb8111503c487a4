/- Texts of one kind, one behind the other: each says ahead of itself what it shows. -/
import Derived.Test.YtdnijfkiebpnpaaGreatDoorHai
import Derived.StillTailTactics
/- Whether two values are equal: what is asked; lists, one by one. -/
namespace Go.Proofs.YtdnijfkiebpnpaaGreatDoor
open Go.RowKit

theorem Opens.below {w w' : World} {g off : Nat} {v : Val} {k : Int} {b : Bool} {n : Int} {t x : ByteArray} {q : List Val} {p : Option Addr} {cap : Nat} (o : Opens w g off v k b n t x q p cap) (h : Below w.heap.size w w') : Opens w' g off v k b n t x q p cap := by
  have hg := World.block_lt_of_cell? w _ o.c0
  exact ⟨o.e, (h.cell (p := ⟨g, off, none⟩) hg).trans o.c0, (h.cell (p := ⟨g, off + 1, none⟩) hg).trans o.c1, (h.cell (p := ⟨g, off + 2, none⟩) hg).trans o.c2, (h.cell (p := ⟨g, off + 3, none⟩) hg).trans o.c3,
    (h.cell (p := ⟨g, off + 4, none⟩) hg).trans o.c4, (h.cell (p := ⟨g, off + 5, none⟩) hg).trans o.c5, o.hf, Held.below q o.hl h⟩
theorem Opens.range {w : World} {g off : Nat} {v : Val} {k : Int} {b : Bool} {n : Int} {t x : ByteArray} {q : List Val} {p : Option Addr} {cap : Nat} (o : Opens w g off v k b n t x q p cap) : w.rangeAt g off [.int .i64 k, .bool b, .int .i64 n, .string t, .string x, .slice p q.length cap] :=
  range6 o.c0 o.c1 o.c2 o.c3 o.c4 o.c5
def tI (b : Bool) : Int := if b then 1 else 0
theorem truthT (b : Bool) (w : World) : Calls Tryz.prog 49 #[.bool b] w fun e w' => e = .returned (.int .i64 (tI b)) ∧ w' = w :=
  (truthOfAt b w).mono fun e w' ⟨h, h2⟩ => ⟨h, h2.symm⟩
def andE (a b : Int) : Int := if a = 0 ∨ b = 0 then 0 else if a = 2 ∨ b = 2 then 2 else 1
def graphB (k : Int) : Bool := k == 5 || k == 6 || k == 7
mutual
/-- The truth value of two values being equal. -/
def equalP (lang : Int) : Val → Val → Int
  | .mk k b n t x l, .mk k2 b2 n2 t2 x2 l2 =>
    if k = 0 ∨ k2 = 0 then 2
    else if numB k = true ∧ numB k2 = true then tI (cmpZ (numV k n t) (numV k2 n2 t2) == 0)
    else if lang = 1 ∧ (graphB k || (graphB k2 || (openP k k2 (sameP (.mk k b n t x l) (.mk k2 b2 n2 t2 x2 l2)) || openP k2 k (sameP (.mk k2 b2 n2 t2 x2 l2) (.mk k b n t x l))))) = true then 2
    else if k = 5 ∧ k2 = 5 then (if l.length = l2.length then eachEqual lang l l2 else 0)
    else tI (sameP (.mk k b n t x l) (.mk k2 b2 n2 t2 x2 l2))
def eachEqual (lang : Int) : List Val → List Val → Int
  | v :: r, v2 :: r2 => andE (equalP lang v v2) (eachEqual lang r r2)
  | _, _ => 1
end
def E3 (a : Int) : Prop := a = 0 ∨ a = 1 ∨ a = 2
theorem e3_tI (b : Bool) : E3 (tI b) := by cases b <;> simp [tI, E3]
theorem e3_and (a b : Int) : E3 (andE a b) := by unfold andE; split <;> (try split) <;> simp [E3]
theorem e3_each (lang : Int) (l l2 : List Val) : E3 (eachEqual lang l l2) := by
  cases l with
  | nil => unfold eachEqual; exact .inr (.inl rfl)
  | cons v r =>
    cases l2 with
    | nil => unfold eachEqual; exact .inr (.inl rfl)
    | cons v2 r2 => unfold eachEqual; exact e3_and _ _
theorem e3_equal (lang : Int) (v v2 : Val) : E3 (equalP lang v v2) := by
  cases v with
  | mk k b n t x l =>
    cases v2 with
    | mk k2 b2 n2 t2 x2 l2 =>
      unfold equalP
      split
      · exact .inr (.inr rfl)
      · split
        · exact e3_tI _
        · split
          · exact .inr (.inr rfl)
          · split
            · split
              · exact e3_each _ _ _
              · exact .inl rfl
            · exact e3_tI _
theorem andE_assoc {a b c : Int} (h : E3 a) (g : E3 b) (k : E3 c) : andE (andE a b) c = andE a (andE b c) := by
  rcases h with rfl | rfl | rfl <;> rcases g with rfl | rfl | rfl <;> rcases k with rfl | rfl | rfl <;> decide
theorem andE_one {a : Int} (h : E3 a) : andE 1 a = a ∧ andE a 1 = a ∧ andE a 0 = 0 ∧ andE 0 a = 0 := by rcases h with rfl | rfl | rfl <;> decide
theorem each_drop (lang : Int) (l l2 : List Val) (j : Nat) (h : j < l.length) (h2 : j < l2.length) : eachEqual lang (l.drop j) (l2.drop j) = andE (equalP lang l[j] l2[j]) (eachEqual lang (l.drop (j + 1)) (l2.drop (j + 1))) := by
  rw [List.drop_eq_getElem_cons h, List.drop_eq_getElem_cons h2, eachEqual]
theorem each_end (lang : Int) (l l2 : List Val) (j : Nat) (h : l.length ≤ j) : eachEqual lang (l.drop j) (l2.drop j) = 1 := by
  rw [List.drop_eq_nil_of_le h]
  unfold eachEqual
  rfl

/-- equal's contract at a value. -/
def EqualAt (lang : Int) (v : Val) : Prop := ∀ (w : World) (k : Int) (b : Bool) (n : Int) (t x : ByteArray) (q : List Val) (p : Option Addr) (cap : Nat) (k2 : Int) (b2 : Bool) (n2 : Int) (t2 x2 : ByteArray) (q2 : List Val) (p2 : Option Addr) (cap2 : Nat) (v2 : Val), v = .mk k b n t x q → v2 = .mk k2 b2 n2 t2 x2 q2 →
  Gd w → Tab w → Fine n t x q.length → Fine n2 t2 x2 q2.length → Held w (.slice p q.length cap) q → Held w (.slice p2 q2.length cap2) q2 →
  Calls Tryz.prog 32 #[.int .i64 lang, .agg #[.int .i64 k, .bool b, .int .i64 n, .string t, .string x, .slice p q.length cap], .agg #[.int .i64 k2, .bool b2, .int .i64 n2, .string t2, .string x2, .slice p2 q2.length cap2]] w fun e w' => e = .returned (.int .i64 (equalP lang v v2)) ∧ Below w.heap.size w w'

theorem eqListsLen (lang : Int) (p p2 : Option Addr) (n n2 cap cap2 : Nat) (w : World) (h : ¬ n = n2) :
    Calls Tryz.prog 54 #[.int .i64 lang, .slice p n cap, .slice p2 n2 cap2] w fun e w' => e = .returned (.int .i64 0) ∧ Below w.heap.size w w' := by
  have h1 : ((n : Int) != n2) = true := by simp; omega
  clear h
  go_enter Tryz.func54, Tryz.ntmps54
  go_wp2_with fail
  go_ret
  exact ⟨rfl, Below.refl _ _⟩
theorem eqListsNone (lang : Int) (p p2 : Option Addr) (cap cap2 : Nat) (w : World) :
    Calls Tryz.prog 54 #[.int .i64 lang, .slice p 0 cap, .slice p2 0 cap2] w fun e w' => e = .returned (.int .i64 1) ∧ Below w.heap.size w w' := by
  go_enter Tryz.func54, Tryz.ntmps54
  go_wp2_with fail
  go_loopw [7, 16] (fun s i wr => s = .int .i64 1 ∧ i = .int .i64 0 ∧ wr = w) (fun _ _ _ => 0)
  case atStart => exact ⟨rfl, rfl, rfl⟩
  case round =>
    obtain ⟨rfl, rfl, rfl⟩ := hrel
    go_wp2_with fail
    go_ret
    exact ⟨rfl, Below.refl _ _⟩

set_option maxHeartbeats 1600000 in
theorem eqListsSome (lang : Int) (l l2 : List Val) (g off cap g2 off2 cap2 : Nat) (w : World) (hG : Gd w) (hT : Tab w) (hl : Holds w g off l) (hl2 : Holds w g2 off2 l2) (hlen : l2.length = l.length) (hn : l.length ≤ 2097152) (each : ∀ v ∈ l, EqualAt lang v) :
    Calls Tryz.prog 54 #[.int .i64 lang, .slice (some ⟨g, off, none⟩) l.length cap, .slice (some ⟨g2, off2, none⟩) l.length cap2] w fun e w' => e = .returned (.int .i64 (eachEqual lang l l2)) ∧ Below w.heap.size w w' := by
  have HH := Lib.hid hl
  have HH2 := Lib.hid hl2
  have HE := Lib.hid each
  have HL := Lib.hid hlen
  clear hl hl2 each hlen
  go_enter Tryz.func54, Tryz.ntmps54
  go_wp2_with fail
  go_loopw [7, 16] (fun s i wr => ∃ (j : Nat) (a : Int), j ≤ l.length ∧ s = .int .i64 a ∧ i = .int .i64 j ∧ Below w.heap.size w wr ∧ Hid ((a = 1 ∨ a = 2) ∧ eachEqual lang l l2 = andE a (eachEqual lang (l.drop j) (l2.drop j)))) (fun _ i _ => l.length - (intOf i).toNat)
  case atStart => exact ⟨0, 1, Nat.zero_le _, rfl, rfl, Below.refl _ _, Lib.hid ⟨.inl rfl, by rw [List.drop_zero, List.drop_zero, (andE_one (e3_each _ _ _)).1]⟩⟩
  case round =>
    obtain ⟨j, a, hj, rfl, rfl, hb, HA⟩ := hrel
    by_cases hlt : j < l.length
    · have hlt2 : j < l2.length := by have := HL.out; omega
      obtain ⟨k, b, n, t, x, q, p, cp, o1⟩ := (Holds.at_ l off HH.out j hlt).opens
      obtain ⟨k2, b2, n2, t2, x2, q2, p2, cp2, o2⟩ := (Holds.at_ l2 off2 HH2.out j hlt2).opens
      have hc := fun W (hb : Below w.heap.size w W) => HE.out l[j] (List.getElem_mem hlt) W k b n t x q p cp k2 b2 n2 t2 x2 q2 p2 cp2 l2[j] o1.e o2.e (hG.below hb) (hT.below hb) o1.hf o2.hf (Held.below q o1.hl hb) (Held.below q2 o2.hl hb)
      obtain ⟨r, hr⟩ : ∃ r, r = equalP lang l[j] l2[j] := ⟨_, rfl⟩
      rw [← hr] at hc
      have R1 : ∀ w', Below w.heap.size w w' → w'.rangeAt g (off + j * 6) [.int .i64 k, .bool b, .int .i64 n, .string t, .string x, .slice p q.length cp] := fun w' h => (o1.below h).range
      have R2 : ∀ w', Below w.heap.size w w' → w'.rangeAt g2 (off2 + j * 6) [.int .i64 k2, .bool b2, .int .i64 n2, .string t2, .string x2, .slice p2 q2.length cp2] := fun w' h => (o2.below h).range
      have HC := Lib.hid hc
      have HR := Lib.hid hr
      have HR1 := Lib.hid R1
      have HR2 := Lib.hid R2
      have e3 : E3 r := by rw [hr]; exact e3_equal _ _ _
      clear o1 o2 hr hc R1 R2
      have hlti : (j : Int) < l.length := by omega
      go_wp2_with fail
      refine wp_region_held_drew (S := fun w' => Below w.heap.size w w') (by kernel_rfl) hb.drew (fun hHeld => ?_)
      refine wpAnyH_take (i := 0) (v := .int .i64 lang) rfl (by kernel_rfl) (by kernel_rfl) (by kernel_rfl) (fun _ _ _ h => h) (Or.inl ⟨by rfl, fun W _ => by go_simp⟩) hHeld ?_
      try simp only [Act.put, List.getElem_toArray, List.getElem_cons_succ, List.getElem_cons_zero, List.setIfInBounds_toArray, List.set_cons_zero, List.set_cons_succ]
      refine wpAnyH_take (i := 1) (v := .slice (some ⟨g, off, none⟩) l.length cap) rfl (by kernel_rfl) (by kernel_rfl) (by kernel_rfl) (fun _ _ _ h => h) (Or.inl ⟨by rfl, fun W _ => by go_simp⟩) hHeld ?_
      try simp only [Act.put, List.getElem_toArray, List.getElem_cons_succ, List.getElem_cons_zero, List.setIfInBounds_toArray, List.set_cons_zero, List.set_cons_succ]
      refine wpAnyH_take (i := 2) (v := .int .i64 j) rfl (by kernel_rfl) (by kernel_rfl) (by kernel_rfl) (fun _ _ _ h => h) (Or.inl ⟨by rfl, fun W _ => by go_simp⟩) hHeld ?_
      try simp only [Act.put, List.getElem_toArray, List.getElem_cons_succ, List.getElem_cons_zero, List.setIfInBounds_toArray, List.set_cons_zero, List.set_cons_succ]
      refine wpAnyH_take (i := 3) (v := .pointer (some ⟨g, off + j * 6, none⟩)) rfl (by kernel_rfl) (by kernel_rfl) (by kernel_rfl) (fun _ _ _ h => h) (Or.inl ⟨by rfl, fun W _ => by go_simp⟩) hHeld ?_
      try simp only [Act.put, List.getElem_toArray, List.getElem_cons_succ, List.getElem_cons_zero, List.setIfInBounds_toArray, List.set_cons_zero, List.set_cons_succ]
      refine wpAnyH_take (i := 4) rfl (by kernel_rfl) (by kernel_rfl) (by kernel_rfl) (fun _ _ _ h => h) (yieldsIf_load_mid (by rfl) 26 (.tmp 22) rfl g (off + j * 6) rfl _ _ (fun w h => HR1.out w h) Tryz.underlying26 rfl info28) hHeld ?_
      try simp only [Act.put, List.getElem_toArray, List.getElem_cons_succ, List.getElem_cons_zero, List.setIfInBounds_toArray, List.set_cons_zero, List.set_cons_succ]
      refine wpAnyH_take (i := 5) (v := .slice (some ⟨g2, off2, none⟩) l.length cap2) rfl (by kernel_rfl) (by kernel_rfl) (by kernel_rfl) (fun _ _ _ h => h) (Or.inl ⟨by rfl, fun W _ => by go_simp⟩) hHeld ?_
      try simp only [Act.put, List.getElem_toArray, List.getElem_cons_succ, List.getElem_cons_zero, List.setIfInBounds_toArray, List.set_cons_zero, List.set_cons_succ]
      refine wpAnyH_take (i := 6) (v := .int .i64 j) rfl (by kernel_rfl) (by kernel_rfl) (by kernel_rfl) (fun _ _ _ h => h) (Or.inl ⟨by rfl, fun W _ => by go_simp⟩) hHeld ?_
      try simp only [Act.put, List.getElem_toArray, List.getElem_cons_succ, List.getElem_cons_zero, List.setIfInBounds_toArray, List.set_cons_zero, List.set_cons_succ]
      refine wpAnyH_take (i := 7) (v := .pointer (some ⟨g2, off2 + j * 6, none⟩)) rfl (by kernel_rfl) (by kernel_rfl) (by kernel_rfl) (fun _ _ _ h => h) (Or.inl ⟨by rfl, fun W _ => by go_simp⟩) hHeld ?_
      try simp only [Act.put, List.getElem_toArray, List.getElem_cons_succ, List.getElem_cons_zero, List.setIfInBounds_toArray, List.set_cons_zero, List.set_cons_succ]
      refine wpAnyH_take (i := 8) rfl (by kernel_rfl) (by kernel_rfl) (by kernel_rfl) (fun _ _ _ h => h) (yieldsIf_load_mid (by rfl) 26 (.tmp 26) rfl g2 (off2 + j * 6) rfl _ _ (fun w h => HR2.out w h) Tryz.underlying26 rfl info28) hHeld ?_
      try simp only [Act.put, List.getElem_toArray, List.getElem_cons_succ, List.getElem_cons_zero, List.setIfInBounds_toArray, List.set_cons_zero, List.set_cons_succ]
      refine wpAnyH_ready (rs := [9]) (by kernel_rfl) (by simp) ?_
      refine AllReadyH.cons rfl (fun K hK => ?_) AllReadyH.nil
      rw [if_pos (by rfl)]
      go_simp
      refine (HC.out _ hHeld).mono ?_
      rintro e w3 ⟨rfl, hb3⟩
      refine hK.out _ _ (below_any hHeld hb3 hHeld.size) (fun hHeld2 => ?_)
      clear hK K hb3 hHeld
      try simp only [Act.put, List.getElem_toArray, List.getElem_cons_succ, List.getElem_cons_zero, List.setIfInBounds_toArray, List.set_cons_zero, List.set_cons_succ]
      refine wpAnyH_done (by kernel_rfl) ?_ _
      have hA2 := HA.out.2
      rw [each_drop lang l l2 j hlt hlt2, ← HR.out] at hA2
      have HA2 := Lib.hid (And.intro HA.out.1 hA2)
      clear HA hA2
      by_cases h0 : r = 0
      · subst h0
        go_wp2_with fail
        go_ret
        exact ⟨by rw [HA2.out.2, (andE_one (e3_each _ _ _)).2.2.2, (andE_one (by rcases HA2.out.1 with h | h <;> simp [h, E3])).2.2.1]; rfl, hHeld2⟩
      · by_cases h2 : r = 2
        · subst h2
          go_wp2_with fail
          go_roundw
          case rel =>
            refine ⟨j + 1, 2, by omega, rfl, by go_num, hHeld2, Lib.hid ⟨.inr rfl, ?_⟩⟩
            rw [HA2.out.2, ← andE_assoc (by rcases HA2.out.1 with h | h <;> simp [h, E3]) (by simp [E3]) (e3_each _ _ _)]
            congr 1
            rcases HA2.out.1 with h | h <;> rw [h] <;> rfl
          case measure => simp [intOf]; omega
        · obtain rfl : r = 1 := by rcases e3 with h | h | h <;> omega
          clear h0 h2
          go_wp2_with fail
          go_roundw
          case rel =>
            refine ⟨j + 1, a, by omega, rfl, by go_num, hHeld2, Lib.hid ⟨HA2.out.1, ?_⟩⟩
            rw [HA2.out.2, (andE_one (e3_each _ _ _)).1]
          case measure => simp [intOf]; omega
    · have hA2 := HA.out.2
      rw [each_end lang l l2 j (by omega), (andE_one (by rcases HA.out.1 with h | h <;> simp [h, E3])).2.1] at hA2
      have HA2 := Lib.hid hA2
      have hge : ¬ (j : Int) < l.length := by omega
      clear hA2 HA
      go_wp2_with fail
      go_ret
      exact ⟨by rw [HA2.out]; rfl, hb⟩

theorem eqListsAt (lang : Int) (l l2 : List Val) (p p2 : Option Addr) (cap cap2 : Nat) (w : World) (hG : Gd w) (hT : Tab w) (hl : Held w (.slice p l.length cap) l) (hl2 : Held w (.slice p2 l2.length cap2) l2) (hn : l.length ≤ 2097152) (each : ∀ v ∈ l, EqualAt lang v) :
    Calls Tryz.prog 54 #[.int .i64 lang, .slice p l.length cap, .slice p2 l2.length cap2] w fun e w' => e = .returned (.int .i64 (if l.length = l2.length then eachEqual lang l l2 else 0)) ∧ Below w.heap.size w w' := by
  by_cases h : l.length = l2.length
  · rw [if_pos h, ← h]
    cases l with
    | nil =>
      unfold eachEqual
      exact eqListsNone _ _ _ _ _ _
    | cons v r =>
      cases l2 with
      | nil => simp at h
      | cons v2 r2 =>
        obtain ⟨g, off, rfl, hh⟩ := hl.form
        obtain ⟨g2, off2, rfl, hh2⟩ := hl2.form
        exact eqListsSome lang (v :: r) (v2 :: r2) g off cap g2 off2 cap2 w hG hT hh hh2 h.symm hn each
  · rw [if_neg h]
    exact eqListsLen lang p p2 _ _ cap cap2 w h
end Go.Proofs.YtdnijfkiebpnpaaGreatDoor

/- Whether two values are equal: equal, where one is none, or both are numbers. -/
namespace Go.Proofs.YtdnijfkiebpnpaaGreatDoor
open Go.RowKit

set_option maxRecDepth 4000 in
set_option maxHeartbeats 3200000 in
theorem equalPlain (lang : Int) (k : Int) (b : Bool) (n : Int) (t x : ByteArray) (q : List Val) (p : Option Addr) (cap : Nat) (k2 : Int) (b2 : Bool) (n2 : Int) (t2 x2 : ByteArray) (q2 : List Val) (p2 : Option Addr) (cap2 : Nat) (w : World) (hG : Gd w) (hT : Tab w) (hf : Fine n t x q.length) (hf2 : Fine n2 t2 x2 q2.length) (hl : Held w (.slice p q.length cap) q) (hl2 : Held w (.slice p2 q2.length cap2) q2) (each : ∀ v ∈ q, EqualAt lang v) (h : k = 0 ∨ k2 = 0 ∨ (numB k = true ∧ numB k2 = true)) :
    Calls Tryz.prog 32 #[.int .i64 lang, .agg #[.int .i64 k, .bool b, .int .i64 n, .string t, .string x, .slice p q.length cap], .agg #[.int .i64 k2, .bool b2, .int .i64 n2, .string t2, .string x2, .slice p2 q2.length cap2]] w fun e w' => e = .returned (.int .i64 (equalP lang (.mk k b n t x q) (.mk k2 b2 n2 t2 x2 q2))) ∧ Below w.heap.size w w' := by
  obtain ⟨W0, hW0⟩ : ∃ W0, W0 = (w.alloc (.cells #[.int .i64 k, .bool b, .int .i64 n, .string t, .string x, .slice p q.length cap] 26)).alloc (.cells #[.int .i64 k2, .bool b2, .int .i64 n2, .string t2, .string x2, .slice p2 q2.length cap2] 26) := ⟨_, rfl⟩
  have S4 : Six W0 w.heap.size k b n t x p q.length cap := by rw [hW0]; exact (six_new _ rfl).alloc _
  have S5 : Six W0 (w.heap.size + 1) k2 b2 n2 t2 x2 p2 q2.length cap2 := by rw [hW0]; exact six_new _ (by simp)
  have b0 : Below w.heap.size w W0 := by rw [hW0]; exact below2 _ _ _
  have f0 := S4.c0
  have g0 := S5.c0
  have H0 := Lib.hid hW0
  have hn1 := fun W => isNumberAt k b n t x (.slice p q.length cap) W
  have hn2 := fun W => isNumberAt k2 b2 n2 t2 x2 (.slice p2 q2.length cap2) W
  have hcmp := fun W (h : Below w.heap.size w W) => cmpNumsAt k b n t x p q.length cap k2 b2 n2 t2 x2 p2 q2.length cap2 W (hG.below h) (hT.below h) hf hf2
  have hg1 := fun W => isGraphsAt k b n t x (.slice p q.length cap) W
  have hg2 := fun W => isGraphsAt k2 b2 n2 t2 x2 (.slice p2 q2.length cap2) W
  have ho1 := fun W (h : Below w.heap.size w W) => isOpenAt k b n t x q p cap k2 b2 n2 t2 x2 q2 p2 cap2 W hf (Held.below q hl h) (Held.below q2 hl2 h) _ rfl
  have ho2 := fun W (h : Below w.heap.size w W) => isOpenAt k2 b2 n2 t2 x2 q2 p2 cap2 k b n t x q p cap W hf2 (Held.below q2 hl2 h) (Held.below q hl h) _ rfl
  have hbo := fun W => bothAreAt 5 k b n t x (.slice p q.length cap) k2 b2 n2 t2 x2 (.slice p2 q2.length cap2) W
  have hls := fun W (h : Below w.heap.size w W) => eqListsAt lang q q2 p p2 cap cap2 W (hG.below h) (hT.below h) (Held.below q hl h) (Held.below q2 hl2 h) hf.hn each
  have hsm := fun W (h : Below w.heap.size w W) => sameAtV k b n t x q p cap k2 b2 n2 t2 x2 q2 p2 cap2 W hf (Held.below q hl h) (Held.below q2 hl2 h)
  clear hl hl2 hf hf2 hG hT each hW0
  cases e0 : (k == 0) with
  | true =>
    have hv : equalP lang (.mk k b n t x q) (.mk k2 b2 n2 t2 x2 q2) = 2 := by unfold equalP; rw [if_pos (.inl (by simpa using e0))]
    rw [hv]
    clear hv h hn1 hn2 hcmp hg1 hg2 ho1 ho2 hbo hls hsm
    go_enter Tryz.func32, Tryz.ntmps32
    go_wp2_with fail
    rw [← H0.out]
    go_wp2_with (first
      | ((with_reducible refine wpList_load6g (.tmp 4) w.heap.size S4 ?_ ?_ ?_ ?_); rfl; rfl; rfl)
      | ((with_reducible refine wpList_load6g (.tmp 5) (w.heap.size + 1) S5 ?_ ?_ ?_ ?_); rfl; rfl; rfl))
    go_ret
    exact ⟨rfl, b0⟩
  | false =>
    have n0 : ¬ k = 0 := by simpa using e0
    cases e1 : (k2 == 0) with
    | true =>
      have hv : equalP lang (.mk k b n t x q) (.mk k2 b2 n2 t2 x2 q2) = 2 := by unfold equalP; rw [if_pos (.inr (by simpa using e1))]
      rw [hv]
      clear hv h n0 hn1 hn2 hcmp hg1 hg2 ho1 ho2 hbo hls hsm
      go_enter Tryz.func32, Tryz.ntmps32
      go_wp2_with fail
      rw [← H0.out]
      go_wp2_with (first
        | ((with_reducible refine wpList_load6g (.tmp 4) w.heap.size S4 ?_ ?_ ?_ ?_); rfl; rfl; rfl)
        | ((with_reducible refine wpList_load6g (.tmp 5) (w.heap.size + 1) S5 ?_ ?_ ?_ ?_); rfl; rfl; rfl))
      go_ret
      exact ⟨rfl, b0⟩
    | false =>
      have n1 : ¬ k2 = 0 := by simpa using e1
      rcases h with h | h | ⟨h1, h2⟩
      · exact absurd h n0
      · exact absurd h n1
      · have hv : equalP lang (.mk k b n t x q) (.mk k2 b2 n2 t2 x2 q2) = tI (cmpZ (numV k n t) (numV k2 n2 t2) == 0) := by unfold equalP; rw [if_neg (by omega), if_pos ⟨h1, h2⟩]
        rw [hv]
        unfold numB at h1 h2
        rw [h1] at hn1
        rw [h2] at hn2
        generalize cmpZ (numV k n t) (numV k2 n2 t2) = r at hcmp ⊢
        clear hv h1 h2 n0 n1 hg1 hg2 ho1 ho2 hbo hls hsm
        go_enter Tryz.func32, Tryz.ntmps32
        go_wp2_with fail
        rw [← H0.out]
        go_wp2_with (first
          | ((with_reducible refine wpList_load6g (.tmp 4) w.heap.size S4 ?_ ?_ ?_ ?_); rfl; rfl; rfl)
          | ((with_reducible refine wpList_load6g (.tmp 5) (w.heap.size + 1) S5 ?_ ?_ ?_ ?_); rfl; rfl; rfl)
          | (go_at_call 48; (with_reducible refine (hn1 _).mono ?_); rintro e w' ⟨rfl, hb⟩; replace S4 := S4.below hb; replace S5 := S5.below hb; replace b0 := below_any b0 hb b0.size; have f5 := S4.c5; have g5 := S5.c5; have f00 := S4.c0; have g00 := S5.c0; clear hb)
          | (go_at_call 48; (with_reducible refine (hn2 _).mono ?_); rintro e w' ⟨rfl, hb⟩; replace S4 := S4.below hb; replace S5 := S5.below hb; replace b0 := below_any b0 hb b0.size; have f5 := S4.c5; have g5 := S5.c5; have f00 := S4.c0; have g00 := S5.c0; clear hb)
          | (go_at_call 50; (with_reducible refine (hcmp _ b0).mono ?_); rintro e w' ⟨rfl, hb⟩; replace S4 := S4.below hb; replace S5 := S5.below hb; replace b0 := below_any b0 hb b0.size; have f5 := S4.c5; have g5 := S5.c5; have f00 := S4.c0; have g00 := S5.c0; clear hb)
          | (go_at_call 49; (with_reducible refine (truthT _ _).mono ?_); rintro e w' ⟨rfl, rfl⟩))
        go_ret
        exact ⟨rfl, b0⟩
end Go.Proofs.YtdnijfkiebpnpaaGreatDoor

/- Whether two values are equal: equal, the first no number. -/
namespace Go.Proofs.YtdnijfkiebpnpaaGreatDoor
open Go.RowKit

set_option maxRecDepth 4000 in
set_option maxHeartbeats 3200000 in
theorem equalNot1 (lang : Int) (k : Int) (b : Bool) (n : Int) (t x : ByteArray) (q : List Val) (p : Option Addr) (cap : Nat) (k2 : Int) (b2 : Bool) (n2 : Int) (t2 x2 : ByteArray) (q2 : List Val) (p2 : Option Addr) (cap2 : Nat) (w : World) (hG : Gd w) (hT : Tab w) (hf : Fine n t x q.length) (hf2 : Fine n2 t2 x2 q2.length) (hl : Held w (.slice p q.length cap) q) (hl2 : Held w (.slice p2 q2.length cap2) q2) (each : ∀ v ∈ q, EqualAt lang v) (n0 : ¬ k = 0) (n1 : ¬ k2 = 0) (h1 : numB k = false) :
    Calls Tryz.prog 32 #[.int .i64 lang, .agg #[.int .i64 k, .bool b, .int .i64 n, .string t, .string x, .slice p q.length cap], .agg #[.int .i64 k2, .bool b2, .int .i64 n2, .string t2, .string x2, .slice p2 q2.length cap2]] w fun e w' => e = .returned (.int .i64 (equalP lang (.mk k b n t x q) (.mk k2 b2 n2 t2 x2 q2))) ∧ Below w.heap.size w w' := by
  obtain ⟨W0, hW0⟩ : ∃ W0, W0 = (w.alloc (.cells #[.int .i64 k, .bool b, .int .i64 n, .string t, .string x, .slice p q.length cap] 26)).alloc (.cells #[.int .i64 k2, .bool b2, .int .i64 n2, .string t2, .string x2, .slice p2 q2.length cap2] 26) := ⟨_, rfl⟩
  have S4 : Six W0 w.heap.size k b n t x p q.length cap := by rw [hW0]; exact (six_new _ rfl).alloc _
  have S5 : Six W0 (w.heap.size + 1) k2 b2 n2 t2 x2 p2 q2.length cap2 := by rw [hW0]; exact six_new _ (by simp)
  have b0 : Below w.heap.size w W0 := by rw [hW0]; exact below2 _ _ _
  have f0 := S4.c0
  have g0 := S5.c0
  have H0 := Lib.hid hW0
  have hn1 := fun W => isNumberAt k b n t x (.slice p q.length cap) W
  have hn2 := fun W => isNumberAt k2 b2 n2 t2 x2 (.slice p2 q2.length cap2) W
  have hcmp := fun W (h : Below w.heap.size w W) => cmpNumsAt k b n t x p q.length cap k2 b2 n2 t2 x2 p2 q2.length cap2 W (hG.below h) (hT.below h) hf hf2
  have hg1 := fun W => isGraphsAt k b n t x (.slice p q.length cap) W
  have hg2 := fun W => isGraphsAt k2 b2 n2 t2 x2 (.slice p2 q2.length cap2) W
  have ho1 := fun W (h : Below w.heap.size w W) => isOpenAt k b n t x q p cap k2 b2 n2 t2 x2 q2 p2 cap2 W hf (Held.below q hl h) (Held.below q2 hl2 h) _ rfl
  have ho2 := fun W (h : Below w.heap.size w W) => isOpenAt k2 b2 n2 t2 x2 q2 p2 cap2 k b n t x q p cap W hf2 (Held.below q2 hl2 h) (Held.below q hl h) _ rfl
  have hbo := fun W => bothAreAt 5 k b n t x (.slice p q.length cap) k2 b2 n2 t2 x2 (.slice p2 q2.length cap2) W
  have hls := fun W (h : Below w.heap.size w W) => eqListsAt lang q q2 p p2 cap cap2 W (hG.below h) (hT.below h) (Held.below q hl h) (Held.below q2 hl2 h) hf.hn each
  have hsm := fun W (h : Below w.heap.size w W) => sameAtV k b n t x q p cap k2 b2 n2 t2 x2 q2 p2 cap2 W hf (Held.below q hl h) (Held.below q2 hl2 h)
  clear hl hl2 hf hf2 hG hT each hW0
  have e0 : (k == 0) = false := by simpa using n0
  have e1 : (k2 == 0) = false := by simpa using n1
  have m1 : numB k = false := h1
  have hnn : ¬ (numB k = true ∧ numB k2 = true) := by rintro ⟨u, v⟩; rw [m1] at u; cases u
  rw [show (k == 2 || k == 3) = numB k from rfl, m1] at hn1
  clear m1 hcmp
  by_cases hlang : lang = 1
  · have el : (lang == 1) = true := by simpa using hlang
    cases eg1 : graphB k with
    | true =>
      have hv : equalP lang (.mk k b n t x q) (.mk k2 b2 n2 t2 x2 q2) = 2 := by unfold equalP; rw [if_neg (by omega), if_neg hnn, if_pos ⟨hlang, by rw [eg1]; rfl⟩]
      rw [hv]
      rw [show (k == 5 || k == 6 || k == 7) = graphB k from rfl, eg1] at hg1
      clear hv hnn n0 n1 hg2 ho1 ho2 hbo hls hsm
      go_enter Tryz.func32, Tryz.ntmps32
      go_wp2_with fail
      rw [← H0.out]
      go_wp2_with (first
        | ((with_reducible refine wpList_load6g (.tmp 4) w.heap.size S4 ?_ ?_ ?_ ?_); rfl; rfl; rfl)
        | ((with_reducible refine wpList_load6g (.tmp 5) (w.heap.size + 1) S5 ?_ ?_ ?_ ?_); rfl; rfl; rfl)
        | (go_at_call 48; (with_reducible refine (hn1 _).mono ?_); rintro e w' ⟨rfl, hb⟩; replace S4 := S4.below hb; replace S5 := S5.below hb; replace b0 := below_any b0 hb b0.size; have f5 := S4.c5; have g5 := S5.c5; have f00 := S4.c0; have g00 := S5.c0; clear hb)
        | (go_at_call 51; (with_reducible refine (hg1 _).mono ?_); rintro e w' ⟨rfl, hb⟩; replace S4 := S4.below hb; replace S5 := S5.below hb; replace b0 := below_any b0 hb b0.size; have f5 := S4.c5; have g5 := S5.c5; have f00 := S4.c0; have g00 := S5.c0; clear hb))
      go_ret
      exact ⟨rfl, b0⟩
    | false =>
      have k5 : (k == 5) = false := by
        unfold graphB at eg1
        cases h5 : (k == 5) with
        | false => rfl
        | true => rw [h5] at eg1; cases eg1
      rw [show (k == 5 || k == 6 || k == 7) = graphB k from rfl, eg1] at hg1
      cases eg2 : graphB k2 with
      | true =>
        have hv : equalP lang (.mk k b n t x q) (.mk k2 b2 n2 t2 x2 q2) = 2 := by unfold equalP; rw [if_neg (by omega), if_neg hnn, if_pos ⟨hlang, by rw [eg1, eg2]; rfl⟩]
        rw [hv]
        rw [show (k2 == 5 || k2 == 6 || k2 == 7) = graphB k2 from rfl, eg2] at hg2
        clear hv hnn n0 n1 ho1 ho2 hbo hls hsm
        go_enter Tryz.func32, Tryz.ntmps32
        go_wp2_with fail
        rw [← H0.out]
        go_wp2_with (first
          | ((with_reducible refine wpList_load6g (.tmp 4) w.heap.size S4 ?_ ?_ ?_ ?_); rfl; rfl; rfl)
          | ((with_reducible refine wpList_load6g (.tmp 5) (w.heap.size + 1) S5 ?_ ?_ ?_ ?_); rfl; rfl; rfl)
          | (go_at_call 48; (with_reducible refine (hn1 _).mono ?_); rintro e w' ⟨rfl, hb⟩; replace S4 := S4.below hb; replace S5 := S5.below hb; replace b0 := below_any b0 hb b0.size; have f5 := S4.c5; have g5 := S5.c5; have f00 := S4.c0; have g00 := S5.c0; clear hb)
          | (go_at_call 51; (with_reducible refine (hg1 _).mono ?_); rintro e w' ⟨rfl, hb⟩; replace S4 := S4.below hb; replace S5 := S5.below hb; replace b0 := below_any b0 hb b0.size; have f5 := S4.c5; have g5 := S5.c5; have f00 := S4.c0; have g00 := S5.c0; clear hb)
          | (go_at_call 51; (with_reducible refine (hg2 _).mono ?_); rintro e w' ⟨rfl, hb⟩; replace S4 := S4.below hb; replace S5 := S5.below hb; replace b0 := below_any b0 hb b0.size; have f5 := S4.c5; have g5 := S5.c5; have f00 := S4.c0; have g00 := S5.c0; clear hb))
        go_ret
        exact ⟨rfl, b0⟩
      | false =>
        rw [show (k2 == 5 || k2 == 6 || k2 == 7) = graphB k2 from rfl, eg2] at hg2
        cases eo1 : openP k k2 (sameP (.mk k b n t x q) (.mk k2 b2 n2 t2 x2 q2)) with
        | true =>
          have hv : equalP lang (.mk k b n t x q) (.mk k2 b2 n2 t2 x2 q2) = 2 := by unfold equalP; rw [if_neg (by omega), if_neg hnn, if_pos ⟨hlang, by rw [eg1, eg2, eo1]; rfl⟩]
          rw [hv]
          rw [eo1] at ho1
          clear hv hnn n0 n1 ho2 hbo hls hsm
          go_enter Tryz.func32, Tryz.ntmps32
          go_wp2_with fail
          rw [← H0.out]
          go_wp2_with (first
            | ((with_reducible refine wpList_load6g (.tmp 4) w.heap.size S4 ?_ ?_ ?_ ?_); rfl; rfl; rfl)
            | ((with_reducible refine wpList_load6g (.tmp 5) (w.heap.size + 1) S5 ?_ ?_ ?_ ?_); rfl; rfl; rfl)
            | (go_at_call 48; (with_reducible refine (hn1 _).mono ?_); rintro e w' ⟨rfl, hb⟩; replace S4 := S4.below hb; replace S5 := S5.below hb; replace b0 := below_any b0 hb b0.size; have f5 := S4.c5; have g5 := S5.c5; have f00 := S4.c0; have g00 := S5.c0; clear hb)
            | (go_at_call 51; (with_reducible refine (hg1 _).mono ?_); rintro e w' ⟨rfl, hb⟩; replace S4 := S4.below hb; replace S5 := S5.below hb; replace b0 := below_any b0 hb b0.size; have f5 := S4.c5; have g5 := S5.c5; have f00 := S4.c0; have g00 := S5.c0; clear hb)
            | (go_at_call 51; (with_reducible refine (hg2 _).mono ?_); rintro e w' ⟨rfl, hb⟩; replace S4 := S4.below hb; replace S5 := S5.below hb; replace b0 := below_any b0 hb b0.size; have f5 := S4.c5; have g5 := S5.c5; have f00 := S4.c0; have g00 := S5.c0; clear hb)
            | (go_at_call 52; (with_reducible refine (ho1 _ b0).mono ?_); rintro e w' ⟨rfl, hb⟩; replace S4 := S4.below hb; replace S5 := S5.below hb; replace b0 := below_any b0 hb b0.size; have f5 := S4.c5; have g5 := S5.c5; have f00 := S4.c0; have g00 := S5.c0; clear hb))
          go_ret
          exact ⟨rfl, b0⟩
        | false =>
          rw [eo1] at ho1
          cases eo2 : openP k2 k (sameP (.mk k2 b2 n2 t2 x2 q2) (.mk k b n t x q)) with
          | true =>
            have hv : equalP lang (.mk k b n t x q) (.mk k2 b2 n2 t2 x2 q2) = 2 := by unfold equalP; rw [if_neg (by omega), if_neg hnn, if_pos ⟨hlang, by rw [eg1, eg2, eo1, eo2]; rfl⟩]
            rw [hv]
            rw [eo2] at ho2
            clear hv hnn n0 n1 hbo hls hsm
            go_enter Tryz.func32, Tryz.ntmps32
            go_wp2_with fail
            rw [← H0.out]
            go_wp2_with (first
              | ((with_reducible refine wpList_load6g (.tmp 4) w.heap.size S4 ?_ ?_ ?_ ?_); rfl; rfl; rfl)
              | ((with_reducible refine wpList_load6g (.tmp 5) (w.heap.size + 1) S5 ?_ ?_ ?_ ?_); rfl; rfl; rfl)
              | (go_at_call 48; (with_reducible refine (hn1 _).mono ?_); rintro e w' ⟨rfl, hb⟩; replace S4 := S4.below hb; replace S5 := S5.below hb; replace b0 := below_any b0 hb b0.size; have f5 := S4.c5; have g5 := S5.c5; have f00 := S4.c0; have g00 := S5.c0; clear hb)
              | (go_at_call 51; (with_reducible refine (hg1 _).mono ?_); rintro e w' ⟨rfl, hb⟩; replace S4 := S4.below hb; replace S5 := S5.below hb; replace b0 := below_any b0 hb b0.size; have f5 := S4.c5; have g5 := S5.c5; have f00 := S4.c0; have g00 := S5.c0; clear hb)
              | (go_at_call 51; (with_reducible refine (hg2 _).mono ?_); rintro e w' ⟨rfl, hb⟩; replace S4 := S4.below hb; replace S5 := S5.below hb; replace b0 := below_any b0 hb b0.size; have f5 := S4.c5; have g5 := S5.c5; have f00 := S4.c0; have g00 := S5.c0; clear hb)
              | (go_at_call 52; (with_reducible refine (ho1 _ b0).mono ?_); rintro e w' ⟨rfl, hb⟩; replace S4 := S4.below hb; replace S5 := S5.below hb; replace b0 := below_any b0 hb b0.size; have f5 := S4.c5; have g5 := S5.c5; have f00 := S4.c0; have g00 := S5.c0; clear hb)
              | (go_at_call 52; (with_reducible refine (ho2 _ b0).mono ?_); rintro e w' ⟨rfl, hb⟩; replace S4 := S4.below hb; replace S5 := S5.below hb; replace b0 := below_any b0 hb b0.size; have f5 := S4.c5; have g5 := S5.c5; have f00 := S4.c0; have g00 := S5.c0; clear hb))
            go_ret
            exact ⟨rfl, b0⟩
          | false =>
            rw [eo2] at ho2
            have hv : equalP lang (.mk k b n t x q) (.mk k2 b2 n2 t2 x2 q2) = tI (sameP (.mk k b n t x q) (.mk k2 b2 n2 t2 x2 q2)) := by unfold equalP; rw [if_neg (by omega), if_neg hnn, if_neg (by rintro ⟨_, h⟩; rw [eg1, eg2, eo1, eo2] at h; cases h), if_neg (by rintro ⟨h, _⟩; rw [h] at k5; cases k5)]
            rw [hv]
            rw [k5, Bool.false_and] at hbo
            generalize sameP (.mk k b n t x q) (.mk k2 b2 n2 t2 x2 q2) = r at hsm ⊢
            clear hv hnn n0 n1 hls
            go_enter Tryz.func32, Tryz.ntmps32
            go_wp2_with fail
            rw [← H0.out]
            go_wp2_with (first
              | ((with_reducible refine wpList_load6g (.tmp 4) w.heap.size S4 ?_ ?_ ?_ ?_); rfl; rfl; rfl)
              | ((with_reducible refine wpList_load6g (.tmp 5) (w.heap.size + 1) S5 ?_ ?_ ?_ ?_); rfl; rfl; rfl)
              | (go_at_call 48; (with_reducible refine (hn1 _).mono ?_); rintro e w' ⟨rfl, hb⟩; replace S4 := S4.below hb; replace S5 := S5.below hb; replace b0 := below_any b0 hb b0.size; have f5 := S4.c5; have g5 := S5.c5; have f00 := S4.c0; have g00 := S5.c0; clear hb)
              | (go_at_call 51; (with_reducible refine (hg1 _).mono ?_); rintro e w' ⟨rfl, hb⟩; replace S4 := S4.below hb; replace S5 := S5.below hb; replace b0 := below_any b0 hb b0.size; have f5 := S4.c5; have g5 := S5.c5; have f00 := S4.c0; have g00 := S5.c0; clear hb)
              | (go_at_call 51; (with_reducible refine (hg2 _).mono ?_); rintro e w' ⟨rfl, hb⟩; replace S4 := S4.below hb; replace S5 := S5.below hb; replace b0 := below_any b0 hb b0.size; have f5 := S4.c5; have g5 := S5.c5; have f00 := S4.c0; have g00 := S5.c0; clear hb)
              | (go_at_call 52; (with_reducible refine (ho1 _ b0).mono ?_); rintro e w' ⟨rfl, hb⟩; replace S4 := S4.below hb; replace S5 := S5.below hb; replace b0 := below_any b0 hb b0.size; have f5 := S4.c5; have g5 := S5.c5; have f00 := S4.c0; have g00 := S5.c0; clear hb)
              | (go_at_call 52; (with_reducible refine (ho2 _ b0).mono ?_); rintro e w' ⟨rfl, hb⟩; replace S4 := S4.below hb; replace S5 := S5.below hb; replace b0 := below_any b0 hb b0.size; have f5 := S4.c5; have g5 := S5.c5; have f00 := S4.c0; have g00 := S5.c0; clear hb)
              | (go_at_call 53; (with_reducible refine (hbo _).mono ?_); rintro e w' ⟨rfl, hb⟩; replace S4 := S4.below hb; replace S5 := S5.below hb; replace b0 := below_any b0 hb b0.size; have f5 := S4.c5; have g5 := S5.c5; have f00 := S4.c0; have g00 := S5.c0; clear hb)
              | (go_at_call 55; (with_reducible refine (hsm _ b0).mono ?_); rintro e w' ⟨rfl, hb⟩; replace S4 := S4.below hb; replace S5 := S5.below hb; replace b0 := below_any b0 hb b0.size; have f5 := S4.c5; have g5 := S5.c5; have f00 := S4.c0; have g00 := S5.c0; clear hb)
              | (go_at_call 49; (with_reducible refine (truthT _ _).mono ?_); rintro e w' ⟨rfl, rfl⟩))
            go_ret
            exact ⟨rfl, b0⟩
  · have el : (lang == 1) = false := by simpa using hlang
    cases e5 : (k == 5 && k2 == 5) with
    | true =>
      have h55 : k = 5 ∧ k2 = 5 := by simpa using e5
      have hv : equalP lang (.mk k b n t x q) (.mk k2 b2 n2 t2 x2 q2) = (if q.length = q2.length then eachEqual lang q q2 else 0) := by unfold equalP; rw [if_neg (by omega), if_neg hnn, if_neg (fun h => hlang h.1), if_pos h55]
      rw [hv]
      rw [e5] at hbo
      generalize (if q.length = q2.length then eachEqual lang q q2 else 0) = r at hls ⊢
      clear hv hnn n0 n1 h55 e5 hg1 hg2 ho1 ho2 hsm hlang
      go_enter Tryz.func32, Tryz.ntmps32
      go_wp2_with fail
      rw [← H0.out]
      go_wp2_with (first
        | ((with_reducible refine wpList_load6g (.tmp 4) w.heap.size S4 ?_ ?_ ?_ ?_); rfl; rfl; rfl)
        | ((with_reducible refine wpList_load6g (.tmp 5) (w.heap.size + 1) S5 ?_ ?_ ?_ ?_); rfl; rfl; rfl)
        | (go_at_call 48; (with_reducible refine (hn1 _).mono ?_); rintro e w' ⟨rfl, hb⟩; replace S4 := S4.below hb; replace S5 := S5.below hb; replace b0 := below_any b0 hb b0.size; have f5 := S4.c5; have g5 := S5.c5; have f00 := S4.c0; have g00 := S5.c0; clear hb)
        | (go_at_call 53; (with_reducible refine (hbo _).mono ?_); rintro e w' ⟨rfl, hb⟩; replace S4 := S4.below hb; replace S5 := S5.below hb; replace b0 := below_any b0 hb b0.size; have f5 := S4.c5; have g5 := S5.c5; have f00 := S4.c0; have g00 := S5.c0; clear hb)
        | (go_at_call 54; (with_reducible refine (hls _ b0).mono ?_); rintro e w' ⟨rfl, hb⟩; replace S4 := S4.below hb; replace S5 := S5.below hb; replace b0 := below_any b0 hb b0.size; have f5 := S4.c5; have g5 := S5.c5; have f00 := S4.c0; have g00 := S5.c0; clear hb))
      go_ret
      exact ⟨rfl, b0⟩
    | false =>
      have hv : equalP lang (.mk k b n t x q) (.mk k2 b2 n2 t2 x2 q2) = tI (sameP (.mk k b n t x q) (.mk k2 b2 n2 t2 x2 q2)) := by unfold equalP; rw [if_neg (by omega), if_neg hnn, if_neg (fun h => hlang h.1), if_neg (by rintro ⟨u, v⟩; rw [u, v] at e5; cases e5)]
      rw [hv]
      rw [e5] at hbo
      generalize sameP (.mk k b n t x q) (.mk k2 b2 n2 t2 x2 q2) = r at hsm ⊢
      clear hv hnn n0 n1 e5 hg1 hg2 ho1 ho2 hls hlang
      go_enter Tryz.func32, Tryz.ntmps32
      go_wp2_with fail
      rw [← H0.out]
      go_wp2_with (first
        | ((with_reducible refine wpList_load6g (.tmp 4) w.heap.size S4 ?_ ?_ ?_ ?_); rfl; rfl; rfl)
        | ((with_reducible refine wpList_load6g (.tmp 5) (w.heap.size + 1) S5 ?_ ?_ ?_ ?_); rfl; rfl; rfl)
        | (go_at_call 48; (with_reducible refine (hn1 _).mono ?_); rintro e w' ⟨rfl, hb⟩; replace S4 := S4.below hb; replace S5 := S5.below hb; replace b0 := below_any b0 hb b0.size; have f5 := S4.c5; have g5 := S5.c5; have f00 := S4.c0; have g00 := S5.c0; clear hb)
        | (go_at_call 53; (with_reducible refine (hbo _).mono ?_); rintro e w' ⟨rfl, hb⟩; replace S4 := S4.below hb; replace S5 := S5.below hb; replace b0 := below_any b0 hb b0.size; have f5 := S4.c5; have g5 := S5.c5; have f00 := S4.c0; have g00 := S5.c0; clear hb)
        | (go_at_call 55; (with_reducible refine (hsm _ b0).mono ?_); rintro e w' ⟨rfl, hb⟩; replace S4 := S4.below hb; replace S5 := S5.below hb; replace b0 := below_any b0 hb b0.size; have f5 := S4.c5; have g5 := S5.c5; have f00 := S4.c0; have g00 := S5.c0; clear hb)
        | (go_at_call 49; (with_reducible refine (truthT _ _).mono ?_); rintro e w' ⟨rfl, rfl⟩))
      go_ret
      exact ⟨rfl, b0⟩
end Go.Proofs.YtdnijfkiebpnpaaGreatDoor
