/- Texts of one kind, one behind the other: each says ahead of itself what it shows. -/
import Derived.Test.YtffbcccbhofbpaaGreatDoorHap
import Derived.Test.YtffbcccbhofbpaaGreatDoorHal
/- The order of all values: what it is, and that it is one. No Go stands here. -/
namespace Go.Proofs.YtffbcccbhofbpaaGreatDoor

/-- The first where it tells the two apart, else the second. -/
def lexI (c d : Int) : Int := if c = 0 then d else c
def bytesI (l m : List UInt8) : Int := if Op.bytesLess l m then -1 else if Op.bytesLess m l then 1 else 0
def boolI (a b : Bool) : Int := if a = b then 0 else if b then -1 else 1
def rankI (lang k : Int) : Int :=
  if k = 0 then (if lang = 1 then 0 else 10) else if k = 5 then 1 else if k = 6 then 2 else if k = 7 then 3 else if k = 9 then 4 else if k = 8 then 5 else
  if k = 10 then 6 else if k = 4 then 7 else if k = 1 then 8 else if k = 2 then 9 else if k = 3 then 9 else 11
mutual
/-- How one value stands to another. -/
def orderI (lang : Int) : Val → Val → Int
  | .mk k b n t x l, .mk k2 b2 n2 t2 x2 l2 =>
    lexI (cmpZ (rankI lang k) (rankI lang k2))
      (if k = 5 then listI lang l l2
       else if k = 6 ∨ k = 7 then cmpZ n n2
       else if k = 1 then boolI b b2
       else if k = 2 ∨ k = 3 then lexI (cmpZ (numV k n t) (numV k2 n2 t2)) (lexI (cmpZ k k2) (if k = 3 then bytesI t.toList t2.toList else 0))
       else lexI (bytesI t.toList t2.toList) (bytesI x.toList x2.toList))
def listI (lang : Int) : List Val → List Val → Int
  | [], [] => 0
  | [], _ :: _ => -1
  | _ :: _, [] => 1
  | u :: r, v :: s => lexI (orderI lang u v) (listI lang r s)
end

/-- Three answers that go together. -/
structure Tri (x y z : Int) : Prop where
  le : x ≤ 0 → y ≤ 0 → z ≤ 0
  lt : x < 0 → y ≤ 0 → z < 0
  tl : x ≤ 0 → y < 0 → z < 0
  eq : x = 0 → y = 0 → z = 0
theorem Tri.lex {x y z x2 y2 z2 : Int} (h : Tri x y z) (h2 : Tri x2 y2 z2) : Tri (lexI x x2) (lexI y y2) (lexI z z2) := by
  obtain ⟨a, b, c, d⟩ := h
  obtain ⟨a2, b2, c2, d2⟩ := h2
  constructor <;> unfold lexI <;> intro p q <;> (repeat' split at p) <;> (repeat' split at q) <;> (repeat' split) <;> omega
theorem lexI_neg {x y : Int} : lexI (-x) (-y) = -lexI x y := by
  unfold lexI
  split <;> split <;> omega
theorem tri_cmpZ (a b c : Int) : Tri (cmpZ a b) (cmpZ b c) (cmpZ a c) := by
  constructor <;> unfold cmpZ <;> (repeat' split) <;> omega
theorem boolI_neg (a b : Bool) : boolI b a = -boolI a b := by cases a <;> cases b <;> rfl
theorem tri_bool (a b c : Bool) : Tri (boolI a b) (boolI b c) (boolI a c) := by
  cases a <;> cases b <;> cases c <;> constructor <;> decide
theorem bytesI_neg (l m : List UInt8) : bytesI m l = -bytesI l m := by
  unfold bytesI
  cases h : Op.bytesLess l m
  · cases h2 : Op.bytesLess m l <;> simp
  · rw [less_asymm _ _ h]; simp
theorem less_total : (l m : List UInt8) → Op.bytesLess l m = false → Op.bytesLess m l = false → l = m
  | [], [], _, _ => rfl
  | [], _ :: _, h, _ => by cases h
  | _ :: _, [], _, h => by cases h
  | a :: x, b :: y, h, g => by
    unfold Op.bytesLess at h g
    rw [Bool.or_eq_false_iff, decide_eq_false_iff_not, Bool.and_eq_false_iff, beq_eq_false_iff_ne] at h g
    have e : a = b := by
      have h1 := h.1
      have g1 := g.1
      rw [UInt8.lt_iff_toNat_lt] at h1 g1
      exact UInt8.toNat_inj.1 (by omega)
    subst e
    rcases h.2 with h2 | h2
    · exact absurd rfl h2
    · rcases g.2 with g2 | g2
      · exact absurd rfl g2
      · rw [less_total x y h2 g2]
theorem less_trans : (l m n : List UInt8) → Op.bytesLess l m = true → Op.bytesLess m n = true → Op.bytesLess l n = true
  | [], _, [], _, g => by
    rename_i m h
    cases m
    · cases h
    · cases g
  | [], _, _ :: _, _, _ => rfl
  | _ :: _, [], _, h, _ => by cases h
  | _ :: _, _ :: _, [], _, g => by cases g
  | a :: x, b :: y, c :: z, h, g => by
    unfold Op.bytesLess at h g ⊢
    rw [Bool.or_eq_true, Bool.and_eq_true, decide_eq_true_eq, beq_iff_eq] at h g ⊢
    rw [UInt8.lt_iff_toNat_lt] at h g ⊢
    rcases h with h | ⟨rfl, h⟩
    · rcases g with g | ⟨rfl, g⟩
      · exact .inl (by omega)
      · exact .inl h
    · rcases g with g | ⟨rfl, g⟩
      · exact .inl g
      · exact .inr ⟨rfl, less_trans x y z h g⟩
theorem tri_bytes (a b c : List UInt8) : Tri (bytesI a b) (bytesI b c) (bytesI a c) := by
  rcases h1 : Op.bytesLess a b with _ | _
  · rcases h2 : Op.bytesLess b a with _ | _
    · obtain rfl := less_total a b h1 h2
      have e : bytesI a a = 0 := by unfold bytesI; rw [less_irrefl]; simp
      rw [e]
      constructor <;> intros <;> omega
    · have e : bytesI a b = 1 := by unfold bytesI; rw [h1, h2]; simp
      rw [e]
      constructor <;> intros <;> omega
  · have e : bytesI a b = -1 := by unfold bytesI; rw [h1]; simp
    rw [e]
    rcases h3 : Op.bytesLess b c with _ | _
    · rcases h4 : Op.bytesLess c b with _ | _
      · obtain rfl := less_total b c h3 h4
        rw [e]
        constructor <;> intros <;> omega
      · have e2 : bytesI b c = 1 := by unfold bytesI; rw [h3, h4]; simp
        rw [e2]
        constructor <;> intros <;> omega
    · have e3 : bytesI a c = -1 := by unfold bytesI; rw [less_trans a b c h1 h3]; simp
      rw [e3]
      constructor <;> intros <;> omega
theorem Tri.lexIf {x y z x2 y2 z2 : Int} (h : Tri x y z) (h2 : x = 0 → y = 0 → Tri x2 y2 z2) : Tri (lexI x x2) (lexI y y2) (lexI z z2) := by
  by_cases e : x = 0 ∧ y = 0
  · exact h.lex (h2 e.1 e.2)
  · obtain ⟨a, b, c, d⟩ := h
    constructor <;> unfold lexI <;> intro p q <;> (repeat' split at p) <;> (repeat' split at q) <;> (repeat' split) <;> omega
theorem cmpZ_only {a b : Int} (h : cmpZ a b = 0) : a = b := by
  unfold cmpZ at h
  (repeat' split at h) <;> omega
theorem cmpZ_same (a : Int) : cmpZ a a = 0 := by unfold cmpZ; (repeat' split) <;> omega
theorem lexI_zero (d : Int) : lexI 0 d = d := rfl
theorem lexI_left {c : Int} (h : c ≠ 0) (d e : Int) : lexI c d = lexI c e := by unfold lexI; rw [if_neg h, if_neg h]
theorem rank5 (lang k : Int) : rankI lang k = 1 ↔ k = 5 := by unfold rankI; (repeat' split) <;> omega
theorem rank67 (lang k : Int) : (rankI lang k = 2 ∨ rankI lang k = 3) ↔ (k = 6 ∨ k = 7) := by unfold rankI; (repeat' split) <;> omega
theorem rank1 (lang k : Int) : rankI lang k = 8 ↔ k = 1 := by unfold rankI; (repeat' split) <;> omega
theorem rank23 (lang k : Int) : rankI lang k = 9 ↔ (k = 2 ∨ k = 3) := by unfold rankI; (repeat' split) <;> omega
theorem rank_cat {lang k k2 : Int} (h : rankI lang k = rankI lang k2) : (k = 5 ↔ k2 = 5) ∧ ((k = 6 ∨ k = 7) ↔ (k2 = 6 ∨ k2 = 7)) ∧ (k = 1 ↔ k2 = 1) ∧ ((k = 2 ∨ k = 3) ↔ (k2 = 2 ∨ k2 = 3)) := by
  rw [← rank5 lang k, ← rank5 lang k2, ← rank67 lang k, ← rank67 lang k2, ← rank1 lang k, ← rank1 lang k2, ← rank23 lang k, ← rank23 lang k2, h]
  exact ⟨.rfl, .rfl, .rfl, .rfl⟩
/-- How two of one rank stand, but for lists. -/
def innerI (k n : Int) (b : Bool) (t x : ByteArray) (k2 n2 : Int) (b2 : Bool) (t2 x2 : ByteArray) : Int :=
  if k = 6 ∨ k = 7 then cmpZ n n2
  else if k = 1 then boolI b b2
  else if k = 2 ∨ k = 3 then lexI (cmpZ (numV k n t) (numV k2 n2 t2)) (lexI (cmpZ k k2) (if k = 3 then bytesI t.toList t2.toList else 0))
  else lexI (bytesI t.toList t2.toList) (bytesI x.toList x2.toList)
theorem orderI_mk (lang : Int) (k : Int) (b : Bool) (n : Int) (t x : ByteArray) (l : List Val) (k2 : Int) (b2 : Bool) (n2 : Int) (t2 x2 : ByteArray) (l2 : List Val) : orderI lang (.mk k b n t x l) (.mk k2 b2 n2 t2 x2 l2) =
    lexI (cmpZ (rankI lang k) (rankI lang k2)) (if k = 5 then listI lang l l2 else innerI k n b t x k2 n2 b2 t2 x2) := by
  unfold orderI innerI
  rfl
theorem inner_neg {lang k k2 : Int} (h : rankI lang k = rankI lang k2) (n : Int) (b : Bool) (t x : ByteArray) (n2 : Int) (b2 : Bool) (t2 x2 : ByteArray) : innerI k2 n2 b2 t2 x2 k n b t x = -innerI k n b t x k2 n2 b2 t2 x2 := by
  obtain ⟨_, c2, c3, c4⟩ := rank_cat h
  unfold innerI
  by_cases h2 : k = 6 ∨ k = 7
  · rw [if_pos h2, if_pos (c2.1 h2), cmpZ_swap]
  · rw [if_neg h2, if_neg (fun e => h2 (c2.2 e))]
    by_cases h3 : k = 1
    · rw [if_pos h3, if_pos (c3.1 h3), boolI_neg]
    · rw [if_neg h3, if_neg (fun e => h3 (c3.2 e))]
      by_cases h4 : k = 2 ∨ k = 3
      · rw [if_pos h4, if_pos (c4.1 h4)]
        by_cases e : k = k2
        · subst e
          by_cases h5 : k = 3
          · rw [if_pos h5, if_pos h5, cmpZ_same, lexI_zero, lexI_zero, ← lexI_neg, ← cmpZ_swap, ← bytesI_neg]
          · rw [if_neg h5, if_neg h5, cmpZ_same, lexI_zero, ← lexI_neg, ← cmpZ_swap, Int.neg_zero]
        · have d : cmpZ k k2 ≠ 0 := fun z => e (cmpZ_only z)
          have d2 : cmpZ k2 k ≠ 0 := fun z => e (cmpZ_only z).symm
          rw [lexI_left d _ (-0), lexI_left d2 _ (- -0), cmpZ_swap (numV k n t), cmpZ_swap k k2, lexI_neg, lexI_neg]
      · rw [if_neg h4, if_neg (fun e => h4 (c4.2 e)), bytesI_neg t.toList, bytesI_neg x.toList, lexI_neg]
theorem inner_tri {lang k k2 k3 : Int} (h : rankI lang k = rankI lang k2) (n : Int) (b : Bool) (t x : ByteArray) (n2 : Int) (b2 : Bool) (t2 x2 : ByteArray) (n3 : Int) (b3 : Bool) (t3 x3 : ByteArray) :
    Tri (innerI k n b t x k2 n2 b2 t2 x2) (innerI k2 n2 b2 t2 x2 k3 n3 b3 t3 x3) (innerI k n b t x k3 n3 b3 t3 x3) := by
  obtain ⟨_, c2, c3, c4⟩ := rank_cat h
  unfold innerI
  by_cases h2 : k = 6 ∨ k = 7
  · rw [if_pos h2, if_pos (c2.1 h2), if_pos h2]
    exact tri_cmpZ _ _ _
  · rw [if_neg h2, if_neg (fun e => h2 (c2.2 e)), if_neg h2]
    by_cases h3 : k = 1
    · rw [if_pos h3, if_pos (c3.1 h3), if_pos h3]
      exact tri_bool _ _ _
    · rw [if_neg h3, if_neg (fun e => h3 (c3.2 e)), if_neg h3]
      by_cases h4 : k = 2 ∨ k = 3
      · rw [if_pos h4, if_pos (c4.1 h4), if_pos h4]
        refine (tri_cmpZ _ _ _).lex ((tri_cmpZ k k2 k3).lexIf fun e e' => ?_)
        obtain rfl := cmpZ_only e
        by_cases h5 : k = 3
        · rw [if_pos h5, if_pos h5, if_pos h5]
          exact tri_bytes _ _ _
        · rw [if_neg h5, if_neg h5, if_neg h5]
          constructor <;> intros <;> omega
      · rw [if_neg h4, if_neg (fun e => h4 (c4.2 e)), if_neg h4]
        exact (tri_bytes _ _ _).lex (tri_bytes _ _ _)
mutual
theorem orderI_neg (lang : Int) : (v v2 : Val) → orderI lang v2 v = -orderI lang v v2
  | .mk k b n t x l, .mk k2 b2 n2 t2 x2 l2 => by
    rw [orderI_mk, orderI_mk]
    by_cases h : rankI lang k = rankI lang k2
    · rw [h, cmpZ_same, lexI_zero, lexI_zero]
      have c := (rank_cat h).1
      by_cases h5 : k = 5
      · rw [if_pos h5, if_pos (c.1 h5)]
        exact listI_neg lang l l2
      · rw [if_neg h5, if_neg (fun e => h5 (c.2 e))]
        exact inner_neg h _ _ _ _ _ _ _ _
    · have d : cmpZ (rankI lang k) (rankI lang k2) ≠ 0 := fun z => h (cmpZ_only z)
      have d2 : cmpZ (rankI lang k2) (rankI lang k) ≠ 0 := fun z => h (cmpZ_only z).symm
      rw [lexI_left d _ (-0), lexI_left d2 _ (- -0), cmpZ_swap (rankI lang k), lexI_neg]
theorem listI_neg (lang : Int) : (l m : List Val) → listI lang m l = -listI lang l m
  | [], [] => by unfold listI; rfl
  | [], _ :: _ => by unfold listI; rfl
  | _ :: _, [] => by unfold listI; rfl
  | u :: r, v :: s => by
    unfold listI
    rw [orderI_neg lang u v, listI_neg lang r s, lexI_neg]
end
mutual
theorem orderI_tri (lang : Int) : (v v2 v3 : Val) → Tri (orderI lang v v2) (orderI lang v2 v3) (orderI lang v v3)
  | .mk k b n t x l, .mk k2 b2 n2 t2 x2 l2, .mk k3 b3 n3 t3 x3 l3 => by
    rw [orderI_mk, orderI_mk, orderI_mk]
    refine (tri_cmpZ _ _ _).lexIf fun e e' => ?_
    have h := cmpZ_only e
    have c := (rank_cat h).1
    by_cases h5 : k = 5
    · rw [if_pos h5, if_pos (c.1 h5), if_pos h5]
      exact listI_tri lang l l2 l3
    · rw [if_neg h5, if_neg (fun e => h5 (c.2 e)), if_neg h5]
      exact inner_tri h _ _ _ _ _ _ _ _ _ _ _ _
theorem listI_tri (lang : Int) : (l l2 l3 : List Val) → Tri (listI lang l l2) (listI lang l2 l3) (listI lang l l3)
  | [], [], [] => by unfold listI; constructor <;> intros <;> omega
  | [], [], _ :: _ => by unfold listI; constructor <;> intros <;> omega
  | [], _ :: _, [] => by unfold listI; constructor <;> intros <;> omega
  | [], _ :: _, _ :: _ => by
    unfold listI
    constructor <;> intros <;> omega
  | _ :: _, [], [] => by unfold listI; constructor <;> intros <;> omega
  | _ :: _, [], _ :: _ => by unfold listI; constructor <;> intros <;> omega
  | _ :: _, _ :: _, [] => by
    unfold listI
    constructor <;> intros <;> omega
  | u :: r, v :: s, z :: q => by
    unfold listI
    exact (orderI_tri lang u v z).lex (listI_tri lang r s q)
end
end Go.Proofs.YtffbcccbhofbpaaGreatDoor

/- The order of all values: 0 just of values that are the same, of those that may be; where none stands; how it goes with Less. No Go stands here. -/
namespace Go.Proofs.YtffbcccbhofbpaaGreatDoor

theorem lexI_none {c d : Int} (h : lexI c d = 0) : c = 0 ∧ d = 0 := by
  unfold lexI at h
  split at h
  · exact ⟨‹_›, h⟩
  · exact absurd h ‹_›
theorem bytesI_none {l m : List UInt8} (h : bytesI l m = 0) : l = m := by
  unfold bytesI at h
  cases h1 : Op.bytesLess l m
  · cases h2 : Op.bytesLess m l
    · exact less_total l m h1 h2
    · rw [h1, h2] at h; simp at h
  · rw [h1] at h; simp at h
theorem bytesI_nil (l : List UInt8) : 0 ≤ bytesI l [] := by
  cases l with
  | nil => decide
  | cons a r =>
    unfold bytesI
    rw [show Op.bytesLess (a :: r) [] = false from rfl]
    simp only [Bool.false_eq_true, if_false]
    split <;> omega
theorem lexI_low {c d : Int} (h : 0 ≤ c) (g : 0 ≤ d) : 0 ≤ lexI c d := by unfold lexI; split <;> assumption
theorem lexI_neg1 (d : Int) : lexI (-1) d = -1 := rfl
theorem lexI_one (d : Int) : lexI 1 d = 1 := rfl
theorem empty_toList {t : ByteArray} (h : t.size = 0) : t = ⟨#[]⟩ := by
  obtain ⟨⟨l⟩⟩ := t
  cases l with
  | nil => rfl
  | cons a r => exact absurd h (by simp [ByteArray.size])
theorem bare_of {b : Bool} {n : Int} {t x : ByteArray} {len : Nat} (h : bareP b n t x len = true) : b = false ∧ n = 0 ∧ t = ⟨#[]⟩ ∧ x = ⟨#[]⟩ ∧ len = 0 := by
  unfold bareP at h
  simp only [Bool.and_eq_true, Bool.not_eq_true', decide_eq_true_eq] at h
  exact ⟨h.1.1.1.1, h.1.1.1.2, empty_toList h.1.1.2, empty_toList h.1.2, h.2⟩
theorem nil_toList : (⟨#[]⟩ : ByteArray).toList = [] := by first | rfl | decide | (unfold ByteArray.toList; unfold ByteArray.toList.loop; rfl) | (unfold ByteArray.toList; unfold ByteArray.toList.loop; simp)
theorem order_nullC (k : Int) (b : Bool) (n : Int) (t x : ByteArray) (l : List Val) (h1 : 1 ≤ k) (h10 : k ≤ 10) : orderI 0 (.mk k b n t x l) (.mk 0 false 0 ⟨#[]⟩ ⟨#[]⟩ []) = -1 := by
  rw [orderI_mk]
  have e : cmpZ (rankI 0 k) (rankI 0 0) = -1 := by
    have h : rankI 0 k < 10 := by unfold rankI; (repeat' split) <;> omega
    have h0 : rankI 0 0 = 10 := rfl
    rw [h0]
    unfold cmpZ
    rw [if_pos h]
  rw [e]
  rfl
theorem order_nullS (k : Int) (b : Bool) (n : Int) (t x : ByteArray) (l : List Val) : 0 ≤ orderI 1 (.mk k b n t x l) (.mk 0 false 0 ⟨#[]⟩ ⟨#[]⟩ []) := by
  rw [orderI_mk]
  have h0 : rankI 1 0 = 0 := rfl
  by_cases hk : k = 0
  · subst hk
    rw [h0, cmpZ_same, lexI_zero, if_neg (by decide)]
    unfold innerI
    rw [if_neg (by decide), if_neg (by decide), if_neg (by decide)]
    rw [nil_toList]
    exact lexI_low (bytesI_nil _) (bytesI_nil _)
  · have e : cmpZ (rankI 1 k) (rankI 1 0) = 1 := by
      have h : 0 < rankI 1 k := by unfold rankI; (repeat' split) <;> omega
      rw [h0]
      unfold cmpZ
      rw [if_neg (by omega), if_pos h]
    rw [e, lexI_one]
    decide
theorem less_order (lang : Int) (v v2 : Val) (h : lessTop v v2 = 1) : orderI lang v v2 = -1 := by
  have h' : lessP v v2 = 1 := by
    unfold lessTop at h
    split at h
    · exact h
    · omega
  obtain ⟨k, b, n, t, x, l⟩ := v
  obtain ⟨k2, b2, n2, t2, x2, l2⟩ := v2
  rw [lessP_mk] at h'
  rw [orderI_mk]
  by_cases hn : numB k = true ∧ numB k2 = true
  · rw [if_pos hn, tI_one, decide_eq_true_eq] at h'
    have c1 := (numB_iff k).1 hn.1
    have c2 := (numB_iff k2).1 hn.2
    rw [(rank23 lang k).2 c1, (rank23 lang k2).2 c2, cmpZ_same, lexI_zero, if_neg (by omega)]
    unfold innerI
    rw [if_neg (by omega), if_neg (by omega), if_pos c1]
    have e : cmpZ (numV k n t) (numV k2 n2 t2) = -1 := by
      have := cmpZ_bound (numV k n t) (numV k2 n2 t2)
      omega
    rw [e, lexI_neg1]
  · rw [if_neg hn] at h'
    by_cases h4 : k = 4 ∧ k2 = 4
    · obtain ⟨rfl, rfl⟩ := h4
      rw [if_pos ⟨rfl, rfl⟩, tI_one] at h'
      rw [cmpZ_same, lexI_zero, if_neg (by decide)]
      unfold innerI
      rw [if_neg (by decide), if_neg (by decide), if_neg (by decide)]
      have e : bytesI t.toList t2.toList = -1 := by unfold bytesI; rw [h']; rfl
      rw [e, lexI_neg1]
    · rw [if_neg h4] at h'
      by_cases h1 : k = 1 ∧ k2 = 1
      · obtain ⟨rfl, rfl⟩ := h1
        rw [if_pos ⟨rfl, rfl⟩, tI_one] at h'
        rw [cmpZ_same, lexI_zero, if_neg (by decide)]
        unfold innerI
        rw [if_neg (by decide), if_pos rfl]
        cases b <;> cases b2 <;> first | rfl | (cases h')
      · rw [if_neg h1] at h'
        omega
theorem numV_whole (n : Int) (t : ByteArray) : numV 2 n t = n * 10 ^ 54 := by unfold numV; rw [if_pos rfl]
theorem rank0 (lang k : Int) : (rankI lang k = 0 ∨ rankI lang k = 10) ↔ k = 0 := by unfold rankI; (repeat' split) <;> omega
theorem rank4 (lang k : Int) : rankI lang k = 7 ↔ k = 4 := by unfold rankI; (repeat' split) <;> omega
theorem rank6 (lang k : Int) : rankI lang k = 2 ↔ k = 6 := by unfold rankI; (repeat' split) <;> omega
theorem rank7 (lang k : Int) : rankI lang k = 3 ↔ k = 7 := by unfold rankI; (repeat' split) <;> omega
theorem rank8 (lang k : Int) : rankI lang k = 5 ↔ k = 8 := by unfold rankI; (repeat' split) <;> omega
theorem rank9 (lang k : Int) : rankI lang k = 4 ↔ k = 9 := by unfold rankI; (repeat' split) <;> omega
theorem rank10 (lang k : Int) : rankI lang k = 6 ↔ k = 10 := by unfold rankI; (repeat' split) <;> omega
theorem plain_same (lang : Int) (k : Int) (b : Bool) (n : Int) (t x : ByteArray) (len : Nat) (r : Bool) (k2 : Int) (b2 : Bool) (n2 : Int) (t2 x2 : ByteArray) (len2 : Nat) (r2 : Bool) (er : rankI lang k = rankI lang k2) (h5 : ¬ k = 5)
    (m : fitsP k b n t x len r = true) (m2 : fitsP k2 b2 n2 t2 x2 len2 r2 = true) (hi : innerI k n b t x k2 n2 b2 t2 x2 = 0) : k = k2 ∧ b = b2 ∧ n = n2 ∧ t.toList = t2.toList ∧ x.toList = x2.toList ∧ len = 0 ∧ len2 = 0 := by
  by_cases h0 : k = 0
  · have e := (rank0 lang k2).1 (er ▸ (rank0 lang k).2 h0)
    subst h0 e
    unfold fitsP at m m2
    rw [if_pos rfl] at m m2
    obtain ⟨rfl, rfl, rfl, rfl, rfl⟩ := bare_of m
    obtain ⟨rfl, rfl, rfl, rfl, rfl⟩ := bare_of m2
    exact ⟨rfl, rfl, rfl, rfl, rfl, rfl, rfl⟩
  by_cases h1 : k = 1
  · have e := (rank1 lang k2).1 (er ▸ (rank1 lang k).2 h1)
    subst h1 e
    unfold fitsP at m m2
    rw [if_neg (by decide), if_pos rfl] at m m2
    obtain ⟨_, rfl, rfl, rfl, rfl⟩ := bare_of m
    obtain ⟨_, rfl, rfl, rfl, rfl⟩ := bare_of m2
    unfold innerI at hi
    rw [if_neg (by decide), if_pos rfl] at hi
    have eb : b = b2 := by cases b <;> cases b2 <;> first | rfl | (exact absurd hi (by decide))
    exact ⟨rfl, eb, rfl, rfl, rfl, rfl, rfl⟩
  by_cases h6 : k = 6 ∨ k = 7
  · have e : k2 = k := by
      rcases h6 with h | h
      · rw [h]; exact (rank6 lang k2).1 (er ▸ (rank6 lang k).2 h)
      · rw [h]; exact (rank7 lang k2).1 (er ▸ (rank7 lang k).2 h)
    subst e
    unfold innerI at hi
    rw [if_pos h6] at hi
    obtain rfl := cmpZ_only hi
    unfold fitsP at m m2
    rw [if_neg h0, if_neg h1, if_neg (by omega), if_neg (by omega), if_neg (by omega), if_neg h5, if_pos h6, Bool.and_eq_true] at m m2
    obtain ⟨rfl, _, rfl, rfl, rfl⟩ := bare_of m.2
    obtain ⟨rfl, _, rfl, rfl, rfl⟩ := bare_of m2.2
    exact ⟨rfl, rfl, rfl, rfl, rfl, rfl, rfl⟩
  by_cases h2 : k = 2 ∨ k = 3
  · unfold innerI at hi
    rw [if_neg h6, if_neg h1, if_pos h2] at hi
    obtain ⟨hn, hk⟩ := lexI_none hi
    obtain ⟨hk, ht⟩ := lexI_none hk
    have ek := cmpZ_only hk
    subst ek
    by_cases h3 : k = 3
    · subst h3
      rw [if_pos rfl] at ht
      have et := bytesI_none ht
      unfold fitsP at m m2
      rw [if_neg h0, if_neg h1, if_neg (by decide), if_pos rfl, Bool.and_eq_true] at m m2
      obtain ⟨rfl, rfl, _, rfl, rfl⟩ := bare_of m.2
      obtain ⟨rfl, rfl, _, rfl, rfl⟩ := bare_of m2.2
      exact ⟨rfl, rfl, rfl, et, rfl, rfl, rfl⟩
    · obtain rfl : k = 2 := by omega
      rw [numV_whole, numV_whole, cmpZ_scale] at hn
      obtain rfl := cmpZ_only hn
      unfold fitsP at m m2
      rw [if_neg h0, if_neg h1, if_pos rfl] at m m2
      obtain ⟨rfl, _, rfl, rfl, rfl⟩ := bare_of m
      obtain ⟨rfl, _, rfl, rfl, rfl⟩ := bare_of m2
      exact ⟨rfl, rfl, rfl, rfl, rfl, rfl, rfl⟩
  unfold innerI at hi
  rw [if_neg h6, if_neg h1, if_neg h2] at hi
  obtain ⟨ht, hx⟩ := lexI_none hi
  have et := bytesI_none ht
  have ex := bytesI_none hx
  have n2 : ¬ k = 2 := fun e => h2 (.inl e)
  have n3 : ¬ k = 3 := fun e => h2 (.inr e)
  have e : k2 = k := by
    by_cases a4 : k = 4
    · rw [a4]; exact (rank4 lang k2).1 (er ▸ (rank4 lang k).2 a4)
    by_cases a8 : k = 8
    · rw [a8]; exact (rank8 lang k2).1 (er ▸ (rank8 lang k).2 a8)
    by_cases a9 : k = 9
    · rw [a9]; exact (rank9 lang k2).1 (er ▸ (rank9 lang k).2 a9)
    by_cases a10 : k = 10
    · rw [a10]; exact (rank10 lang k2).1 (er ▸ (rank10 lang k).2 a10)
    unfold fitsP at m
    rw [if_neg h0, if_neg h1, if_neg n2, if_neg n3, if_neg a4, if_neg h5, if_neg h6, if_neg a8, if_neg a9, if_neg a10] at m
    cases m
  subst e
  unfold fitsP at m m2
  rw [if_neg h0, if_neg h1, if_neg n2, if_neg n3] at m m2
  by_cases a4 : k2 = 4
  · rw [if_pos a4, Bool.and_eq_true] at m m2
    obtain ⟨rfl, rfl, _, rfl, rfl⟩ := bare_of m.2
    obtain ⟨rfl, rfl, _, rfl, rfl⟩ := bare_of m2.2
    exact ⟨rfl, rfl, rfl, et, rfl, rfl, rfl⟩
  rw [if_neg a4, if_neg h5, if_neg h6] at m m2
  by_cases a8 : k2 = 8
  · rw [if_pos a8, Bool.and_eq_true] at m m2
    obtain ⟨rfl, rfl, _, rfl, rfl⟩ := bare_of m.2
    obtain ⟨rfl, rfl, _, rfl, rfl⟩ := bare_of m2.2
    exact ⟨rfl, rfl, rfl, et, rfl, rfl, rfl⟩
  rw [if_neg a8] at m m2
  by_cases a9 : k2 = 9
  · rw [if_pos a9, Bool.and_eq_true] at m m2
    obtain ⟨rfl, rfl, _, rfl, rfl⟩ := bare_of m.2
    obtain ⟨rfl, rfl, _, rfl, rfl⟩ := bare_of m2.2
    exact ⟨rfl, rfl, rfl, et, rfl, rfl, rfl⟩
  rw [if_neg a9] at m m2
  by_cases a10 : k2 = 10
  · rw [if_pos a10, Bool.and_eq_true, Bool.and_eq_true] at m m2
    obtain ⟨rfl, rfl, _, _, rfl⟩ := bare_of m.2.2
    obtain ⟨rfl, rfl, _, _, rfl⟩ := bare_of m2.2.2
    exact ⟨rfl, rfl, rfl, et, ex, rfl, rfl⟩
  rw [if_neg a10] at m
  cases m
mutual
/-- Of two that may be, the order tells 0 just where they are the same. -/
theorem order_same (lang : Int) : (v v2 : Val) → (d d2 : Nat) → mayP v d = true → mayP v2 d2 = true → orderI lang v v2 = 0 → sameP v v2 = true
  | .mk k b n t x l, .mk k2 b2 n2 t2 x2 l2, d, d2, m, m2, h => by
    rw [orderI_mk] at h
    obtain ⟨hr, hi⟩ := lexI_none h
    have er := cmpZ_only hr
    unfold mayP at m m2
    unfold sameP
    by_cases h5 : k = 5
    · have h52 := (rank_cat er).1.1 h5
      subst h5 h52
      rw [if_pos rfl] at hi
      unfold fitsP at m m2
      simp only [show ¬ (5 : Int) = 0 from by decide, show ¬ (5 : Int) = 1 from by decide, show ¬ (5 : Int) = 2 from by decide, show ¬ (5 : Int) = 3 from by decide, show ¬ (5 : Int) = 4 from by decide, if_true, if_false, Bool.and_eq_true] at m m2
      obtain ⟨⟨_, me⟩, mb⟩ := m
      obtain ⟨⟨_, me2⟩, mb2⟩ := m2
      obtain ⟨rfl, rfl, rfl, rfl, _⟩ := bare_of mb
      obtain ⟨rfl, rfl, rfl, rfl, _⟩ := bare_of mb2
      obtain ⟨e1, e2⟩ := list_same lang l l2 _ _ me me2 hi
      simp [e1, e2]
    · rw [if_neg h5] at hi
      obtain ⟨rfl, rfl, rfl, et, ex, l0, l20⟩ := plain_same lang k b n t x l.length _ k2 b2 n2 t2 x2 l2.length _ er h5 m m2 hi
      obtain rfl := List.length_eq_zero_iff.1 l0
      obtain rfl := List.length_eq_zero_iff.1 l20
      simp [et, ex, eachSame]
theorem list_same (lang : Int) : (l l2 : List Val) → (d d2 : Nat) → eachP l d = true → eachP l2 d2 = true → listI lang l l2 = 0 → l.length = l2.length ∧ eachSame l l2 = true
  | [], [], _, _, _, _, _ => by unfold eachSame; exact ⟨rfl, rfl⟩
  | [], _ :: _, _, _, _, _, h => by unfold listI at h; omega
  | _ :: _, [], _, _, _, _, h => by unfold listI at h; omega
  | u :: r, v :: s, d, d2, m, m2, h => by
    unfold listI at h
    unfold eachP at m m2
    rw [Bool.and_eq_true] at m m2
    obtain ⟨h1, h2⟩ := lexI_none h
    have a := order_same lang u v d d2 m.1 m2.1 h1
    obtain ⟨e1, e2⟩ := list_same lang r s d d2 m.2 m2.2 h2
    unfold eachSame
    rw [a, e2]
    exact ⟨by simp [e1], rfl⟩
end
end Go.Proofs.YtffbcccbhofbpaaGreatDoor

/- The order of all values: what is the same stands with it. No Go stands here. -/
namespace Go.Proofs.YtffbcccbhofbpaaGreatDoor

theorem loop_eq (t : ByteArray) : (n i : Nat) → (r : List UInt8) → n = t.size - i → ByteArray.toList.loop t i r = r.reverse ++ t.data.toList.drop i
  | 0, i, r, h => by
    unfold ByteArray.toList.loop
    rw [if_neg (by omega)]
    have : t.data.toList.length ≤ i := by rw [Array.length_toList]; show t.size ≤ i; omega
    rw [List.drop_eq_nil_of_le this, List.append_nil]
  | n + 1, i, r, h => by
    have hi : i < t.size := by omega
    unfold ByteArray.toList.loop
    rw [if_pos hi, loop_eq t n (i + 1) _ (by omega)]
    have hl : i < t.data.toList.length := by rw [Array.length_toList]; exact hi
    rw [List.drop_eq_getElem_cons hl, List.reverse_cons, List.append_assoc]
    have e : t.get! i = t.data.toList[i] := by
      obtain ⟨d⟩ := t
      have h2 : i < d.size := hi
      show d[i]! = d.toList[i]
      rw [getElem!_pos d i h2]
      simp
    rw [e]
    rfl
theorem toList_eq (t : ByteArray) : t.toList = t.data.toList := by
  unfold ByteArray.toList
  rw [loop_eq t _ 0 [] rfl]
  simp
theorem numV_same (k n : Int) {t t2 : ByteArray} (h : t.toList = t2.toList) : numV k n t = numV k n t2 := by
  rw [toList_eq, toList_eq] at h
  unfold numV
  rw [h]
theorem bytesI_same (l : List UInt8) : bytesI l l = 0 := by unfold bytesI; rw [less_irrefl]; rfl
mutual
theorem same_order (lang : Int) : (v v2 : Val) → sameP v v2 = true → orderI lang v v2 = 0
  | .mk k b n t x l, .mk k2 b2 n2 t2 x2 l2, h => by
    obtain ⟨rfl, rfl, rfl, et, ex⟩ := sameP_parts h
    have hl : l.length = l2.length ∧ eachSame l l2 = true := by
      unfold sameP at h
      simp only [Bool.and_eq_true, beq_iff_eq] at h
      exact h.2.2.2.2.2
    rw [orderI_mk, cmpZ_same, lexI_zero]
    by_cases h5 : k = 5
    · rw [if_pos h5]
      exact same_list lang l l2 hl.1 hl.2
    · rw [if_neg h5]
      unfold innerI
      rw [numV_same k n et, et, ex, cmpZ_same, cmpZ_same, cmpZ_same, bytesI_same, bytesI_same]
      split
      · rfl
      · split
        · unfold boolI
          rw [if_pos rfl]
        · split
          · split <;> rfl
          · rfl
theorem same_list (lang : Int) : (l l2 : List Val) → l.length = l2.length → eachSame l l2 = true → listI lang l l2 = 0
  | [], [], _, _ => by unfold listI; rfl
  | [], _ :: _, h, _ => absurd h (by simp)
  | _ :: _, [], h, _ => absurd h (by simp)
  | u :: r, v :: s, h, g => by
    unfold eachSame at g
    rw [Bool.and_eq_true] at g
    unfold listI
    rw [same_order lang u v g.1, lexI_zero]
    exact same_list lang r s (by simpa using h) g.2
end
/-- The order tells one of three. -/
theorem lexI_three {c d : Int} (h : -1 ≤ c ∧ c ≤ 1) (g : -1 ≤ d ∧ d ≤ 1) : -1 ≤ lexI c d ∧ lexI c d ≤ 1 := by unfold lexI; split <;> assumption
theorem bytesI_three (l m : List UInt8) : -1 ≤ bytesI l m ∧ bytesI l m ≤ 1 := by unfold bytesI; (repeat' split) <;> omega
theorem boolI_three (a b : Bool) : -1 ≤ boolI a b ∧ boolI a b ≤ 1 := by unfold boolI; (repeat' split) <;> omega
mutual
theorem order_three (lang : Int) : (v v2 : Val) → -1 ≤ orderI lang v v2 ∧ orderI lang v v2 ≤ 1
  | .mk k b n t x l, .mk k2 b2 n2 t2 x2 l2 => by
    rw [orderI_mk]
    refine lexI_three (cmpZ_bound _ _) ?_
    by_cases h5 : k = 5
    · rw [if_pos h5]
      exact list_three lang l l2
    · rw [if_neg h5]
      unfold innerI
      split
      · exact cmpZ_bound _ _
      · split
        · exact boolI_three _ _
        · split
          · refine lexI_three (cmpZ_bound _ _) (lexI_three (cmpZ_bound _ _) ?_)
            split
            · exact bytesI_three _ _
            · omega
          · exact lexI_three (bytesI_three _ _) (bytesI_three _ _)
theorem list_three (lang : Int) : (l l2 : List Val) → -1 ≤ listI lang l l2 ∧ listI lang l l2 ≤ 1
  | [], [] => by unfold listI; omega
  | [], _ :: _ => by unfold listI; omega
  | _ :: _, [] => by unfold listI; omega
  | u :: r, v :: s => by
    unfold listI
    exact lexI_three (order_three lang u v) (list_three lang r s)
end
end Go.Proofs.YtffbcccbhofbpaaGreatDoor

/- What was encoded is decoded as it was: the pure half. -/
namespace Go.Proofs.YtffbcccbhofbpaaGreatDoor

mutual
/-- Each number fits, in all that lies in a value. -/
def fineV : Val → Prop
  | .mk _ _ n t x l => Fine n t x l.length ∧ fineAll l
def fineAll : List Val → Prop
  | [] => True
  | v :: r => fineV v ∧ fineAll r
end
mutual
theorem HoldsOne.fine {w : World} {g off : Nat} : (v : Val) → HoldsOne w g off v → fineV v
  | .mk k b n t x l, h => by
    unfold HoldsOne at h
    obtain ⟨_, _, _, _, _, hf, L, _, hl⟩ := h
    unfold fineV
    exact ⟨hf, Held.fine l hl⟩
theorem Held.fine {w : World} {L : Value} : (l : List Val) → Held w L l → fineAll l
  | [], _ => by unfold fineAll; trivial
  | v :: r, h => by
    unfold Held at h
    obtain ⟨g, off, cap, e, hv, hr⟩ := h
    unfold fineAll
    exact ⟨HoldsOne.fine v hv, Holds.fine r hr⟩
theorem Holds.fine {w : World} {g off : Nat} : (l : List Val) → Holds w g off l → fineAll l
  | [], _ => by unfold fineAll; trivial
  | v :: r, h => by
    unfold Holds at h
    unfold fineAll
    exact ⟨HoldsOne.fine v h.1, Holds.fine r h.2⟩
end
theorem fine_mem : {l : List Val} → {v : Val} → fineAll l → v ∈ l → fineV v
  | [], _, _, h => absurd h (by simp)
  | u :: r, v, hf, h => by
    unfold fineAll at hf
    rcases List.mem_cons.1 h with h | h
    · rw [h]; exact hf.1
    · exact fine_mem hf.2 h
theorem toI64_be (n : Int) (h1 : -9223372036854775808 ≤ n) (h2 : n ≤ 9223372036854775807) : toI64 (numW (beB n 8)) = n := by
  have h := numW_be n 8
  rw [show (256 : Int) ^ 8 = 18446744073709551616 from rfl] at h
  generalize numW (beB n 8) = m at h ⊢
  unfold toI64
  split <;> omega
theorem take_app {a b : List UInt8} {k : Nat} (h : a.length = k) : (a ++ b).take k = a := by subst h; exact List.take_left
theorem drop_app {a b : List UInt8} {k : Nat} (h : a.length = k) : (a ++ b).drop k = b := by subst h; exact List.drop_left
theorem rdT_len (t : ByteArray) (r : List UInt8) (ht : t.size ≤ 1048576) : rdT (lenB t ++ r) = some (t, r) := by
  unfold rdT lenB
  have e1 : (beB t.size 4 ++ txtB t ++ r).take 4 = beB t.size 4 := by rw [List.append_assoc]; exact take_app (beB_length _ _)
  have e2 : (beB t.size 4 ++ txtB t ++ r).drop 4 = txtB t ++ r := by rw [List.append_assoc]; exact drop_app (beB_length _ _)
  have e3 : numW (beB t.size 4) = t.size := by
    have h := numW_be t.size 4
    rw [show (256 : Int) ^ 4 = 4294967296 from rfl] at h
    omega
  rw [e1, e2, e3, if_pos ⟨by rw [List.length_append, List.length_append, beB_length]; omega, ht, by rw [List.length_append, txtB_length]; omega⟩, take_app (txtB_length t), drop_app (txtB_length t)]
  rfl
theorem e0 {t : ByteArray} (h : t.size = 0) : t = E0 := by
  have : t.data = #[] := Array.size_eq_zero_iff.1 h
  cases t
  simp only at this
  subst this
  rfl
theorem bare_parts {b : Bool} {n : Int} {t x : ByteArray} {len : Nat} (h : bareP b n t x len = true) : b = false ∧ n = 0 ∧ t.size = 0 ∧ x.size = 0 ∧ len = 0 := by
  unfold bareP at h
  simp only [Bool.and_eq_true, decide_eq_true_eq, Bool.not_eq_true'] at h
  obtain ⟨⟨⟨⟨h1, h2⟩, h3⟩, h4⟩, h5⟩ := h
  exact ⟨h1, h2, h3, h4, h5⟩
theorem kindB (k : Int) (h0 : 0 ≤ k) (h1 : k ≤ 10) : (byteOf k 0).toNat = k.toNat := by
  have h := byteOf_int k 0
  rw [show (2 : Int) ^ (8 * 0) = 1 from rfl, Int.ediv_one] at h
  omega
theorem nil_of {l : List Val} (h : l.length = 0) : l = [] := List.length_eq_zero_iff.1 h
theorem chk_size {t : ByteArray} (h : chk t.data.toList = true) : t.size ≤ 1048576 := by
  have := chk_len h
  rw [Array.length_toList] at this
  have e : t.data.size = t.size := rfl
  omega
theorem addr_size {t : ByteArray} (h : addrP t = true) : t.size ≤ 1048576 := by
  unfold addrP at h
  exact (of_decide_eq_true h).2.1
theorem name_size {t : ByteArray} (h : nameP t = true) : t.size ≤ 1048576 := by
  unfold nameP at h
  have := (of_decide_eq_true h).2.1
  omega
/-- What was encoded is read again, whatever lies behind it. -/
def Again (v : Val) : Prop := ∀ (d : Nat) (r : List UInt8), d ≤ 60 → fineV v → mayP v d = true → rdV (60 - d) (encP v ++ r) = some (v, r)
theorem again_list (d : Nat) (hd : d ≤ 60) : (q : List Val) → (∀ v ∈ q, Again v) → fineAll q → eachP q d = true → ∀ r, rdL (rdV (60 - d)) q.length (encAll q ++ r) = some (q, r)
  | [], _, _, _, r => by simp [rdL, encAll]
  | v :: q, hA, hf, hm, r => by
    unfold fineAll at hf
    unfold eachP at hm
    rw [Bool.and_eq_true] at hm
    have h1 := hA v (by simp) d (encAll q ++ r) hd hf.1 hm.1
    have h2 := again_list d hd q (fun u hu => hA u (List.mem_cons_of_mem _ hu)) hf.2 hm.2 r
    rw [List.length_cons]
    unfold rdL encAll
    rw [List.append_assoc, h1]
    simp only
    rw [h2]
theorem rdV_cons (f : Nat) (c : UInt8) (r : List UInt8) : rdV f (c :: r) = rdK (if f = 0 then none else some (rdV (f - 1))) c.toNat r := by
  cases f with
  | zero => rfl
  | succ f => rfl
theorem againStep (v : Val) (k : Int) (b : Bool) (n : Int) (t x : ByteArray) (q : List Val) (ev : v = .mk k b n t x q) (each : ∀ u ∈ q, Again u) : Again v := by
  subst ev
  intro d r hd hf hm
  unfold fineV at hf
  obtain ⟨hf, hfa⟩ := hf
  unfold mayP fitsP at hm
  unfold encP
  rw [List.cons_append, rdV_cons]
  split at hm
  · rename_i hk
    subst hk
    obtain ⟨rfl, rfl, ht, hx, hq⟩ := bare_parts hm
    rw [e0 ht, e0 hx, nil_of hq, kindB 0 (by decide) (by decide)]
    rfl
  split at hm
  · rename_i _ hk
    subst hk
    obtain ⟨_, rfl, ht, hx, hq⟩ := bare_parts hm
    rw [e0 ht, e0 hx, nil_of hq, kindB 1 (by decide) (by decide)]
    cases b <;> rfl
  split at hm
  · rename_i _ _ hk
    subst hk
    obtain ⟨rfl, _, ht, hx, hq⟩ := bare_parts hm
    rw [e0 ht, e0 hx, nil_of hq, kindB 2 (by decide) (by decide)]
    have h8 : (beB n 8 ++ r).take 8 = beB n 8 := take_app (beB_length _ _)
    have h9 : (beB n 8 ++ r).drop 8 = r := drop_app (beB_length _ _)
    show (if 8 ≤ (beB n 8 ++ r).length then some (Val.mk 2 false (toI64 (numW ((beB n 8 ++ r).take 8))) E0 E0 [], (beB n 8 ++ r).drop 8) else none) = _
    rw [if_pos (by rw [List.length_append, beB_length]; omega), h8, h9, toI64_be n hf.lo hf.hi]
  split at hm
  · rename_i _ _ _ hk
    subst hk
    rw [Bool.and_eq_true] at hm
    obtain ⟨hc, hm⟩ := hm
    obtain ⟨rfl, rfl, _, hx, hq⟩ := bare_parts hm
    rw [e0 hx, nil_of hq, kindB 3 (by decide) (by decide)]
    show (match rdT (lenB t ++ r) with | none => none | some (t, r') => some (Val.mk 3 false 0 t E0 [], r')) = _
    rw [rdT_len t r (chk_size hc)]
  split at hm
  · rename_i _ _ _ _ hk
    subst hk
    rw [Bool.and_eq_true] at hm
    obtain ⟨hc, hm⟩ := hm
    obtain ⟨rfl, rfl, _, hx, hq⟩ := bare_parts hm
    rw [e0 hx, nil_of hq, kindB 4 (by decide) (by decide)]
    show (match rdT (lenB t ++ r) with | none => none | some (t, r') => some (Val.mk 4 false 0 t E0 [], r')) = _
    rw [rdT_len t r (of_decide_eq_true hc)]
  split at hm
  · rename_i _ _ _ _ _ hk
    subst hk
    rw [Bool.and_eq_true, Bool.and_eq_true, Bool.and_eq_true] at hm
    obtain ⟨⟨⟨hl, hdd⟩, he⟩, hm⟩ := hm
    obtain ⟨rfl, rfl, ht, hx, _⟩ := bare_parts hm
    have hl := of_decide_eq_true hl
    have hdd := of_decide_eq_true hdd
    rw [e0 ht, e0 hx, kindB 5 (by decide) (by decide), if_neg (show ¬60 - d = 0 by omega)]
    have h4 : (beB q.length 4 ++ encAll q ++ r).take 4 = beB q.length 4 := by rw [List.append_assoc]; exact take_app (beB_length _ _)
    have h5 : (beB q.length 4 ++ encAll q ++ r).drop 4 = encAll q ++ r := by rw [List.append_assoc]; exact drop_app (beB_length _ _)
    have h6 : numW (beB q.length 4) = q.length := by
      have h := numW_be q.length 4
      rw [show (256 : Int) ^ 4 = 4294967296 from rfl] at h
      omega
    have h7 := again_list (d + 1) hdd q each hfa he r
    rw [show 60 - (d + 1) = 60 - d - 1 by omega] at h7
    show (if 4 ≤ (beB q.length 4 ++ encAll q ++ r).length ∧ numW ((beB q.length 4 ++ encAll q ++ r).take 4) ≤ 4096 then (match rdL (rdV (60 - d - 1)) (numW ((beB q.length 4 ++ encAll q ++ r).take 4)) ((beB q.length 4 ++ encAll q ++ r).drop 4) with | none => none | some (q, r') => some (Val.mk 5 false 0 E0 E0 q, r')) else none) = _
    rw [h4, h5, h6, if_pos ⟨by rw [List.length_append, List.length_append, beB_length]; omega, hl⟩, h7]
  split at hm
  · rename_i _ _ _ _ _ _ hk
    rw [Bool.and_eq_true] at hm
    obtain ⟨_, hm⟩ := hm
    obtain ⟨rfl, _, ht, hx, hq⟩ := bare_parts hm
    have h8 : (beB n 8 ++ r).take 8 = beB n 8 := take_app (beB_length _ _)
    have h9 : (beB n 8 ++ r).drop 8 = r := drop_app (beB_length _ _)
    rcases hk with hk | hk
    · subst hk
      rw [e0 ht, e0 hx, nil_of hq, kindB 6 (by decide) (by decide)]
      show (if 8 ≤ (beB n 8 ++ r).length then some (Val.mk 6 false (toI64 (numW ((beB n 8 ++ r).take 8))) E0 E0 [], (beB n 8 ++ r).drop 8) else none) = _
      rw [if_pos (by rw [List.length_append, beB_length]; omega), h8, h9, toI64_be n hf.lo hf.hi]
    · subst hk
      rw [e0 ht, e0 hx, nil_of hq, kindB 7 (by decide) (by decide)]
      show (if 8 ≤ (beB n 8 ++ r).length then some (Val.mk 7 false (toI64 (numW ((beB n 8 ++ r).take 8))) E0 E0 [], (beB n 8 ++ r).drop 8) else none) = _
      rw [if_pos (by rw [List.length_append, beB_length]; omega), h8, h9, toI64_be n hf.lo hf.hi]
  split at hm
  · rename_i _ _ _ _ _ _ _ hk
    subst hk
    rw [Bool.and_eq_true] at hm
    obtain ⟨hc, hm⟩ := hm
    obtain ⟨rfl, rfl, _, hx, hq⟩ := bare_parts hm
    rw [e0 hx, nil_of hq, kindB 8 (by decide) (by decide)]
    show (match rdT (lenB t ++ r) with | none => none | some (t, r') => some (Val.mk 8 false 0 t E0 [], r')) = _
    rw [rdT_len t r (addr_size hc)]
  split at hm
  · rename_i _ _ _ _ _ _ _ _ hk
    subst hk
    rw [Bool.and_eq_true] at hm
    obtain ⟨hc, hm⟩ := hm
    obtain ⟨rfl, rfl, _, hx, hq⟩ := bare_parts hm
    rw [e0 hx, nil_of hq, kindB 9 (by decide) (by decide)]
    show (match rdT (lenB t ++ r) with | none => none | some (t, r') => some (Val.mk 9 false 0 t E0 [], r')) = _
    rw [rdT_len t r (name_size hc)]
  split at hm
  · rename_i _ _ _ _ _ _ _ _ _ hk
    subst hk
    rw [Bool.and_eq_true, Bool.and_eq_true] at hm
    obtain ⟨ht, hc, hm⟩ := hm
    obtain ⟨rfl, rfl, _, _, hq⟩ := bare_parts hm
    rw [nil_of hq, kindB 10 (by decide) (by decide)]
    show (match rdT (lenB t ++ lenB x ++ r) with | none => none | some (t, r') => (match rdT r' with | none => none | some (x, r'') => some (Val.mk 10 false 0 t x [], r''))) = _
    rw [List.append_assoc, rdT_len t _ (of_decide_eq_true ht)]
    simp only
    rw [rdT_len x r (addr_size hc)]
  · cases hm
mutual
theorem againVal : (v : Val) → Again v
  | .mk k b n t x q => againStep _ k b n t x q rfl (againEach q)
theorem againEach : (q : List Val) → ∀ u ∈ q, Again u
  | [], _, h => absurd h (by simp)
  | v :: r, u, h => by
    rcases List.mem_cons.1 h with h | h
    · rw [h]; exact againVal v
    · exact againEach r u h
end
/-- What was encoded is decoded as it was. -/
theorem dec_enc (v : Val) (hf : fineV v) (hm : mayP v 0 = true) : decP (encP v) = some v := by
  have h := againVal v 0 [] (by omega) hf hm
  rw [List.append_nil] at h
  unfold decP
  rw [show (60 : Nat) - 0 = 60 from rfl] at h
  rw [h]
  simp only
  rw [if_pos hm]
/-- A byte more is refused. -/
theorem dec_more (v : Val) (hf : fineV v) (hm : mayP v 0 = true) (c : UInt8) : decP (encP v ++ [c]) = none := by
  have h := againVal v 0 [c] (by omega) hf hm
  unfold decP
  rw [show (60 : Nat) - 0 = 60 from rfl] at h
  rw [h]
/-- A byte less is refused. -/
theorem dec_less (v : Val) (hf : fineV v) (hm : mayP v 0 = true) (l : List UInt8) (c : UInt8) (e : encP v = l ++ [c]) : decP l = none := by
  have h := againVal v 0 [] (by omega) hf hm
  rw [List.append_nil, show (60 : Nat) - 0 = 60 from rfl] at h
  unfold decP
  cases hr : rdV 60 l with
  | none => rfl
  | some p =>
    obtain ⟨u, s⟩ := p
    cases s with
    | cons a s => rfl
    | nil =>
      have h2 := rdV_ext 60 l [c] u [] hr
      rw [← e, h] at h2
      simp at h2
/-- Unlike values have unlike bytes. -/
theorem enc_inj (v u : Val) (hf : fineV v) (hm : mayP v 0 = true) (hf2 : fineV u) (hm2 : mayP u 0 = true) (h : encP v = encP u) : v = u := by
  have h1 := dec_enc v hf hm
  have h2 := dec_enc u hf2 hm2
  rw [h, h2] at h1
  exact (Option.some.inj h1).symm
mutual
theorem same_eq : (v u : Val) → sameP v u = true → v = u
  | .mk k b n t x l, .mk k2 b2 n2 t2 x2 l2, h => by
    unfold sameP at h
    simp only [Bool.and_eq_true, beq_iff_eq] at h
    obtain ⟨rfl, rfl, rfl, ht, hx, hl, he⟩ := h
    rw [toList_eq, toList_eq] at ht hx
    have e1 : t = t2 := by cases t; cases t2; simp only at ht; rw [Array.toList_inj.1 ht]
    have e2 : x = x2 := by cases x; cases x2; simp only at hx; rw [Array.toList_inj.1 hx]
    rw [e1, e2, eachSame_eq l l2 hl he]
theorem eachSame_eq : (l l2 : List Val) → l.length = l2.length → eachSame l l2 = true → l = l2
  | [], [], _, _ => rfl
  | [], _ :: _, h, _ => absurd h (by simp)
  | _ :: _, [], h, _ => absurd h (by simp)
  | v :: r, u :: s, h, he => by
    unfold eachSame at he
    rw [Bool.and_eq_true] at he
    rw [same_eq v u he.1, eachSame_eq r s (by simpa using h) he.2]
end
end Go.Proofs.YtffbcccbhofbpaaGreatDoor
