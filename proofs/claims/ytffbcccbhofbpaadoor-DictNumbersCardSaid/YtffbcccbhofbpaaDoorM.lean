/- Plain facts on numbers kept as rows of sixteen nine-digit words. No Go stands here. -/
import Derived.KernelRfl
namespace Go.Proofs.YtffbcccbhofbpaaDoor

/-- One more than the greatest word. -/
def BASE : Nat := 1000000000
/-- What the lowest n words say. -/
def vN : Nat → (Nat → Nat) → Nat
  | 0, _ => 0
  | n + 1, f => vN n f + f n * BASE ^ n
/-- What sixteen words say. -/
def wval (f : Nat → Nat) : Nat := vN 16 f
/-- All words are words. -/
def Words (f : Nat → Nat) : Prop := ∀ j, j < 16 → f j < BASE
/-- f with v at k. -/
def upd (f : Nat → Nat) (k v : Nat) : Nat → Nat := fun j => if j = k then v else f j

theorem upd_same (f : Nat → Nat) (k v : Nat) : upd f k v k = v := by simp [upd]
theorem upd_other (f : Nat → Nat) {k j : Nat} (v : Nat) (h : j ≠ k) : upd f k v j = f j := by simp [upd, h]
theorem Words.upd {f : Nat → Nat} (h : Words f) {k v : Nat} (hv : v < BASE) : Words (upd f k v) := by
  intro j hj
  by_cases e : j = k
  · subst e; rw [upd_same]; exact hv
  · rw [upd_other _ _ e]; exact h j hj

theorem vN_congr (f g : Nat → Nat) (n : Nat) (h : ∀ j, j < n → f j = g j) : vN n f = vN n g := by
  induction n with
  | zero => rfl
  | succ n ih => simp only [vN]; rw [ih (fun j hj => h j (by omega)), h n (by omega)]

theorem vN_upd (f : Nat → Nat) (k v n : Nat) (h : n ≤ k) : vN n (upd f k v) = vN n f :=
  vN_congr _ _ _ fun j hj => upd_other _ _ (by omega)

theorem vN_lt (f : Nat → Nat) (h : Words f) (n : Nat) (hn : n ≤ 16) : vN n f < BASE ^ n := by
  induction n with
  | zero => simp [vN]
  | succ n ih =>
    have hj := h n (by omega)
    have ih := ih (by omega)
    have : f n * BASE ^ n + BASE ^ n ≤ BASE ^ (n + 1) := by
      have : (f n + 1) * BASE ^ n ≤ BASE * BASE ^ n := Nat.mul_le_mul_right _ hj
      rw [Nat.pow_succ, Nat.mul_comm (BASE ^ n)]
      rw [Nat.add_mul, Nat.one_mul] at this
      exact this
    simp only [vN]; omega

theorem wval_lt (f : Nat → Nat) (h : Words f) : wval f < BASE ^ 16 := vN_lt f h 16 (by omega)

theorem vN_le_of_lt (f g : Nat → Nat) (hx : Words f) (k : Nat) (hk : k ≤ 16) (h : f k < g k) : vN (k + 1) f < vN (k + 1) g := by
  have h1 := vN_lt f hx k hk
  have : f k * BASE ^ k + BASE ^ k ≤ g k * BASE ^ k := by
    have : (f k + 1) * BASE ^ k ≤ g k * BASE ^ k := Nat.mul_le_mul_right _ h
    rw [Nat.add_mul, Nat.one_mul] at this
    exact this
  simp only [vN]; omega

theorem vN_above (f g : Nat → Nat) (k n : Nat) (h : k ≤ n) (he : ∀ j, k ≤ j → j < n → f j = g j) :
    (vN n f : Int) - vN n g = (vN k f : Int) - vN k g := by
  induction n with
  | zero => obtain rfl : k = 0 := by omega
            rfl
  | succ n ih =>
    by_cases hk : k = n + 1
    · subst hk; rfl
    · have := ih (by omega) (fun j a b => he j a (by omega))
      have e := he n (by omega) (by omega)
      simp only [vN, e]; omega

theorem wval_lt_of (f g : Nat → Nat) (hx : Words f) (k : Nat) (hk : k < 16) (he : ∀ j, k < j → j < 16 → f j = g j)
    (h : f k < g k) : wval f < wval g := by
  have a := vN_above f g (k + 1) 16 (by omega) (fun j p q => he j (by omega) q)
  have b := vN_le_of_lt f g hx k (by omega) h
  unfold wval; omega

theorem wval_eq_of (f g : Nat → Nat) (he : ∀ j, j < 16 → f j = g j) : wval f = wval g := vN_congr _ _ _ he

/-- -1, 0 or 1. -/
def cmpI (a b : Nat) : Int := if a < b then -1 else if b < a then 1 else 0
theorem cmpI_lt {a b : Nat} (h : a < b) : cmpI a b = -1 := by simp [cmpI, h]
theorem cmpI_gt {a b : Nat} (h : b < a) : cmpI a b = 1 := by simp [cmpI, h]; omega
theorem cmpI_eq {a b : Nat} (h : a = b) : cmpI a b = 0 := by simp [cmpI, h]

/-- After k rounds of adding g to f: h so far, c over. -/
structure AddTo (f g h : Nat → Nat) (c k : Nat) : Prop where
  sum : vN k h + c * BASE ^ k = vN k f + vN k g
  rest : ∀ j, k ≤ j → h j = f j
  words : Words h
  one : c ≤ 1

theorem AddTo.zero {f g : Nat → Nat} (hf : Words f) : AddTo f g f 0 0 := ⟨by simp [vN], fun _ _ => rfl, hf, by omega⟩
theorem AddTo.step {f g h : Nat → Nat} {c k : Nat} (H : AddTo f g h c k) (hf : Words f) (hg : Words g) (hk : k < 16) :
    AddTo f g (upd h k ((h k + g k + c) % BASE)) ((h k + g k + c) / BASE) (k + 1) := by
  have e := H.rest k (Nat.le_refl _)
  have h1 := hf k hk
  have h2 := hg k hk
  have h3 := H.one
  refine ⟨?_, ?_, H.words.upd (Nat.mod_lt _ (by decide)), ?_⟩
  · simp only [vN, upd_same, vN_upd _ _ _ _ (Nat.le_refl _)]
    have d := Nat.div_add_mod (h k + g k + c) BASE
    have s := H.sum
    generalize (h k + g k + c) / BASE = q at *
    generalize (h k + g k + c) % BASE = r at *
    rw [← e, Nat.pow_succ]
    have : q * (BASE ^ k * BASE) = BASE * q * BASE ^ k := by rw [Nat.mul_comm (BASE ^ k), ← Nat.mul_assoc, Nat.mul_comm q]
    rw [this]
    have d2 : (BASE * q + r) * BASE ^ k = (h k + g k + c) * BASE ^ k := by rw [d]
    simp only [Nat.add_mul] at d2 ⊢
    omega
  · intro j hj
    rw [upd_other _ _ (by omega)]
    exact H.rest j (by omega)
  · unfold BASE at *; omega

/-- After k rounds of taking g away from f: h so far, c borrowed. -/
structure TakeFrom (f g h : Nat → Nat) (c k : Nat) : Prop where
  sum : vN k h + vN k g = vN k f + c * BASE ^ k
  rest : ∀ j, k ≤ j → h j = f j
  words : Words h
  one : c ≤ 1

theorem TakeFrom.zero {f g : Nat → Nat} (hf : Words f) : TakeFrom f g f 0 0 := ⟨by simp [vN], fun _ _ => rfl, hf, by omega⟩
theorem TakeFrom.step {f g h : Nat → Nat} {c k : Nat} (H : TakeFrom f g h c k) (hf : Words f) (hg : Words g) (hk : k < 16) :
    TakeFrom f g (upd h k ((BASE + h k - g k - c) % BASE)) (1 - (BASE + h k - g k - c) / BASE) (k + 1) := by
  have e := H.rest k (Nat.le_refl _)
  have h1 := hf k hk
  have h2 := hg k hk
  have h3 := H.one
  refine ⟨?_, ?_, H.words.upd (Nat.mod_lt _ (by decide)), Nat.sub_le _ _⟩
  · simp only [vN, upd_same, vN_upd _ _ _ _ (Nat.le_refl _)]
    have s := H.sum
    have d : (BASE + h k - g k - c) % BASE + g k + c = h k + (1 - (BASE + h k - g k - c) / BASE) * BASE := by
      rw [e]
      unfold BASE at *
      by_cases hh : f k < g k + c
      · have : (1000000000 + f k - g k - c) / 1000000000 = 0 := by omega
        rw [this]; omega
      · have : (1000000000 + f k - g k - c) / 1000000000 = 1 := by omega
        rw [this]; omega
    generalize 1 - (BASE + h k - g k - c) / BASE = q at *
    generalize (BASE + h k - g k - c) % BASE = r at *
    rw [← e, Nat.pow_succ]
    have : q * (BASE ^ k * BASE) = q * BASE * BASE ^ k := by rw [Nat.mul_comm (BASE ^ k), ← Nat.mul_assoc]
    rw [this]
    have d2 : (r + g k + c) * BASE ^ k = (h k + q * BASE) * BASE ^ k := by rw [d]
    simp only [Nat.add_mul] at d2 ⊢
    omega
  · intro j hj
    rw [upd_other _ _ (by omega)]
    exact H.rest j (by omega)

/-- After k rounds of pushing digit d below f: h so far, c over. -/
structure PushTo (f : Nat → Nat) (d : Nat) (h : Nat → Nat) (c k : Nat) : Prop where
  sum : vN k h + c * BASE ^ k = vN k f * 10 + d
  rest : ∀ j, k ≤ j → h j = f j
  words : Words h
  one : c ≤ 9
theorem PushTo.zero {f : Nat → Nat} (hf : Words f) {d : Nat} (hd : d ≤ 9) : PushTo f d f d 0 := ⟨by simp [vN], fun _ _ => rfl, hf, by omega⟩
theorem PushTo.step {f h : Nat → Nat} {d c k : Nat} (H : PushTo f d h c k) (hf : Words f) (hk : k < 16) :
    PushTo f d (upd h k ((h k * 10 + c) % BASE)) ((h k * 10 + c) / BASE) (k + 1) := by
  have e := H.rest k (Nat.le_refl _)
  have h1 := hf k hk
  have h3 := H.one
  refine ⟨?_, ?_, H.words.upd (Nat.mod_lt _ (by decide)), ?_⟩
  · simp only [vN, upd_same, vN_upd _ _ _ _ (Nat.le_refl _)]
    have dd := Nat.div_add_mod (h k * 10 + c) BASE
    have s := H.sum
    generalize (h k * 10 + c) / BASE = q at *
    generalize (h k * 10 + c) % BASE = r at *
    rw [← e, Nat.pow_succ]
    have : q * (BASE ^ k * BASE) = BASE * q * BASE ^ k := by rw [Nat.mul_comm (BASE ^ k), ← Nat.mul_assoc, Nat.mul_comm q]
    rw [this]
    have d2 : (BASE * q + r) * BASE ^ k = (h k * 10 + c) * BASE ^ k := by rw [dd]
    have d3 : h k * BASE ^ k * 10 = h k * 10 * BASE ^ k := by rw [Nat.mul_right_comm]
    simp only [Nat.add_mul] at d2 ⊢
    omega
  · intro j hj
    rw [upd_other _ _ (by omega)]
    exact H.rest j (by omega)
  · rw [e]; unfold BASE at *; omega

end Go.Proofs.YtffbcccbhofbpaaDoor
