/- The law DecimalSums, walked. -/
import Derived.Test.YtabgilmehehbjaaDoorGx
import Derived.Test.YtabgilmehehbjaaDoorEm
namespace Go.Proofs.YtabgilmehehbjaaDoor
open Go.ChangeShapes Go.WideShapes Go.ChangeAt Go.RowKit

/-- The texts that came in. -/
def Texts2 (W : World) (L : Value) : Prop := ∃ p n cap S, L = .slice p n cap ∧ StrsP W p n S ∧ n ≤ maxLen ∧ ∀ i, i < n → (S i).size ≤ maxLen
theorem texts2_of_trod {H : Type} {enc : TypeId × Value → H} {W : World} {n : Nat} {L : Value} {y : DataW H × List MemPlace} (h : DataW.trod enc Tryd.prog W 0 (fun _ => true) true n 22 [L] = some y) : Texts2 W L := by
  rcases open_strings Tryd.underlying22 Tryd.underlying9 (by kernel_rfl) h with ⟨e, _⟩ | ⟨a, len, cap, ss, e, _, hl, hm, hn, _, hc, hs⟩
  · obtain rfl : L = .slice none 0 0 := by simpa using e
    exact ⟨_, _, _, fun _ => ByteArray.empty, rfl, fun i hi => absurd hi (Nat.not_lt_zero i), by omega, fun i hi => absurd hi (Nat.not_lt_zero i)⟩
  · obtain rfl : L = .slice (some a) len cap := by simpa using e
    have hn' : ss.length = cap := by simpa using hn
    by_cases h1 : len = 0
    · subst h1
      exact ⟨_, _, _, fun _ => ByteArray.empty, rfl, fun i hi => absurd hi (Nat.not_lt_zero i), by omega, fun i hi => absurd hi (Nat.not_lt_zero i)⟩
    · have h0 := hc 0 (by omega)
      have hsp : a.spot = none := by
        cases k : a.spot with
        | none => rfl
        | some m =>
          rw [show a.add 0 = a from rfl] at h0
          unfold World.cell? at h0
          rw [k] at h0
          split at h0 <;> simp at h0
      obtain ⟨b, off, spot⟩ := a
      simp only at hsp
      subst hsp
      refine ⟨_, len, cap, fun i => ss.getD i ByteArray.empty, rfl, ?_, by omega, ?_⟩
      · intro i hi
        have := hc i (by omega)
        rw [show (Addr.mk b off none).add i = ⟨b, off + i, none⟩ by unfold Addr.add; split <;> simp_all] at this
        exact ⟨b, off, rfl, this⟩
      · intro i hi
        have hi' : i < ss.length := by omega
        have := hs ss[i] (List.getElem_mem hi')
        simpa [List.getD, hi'] using this

theorem StrsP.strs {w : World} {b off n : Nat} {S : Nat → ByteArray} (h : StrsP w (some ⟨b, off, none⟩) n S) : Strs w b off n S := fun i hi => by
  obtain ⟨b', off', e, hc⟩ := h i hi
  injection e with e
  injection e with e1 e2
  subst e1 e2
  exact hc
theorem first_bad (S : Nat → ByteArray) : ∀ n, (∀ i, i < n → chk (S i).data.toList = true) ∨ ∃ m, m < n ∧ (∀ i, i < m → chk (S i).data.toList = true) ∧ chk (S m).data.toList = false
  | 0 => .inl fun i hi => absurd hi (Nat.not_lt_zero i)
  | n + 1 => by
    rcases first_bad S n with h | ⟨m, h1, h2, h3⟩
    · cases hc : chk (S n).data.toList with
      | true =>
        refine .inl fun i hi => ?_
        rcases Nat.lt_or_ge i n with k | k
        · exact h i k
        · rw [show i = n by omega]; exact hc
      | false => exact .inr ⟨n, Nat.lt_succ_self n, h, hc⟩
    · exact .inr ⟨m, by omega, h2, h3⟩
/-- Both sums tell the same. -/
theorem sumsAgree (p : Option Addr) (n cap : Nat) (S : Nat → ByteArray) (hn : n ≤ 100000) (hz : ∀ i, i < n → (S i).size ≤ 1000000000) :
    ∃ x k, (∀ W, Gd W → StrsP W p n S → Calls Tryd.prog 32 #[.slice p n cap] W fun e w' => e = .returned (.tuple #[.string x, .int .i64 k]) ∧ Below W.heap.size W w') ∧
      (∀ W, StrsP W p n S → Calls Tryd.prog 33 #[.slice p n cap] W fun e w' => e = .returned (.tuple #[.string x, .int .i64 k]) ∧ Below W.heap.size W w') := by
  rcases first_bad S n with h | ⟨m, h1, h2, h3⟩
  · obtain ⟨x, k, hv⟩ := said_form (txt (sumTo S n))
    refine ⟨x, k, fun W hG hS => ?_, fun W hS => refSumAll p n cap S W hS hn hz n (Nat.le_refl _) h x k (.inl ⟨rfl, hv⟩)⟩
    rcases Nat.eq_zero_or_pos n with rfl | hp
    · have := sumNil p cap W
      rw [show (0 : Int) = sumTo S 0 from rfl, hv] at this
      exact this
    · obtain ⟨b, off, rfl, _⟩ := hS 0 hp
      exact sumYes b off n cap S W hG hS.strs (by omega) (fun i hi => by have := hz i hi; omega) h x k hv
  · refine ⟨⟨#[]⟩, 1, fun W hG hS => ?_, fun W hS => refSumAll p n cap S W hS hn hz m (Nat.le_of_lt h1) h2 _ _ (.inr ⟨h1, h3, rfl, rfl⟩)⟩
    obtain ⟨b, off, rfl, _⟩ := hS 0 (by omega)
    exact sumNo b off n cap S W hG hS.strs (by omega) (fun i hi => by have := hz i hi; omega) m h1 h2 h3

/-- What holds at every call of a law's round, the list being any. -/
structure InvP (w : World) (p : Option Addr) (n cap : Nat) (S : Nat → ByteArray) (wr : World) : Prop where
  cell : wr.cell? ⟨w.heap.size, 0, none⟩ = some (.slice p n cap)
  lt : w.heap.size < wr.heap.size
  bel : Below w.heap.size w wr
  g : Gd wr
  t : Tab wr
  s : StrsP wr p n S
theorem InvP.step {w wr w' : World} {p : Option Addr} {n cap : Nat} {S : Nat → ByteArray} (h : InvP w p n cap S wr) (k : Below wr.heap.size wr w') : InvP w p n cap S w' :=
  ⟨(k.cell (p := ⟨w.heap.size, 0, none⟩) h.lt).trans h.cell, Nat.lt_of_lt_of_le h.lt k.size, below_any h.bel k (Nat.le_of_lt h.lt), h.g.below k, h.t.below k, h.s.below k⟩
theorem InvP.start {w : World} {p : Option Addr} {n cap : Nat} {S : Nat → ByteArray} (v2 : Value) (hG : Gd w) (hT : Tab w) (hS : StrsP w p n S) :
    InvP w p n cap S (w.alloc (.cells #[.slice p n cap, v2] 25)) := by
  have hb0 : Below w.heap.size w (w.alloc (.cells #[.slice p n cap, v2] 25)) := (Below.refl _ _).alloc (Nat.le_refl _) _
  exact ⟨cell_of (heap_new _ _ rfl) _ rfl, by simp, hb0, hG.below hb0, hT.below hb0, hS.below hb0⟩

set_option maxRecDepth 20000 in
set_option maxHeartbeats 1600000 in
theorem sumsAny (L v2 : Value) (w : World) (hG : Gd w) (hT : Tab w) (h : Texts2 w L) :
    Calls Tryd.prog 5 #[.agg #[L, v2]] w fun e w' => e = .returned (.bool true) ∧ Below w.heap.size w w' := by
  obtain ⟨p, n, cap, S, rfl, hS, hn, hz⟩ := h
  unfold maxLen at hn
  have I0 := Lib.hid (InvP.start (cap := cap) v2 hG hT hS)
  obtain ⟨W0, hW0⟩ : ∃ W0, W0 = w.alloc (.cells #[.slice p n cap, v2] 25) := ⟨_, rfl⟩
  rw [← hW0] at I0
  have HW := Lib.hid hW0
  clear hW0
  by_cases h200 : (n : Int) > 200
  · have I := I0.out
    rw [HW.out] at I
    go_enter Tryd.func5, Tryd.ntmps5
    go_wp2_with (go_at_call 19; (with_reducible refine (wakesAt _ I.g I.t).mono ?_); rintro e w1 ⟨rfl, hb1⟩)
    go_ret
    exact ⟨rfl, (I.step hb1).bel⟩
  · have HSS := Lib.hid hS
    clear hS hz
    go_enter Tryd.func5, Tryd.ntmps5
    go_wp2_with fail
    go_loopg [3] n (fun gg s3 wr => ∃ i : Nat, i + gg = n ∧ s3 = .int .i64 i ∧ wr = W0 ∧ Aside (∀ j, j < i → (S j).size ≤ 300))
    case atStart => exact ⟨0, by omega, rfl, HW.out.symm, fun j hj => absurd hj (Nat.not_lt_zero j)⟩
    case round =>
      obtain ⟨i, hig, rfl, rfl, hall⟩ := hrel
      have HA := Lib.hid hall.out
      clear hall
      have I := I0.out
      have hp := I.cell
      by_cases hlt : (i : Int) < n
      · obtain ⟨b, off, rfl, hc⟩ := I.s i (by omega)
        obtain ⟨s, hs⟩ : ∃ s, s = S i := ⟨_, rfl⟩
        rw [← hs] at hc
        by_cases sa : s.size ≤ 300
        · have SA : Hid (true = decide (s.size ≤ 300)) := Lib.hid (by simp [sa])
          have hall2 : ∀ j, j < i + 1 → (S j).size ≤ 300 := fun j hj => by
            rcases Nat.lt_or_ge j i with k | k
            · exact HA.out j k
            · rw [show j = i by omega, ← hs]; exact sa
          have HA2 := Lib.hid hall2
          clear hall2 hs HA
          go_wp2_with (go_at_call 10; (with_reducible refine (shortB s _ _ SA).mono ?_); rintro e w' ⟨rfl, rfl⟩)
          go_roundg (gk - 1)
          case measure => omega
          case rel => exact ⟨i + 1, by omega, by go_num, rfl, HA2.out⟩
        · have SA : Hid (false = decide (s.size ≤ 300)) := Lib.hid (by simp; omega)
          clear hs HA
          go_wp2_with (first
            | (go_at_call 10; (with_reducible refine (shortB s _ _ SA).mono ?_); rintro e w' ⟨rfl, rfl⟩)
            | (go_at_call 19; (with_reducible refine (wakesAt _ I.g I.t).mono ?_); rintro e w1 ⟨rfl, hb1⟩))
          go_ret
          exact ⟨rfl, (I.step hb1).bel⟩
      · obtain rfl : i = n := by omega
        obtain ⟨x, k, A1, A2⟩ := sumsAgree p i cap S (by omega) (fun j hj => by have := HA.out j hj; omega)
        have C1 := Lib.hid A1
        have C2 := Lib.hid A2
        clear A1 A2 HA hlt
        go_wp2_with (first
          | (go_at_call 32; (with_reducible refine (C1.out _ I.g I.s).mono ?_); rintro e w1 ⟨rfl, hb1⟩; have I1 := I.step hb1; have hp1 := I1.cell)
          | (go_at_call 33; (with_reducible refine (C2.out _ I1.s).mono ?_); rintro e w2 ⟨rfl, hb2⟩; have I2 := I1.step hb2)
          | (go_at_call 19; (with_reducible refine (wakesAt _ I2.g I2.t).mono ?_); rintro e w3 ⟨rfl, hb3⟩; have I3 := I2.step hb3))
        go_ret
        exact ⟨rfl, I3.bel⟩

set_option maxRecDepth 100000 in
theorem sumsLifted (os : Os) (started : os.Started) (H : Type) (enc : TypeId × Value → H) :
    ReturnsInHanded {} Tryd.checked os 5 .any (fun w args => (Rows.decimalSumsSpec.pre enc Tryd.prog Tryd.f5 Rows.decimalSumsRow.domain false w args ∧ laidMetH Tryd.prog Rows.decimalSumsRow.laid w) ∧ sizedMet enc Tryd.prog Tryd.f5 (OpenSpec.ofChange Rows.decimalSumsSpec) false w args)
      (Rows.decimalSumsSpec.post enc Tryd.prog Tryd.f5 false true false false) := by
  refine andShaped (C := Tryd.checked) (X := fun w _ => laidMetH Tryd.prog lists w) (fun _ _ _ hh h => h.of_heap hh) own started (by kernel_rfl) Tryd.func5
    (ChangeSpec.witness_shaped (enc := enc) (C := Tryd.checked) (os := os) (X := fun w _ => laidMetH Tryd.prog lists w) false (World.laidAll Tryd.prog os lists) start 8 (World.laidAll_os _ _ _)
      (startShaped os) (by kernel_rfl) (by kernel_rfl) (by kernel_rfl) (startLaid os)) ?_
  intro W base args ds gs before hval0 hW hsh hL
  have hval : ∀ (j : Nat) t v, Tryd.f5.params[j]? = some t → args[j]? = some v → Value.okWide Tryd.prog W .any base t v := hval0
  have hW' := hW
  obtain ⟨p, q, hA0, hV, rfl, hfz, hnd⟩ := hW
  have hA : DataW.TrodAll enc Tryd.prog W 0 (fun _ => true) true Tryd.f5.params.toList args.toList ds p := hA0
  rw [Tryd.params5] at hA hval
  obtain ⟨v0, d0, rfl, rfl, h0⟩ := ChangeShapes.trodAll_one hA
  obtain ⟨rfl, rfl⟩ := ChangeShapes.trodVars_none hV
  obtain ⟨L, v2, y0, y1, n, rfl, rfl, rfl, t0, _⟩ := Joins.open_agg2 Tryd.underlying25 (by kernel_rfl) (by kernel_rfl) (hval 0 25 v0 rfl rfl) h0
  refine (sumsAny L v2 W (gd_of_shape hsh) (tab_of_laid hL) (texts2_of_trod t0)).mono fun e W' ⟨he, hb⟩ => ?_
  subst he
  have hlt : ∀ x ∈ y0.2 ++ y1.2, x.block < W.heap.size := fun x hx => by simpa using hW'.lt x (by simpa using hx)
  refine ⟨_, rfl, _, _, _, [], _, [], hW', ?_, ChangeShapes.trodAll_mk1 (Below.trod laidOut (by kernel_rfl) (of_decide_eq_true (by kernel_rfl)) h0 hb hlt), rfl, hb.frame _, fun h => by cases h⟩
  exact ChangeShapes.trodAll_mk1 (shut_bool Tryd.underlying4 true)

theorem sumsHolds : Rows.DecimalSumsSaid :=
  OpenClaim.holds_of_wide 5 Tryd.f5 rfl rfl rfl rfl rfl rfl rfl ⟨rfl, rfl, rfl, rfl, rfl⟩ rfl rfl rfl rfl rfl (by kernel_rfl) Tryd.func5 (by kernel_rfl)
    (of_decide_eq_true (by kernel_rfl)) (by unfold Func.isWrapper; first | (rw [if_pos (by decide +kernel)]; kernel_rfl) | (rw [if_neg (by decide +kernel)]; exact ⟨rfl, rfl⟩))
    (fun os started H enc _ => sumsLifted os started H enc)
end Go.Proofs.YtabgilmehehbjaaDoor
