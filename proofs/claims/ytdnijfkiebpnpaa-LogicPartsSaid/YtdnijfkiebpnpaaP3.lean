/- The law LogicParts, walked. -/
import Derived.Test.YtdnijfkiebpnpaaP2
namespace Go.Proofs.Ytdnijfkiebpnpaa
open Go.RowKit

theorem neq_of {a b : Int} (h : a = b) : (a != b) = false := by simp [h]
theorem hmf (fn : Fn) (first cap : Array Value) (w : World) : (Instr.makeFunc fn first cap).run Try.prog w = .ok (.func fn first cap) w := rfl
theorem Box.next {w W : World} {pb nb n cap k : Nat} {p : Option Addr} (h : Box w pb nb p n cap k W) : Box w pb W.heap.size p n cap (k + 1) (W.alloc (.cells #[.int .i64 ((k : Int) + 1)] 3)) :=
  ⟨heapO _ h.hp, heapN _ _ rfl, h.bel.alloc h.bel.size _⟩

set_option maxRecDepth 20000 in
set_option maxHeartbeats 6400000 in
theorem partsSome (b off n cap : Nat) (Z : Nat → Int) (w : World) (hS : Elems w b off n Z) (hn : n ≤ 60) (hcap : n ≤ cap) (hcm : cap ≤ maxLen) (hbN : b < w.heap.size) :
    Calls Try.prog 6 #[.agg #[.slice (some ⟨b, off, none⟩) n cap]] w fun e w' => e = .returned (.bool true) ∧ Below w.heap.size w w' := by
  have hm := hmf
  have HS := Lib.hid hS
  have HC := Lib.hid (And.intro hcap hcm)
  have h60 : ¬ (60 : Int) < n := by omega
  obtain ⟨W0, hW0⟩ : ∃ W0, W0 = (w.alloc (.cells #[.slice (some ⟨b, off, none⟩) n cap] 24)).alloc (.cells #[.int .i64 0] 3) := ⟨_, rfl⟩
  have B0 : Box w w.heap.size (w.heap.size + 1) (some ⟨b, off, none⟩) n cap 0 W0 := by
    rw [hW0]
    exact ⟨heapO _ (heapN _ _ rfl), heapN _ _ (by simp), (below1 w _).alloc (by simp) _⟩
  have HW0 := Lib.hid hW0
  clear hS hW0 hcap hcm
  go_enter Try.func6, Try.ntmps6
  go_wp2_with fail
  rw [← HW0.out]
  go_loopg [3] 21 (fun gg s3 wr => ∃ k nb : Nat, k ≤ 20 ∧ k ≤ n + 1 ∧ k + gg = 21 ∧ s3 = .pointer (some ⟨nb, 0, none⟩) ∧ Box w w.heap.size nb (some ⟨b, off, none⟩) n cap k wr)
  case atStart => exact ⟨0, _, by omega, by omega, by omega, rfl, B0⟩
  case round =>
    clear B0
    obtain ⟨k, nb, hk20, hkn, hkg, rfl, I⟩ := hrel
    obtain ⟨c11, c12⟩ := cellAt I.hp
    obtain ⟨c21, c22⟩ := cellAt I.hq
    by_cases hlt : (k : Int) ≤ n
    · by_cases h20 : (k : Int) < 20
      · have hkn2 : k ≤ n := by omega
        obtain ⟨va, hva⟩ : ∃ va, va = accA 1 (truths Z n) := ⟨_, rfl⟩
        obtain ⟨vf, hvf⟩ : ∃ vf, vf = accA 1 (truths Z k) := ⟨_, rfl⟩
        obtain ⟨vr, hvr⟩ : ∃ vr, vr = accA 1 (truths (fun i => Z (k + i)) (n - k)) := ⟨_, rfl⟩
        obtain ⟨oa, hoa⟩ : ∃ oa, oa = accO 0 (truths Z n) := ⟨_, rfl⟩
        obtain ⟨of, hof⟩ : ∃ of, of = accO 0 (truths Z k) := ⟨_, rfl⟩
        obtain ⟨or, hor⟩ : ∃ or, or = accO 0 (truths (fun i => Z (k + i)) (n - k)) := ⟨_, rfl⟩
        obtain ⟨on, hon⟩ : ∃ on, on = accO 0 (truths (neg true Z) n) := ⟨_, rfl⟩
        have CF := fun W (h : Box w w.heap.size nb (some ⟨b, off, none⟩) n cap k W) => firstA h (Nat.le_refl _) hn hkn2 HC.out.1 HC.out.2 hbN HS.out
        have CR := fun W (h : Box w w.heap.size nb (some ⟨b, off, none⟩) n cap k W) => restA h (Nat.le_refl _) hn hkn2 HC.out.1 HC.out.2 hbN HS.out
        have CW := fun W (h : Box w w.heap.size nb (some ⟨b, off, none⟩) n cap k W) => wholeA h (Nat.le_refl _) hn hkn2 HC.out.1 HC.out.2 hbN HS.out
        have DF := fun W (h : Box w w.heap.size nb (some ⟨b, off, none⟩) n cap k W) => firstO h (Nat.le_refl _) hn hkn2 HC.out.1 HC.out.2 hbN HS.out
        have DR := fun W (h : Box w w.heap.size nb (some ⟨b, off, none⟩) n cap k W) => restO h (Nat.le_refl _) hn hkn2 HC.out.1 HC.out.2 hbN HS.out
        have DW := fun W (h : Box w w.heap.size nb (some ⟨b, off, none⟩) n cap k W) => wholeO h (Nat.le_refl _) hn hkn2 HC.out.1 HC.out.2 hbN HS.out
        have DN := fun W (h : Box w w.heap.size nb (some ⟨b, off, none⟩) n cap k W) => notsO h (Nat.le_refl _) hn hkn2 HC.out.1 HC.out.2 hbN HS.out
        rw [← hvf] at CF
        rw [← hvr] at CR
        rw [← hva] at CW
        rw [← hof] at DF
        rw [← hor] at DR
        rw [← hoa] at DW
        rw [← hon] at DN
        have e1 : (va != andT (tr vf) (tr vr)) = false := neq_of (by
          have := partsA Z k (n - k)
          rw [show k + (n - k) = n by omega] at this
          rw [hvf, hvr, hva, t3_tr (t3_accA _ _), t3_tr (t3_accA _ _), this])
        have e2 : (oa != orT (tr of) (tr or)) = false := neq_of (by
          have := partsO Z k (n - k)
          rw [show k + (n - k) = n by omega] at this
          rw [hof, hor, hoa, t3_tr (t3_accO _ _), t3_tr (t3_accO _ _), this])
        have e3 : (va != notT (tr on)) = false := neq_of (by rw [hva, hon, t3_tr (t3_accO _ _), notsA])
        clear hva hvf hvr hoa hof hor hon
        go_wp2_with (first
          | (go_at_call 17; (with_reducible refine (CF _ I).mono ?_); rintro e w' ⟨rfl, h⟩; replace I := h; clear h)
          | (go_at_call 17; (with_reducible refine (CR _ I).mono ?_); rintro e w' ⟨rfl, h⟩; replace I := h; clear h)
          | (go_at_call 17; (with_reducible refine (CW _ I).mono ?_); rintro e w' ⟨rfl, h⟩; replace I := h; clear h)
          | (go_at_call 18; (with_reducible refine (DF _ I).mono ?_); rintro e w' ⟨rfl, h⟩; replace I := h; clear h)
          | (go_at_call 18; (with_reducible refine (DR _ I).mono ?_); rintro e w' ⟨rfl, h⟩; replace I := h; clear h)
          | (go_at_call 18; (with_reducible refine (DW _ I).mono ?_); rintro e w' ⟨rfl, h⟩; replace I := h; clear h)
          | (go_at_call 18; (with_reducible refine (DN _ I).mono ?_); rintro e w' ⟨rfl, h⟩; replace I := h; clear h)
          | (go_at_call 9; (with_reducible refine (andAt _ _ _).mono ?_); rintro e w' ⟨rfl, h⟩; replace I := I.below h; clear h)
          | (go_at_call 11; (with_reducible refine (orAt _ _ _).mono ?_); rintro e w' ⟨rfl, h⟩; replace I := I.below h; clear h)
          | (go_at_call 7; (with_reducible refine (notAt _ _).mono ?_); rintro e w' ⟨rfl, h⟩; replace I := I.below h; obtain ⟨d21, d22⟩ := cellAt I.hq; clear h))
        go_roundg (gk - 1)
        case measure => omega
        case rel => exact ⟨k + 1, _, by omega, by omega, by omega, rfl, I.next⟩
      · go_wp2_with (first
          | (go_at_call 7; (with_reducible refine (notC 0 t3_0 _).mono ?_); rintro e w' ⟨rfl, h⟩; replace I := I.below h; clear h)
          | (go_at_call 15; (with_reducible refine (wakesAt _).mono ?_); rintro e w' ⟨rfl, h⟩; replace I := I.below h; clear h))
        go_ret
        exact ⟨rfl, I.bel⟩
    · go_wp2_with (first
        | (go_at_call 7; (with_reducible refine (notC 0 t3_0 _).mono ?_); rintro e w' ⟨rfl, h⟩; replace I := I.below h; clear h)
        | (go_at_call 15; (with_reducible refine (wakesAt _).mono ?_); rintro e w' ⟨rfl, h⟩; replace I := I.below h; clear h))
      go_ret
      exact ⟨rfl, I.bel⟩
end Go.Proofs.Ytdnijfkiebpnpaa
