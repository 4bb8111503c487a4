/- told: truth values, or their Nots, one by one. -/
import Derived.Test.YtdnijfkiebpnpaaH1
namespace Go.Proofs.Ytdnijfkiebpnpaa
open Go.RowKit Go.Shelf
attribute [local go_sem] Oper.semAt_some

/-- The numbers, or their Nots. -/
def neg (nt : Bool) (Z : Nat → Int) (i : Nat) : Int := if nt then notT (tr (Z i)) else Z i
theorem toldEnd0 {l : Nat} {R : Ending → World → Prop} (p : Option Addr) (cap : Nat) (nt : Bool) (W : World) (h : R (.returned (.tuple #[])) W) :
    CallsIn Fence.wide 3 Try.prog 20 #[.slice p 0 cap, .bool nt, .func (.yield l) #[] #[]] W R := by
  refine callsIn_of_wp Try.func20 rfl trivial ?_ rfl
  simp only [Try.ntmps20, List.size_toArray, List.length_cons, List.length_nil, Nat.reduceAdd, Nat.reduceSub, Array.replicate_succ, Array.replicate_zero, List.push_toArray, List.append_toArray, List.nil_append, List.cons_append]
  have H0 := Lib.hid h
  clear h
  gi_wp2
  gi_loopw [6] (fun i wr => i = .int .i64 0 ∧ wr = W) (fun _ _ => 0)
  case atStart => exact ⟨rfl, rfl⟩
  case round =>
    obtain ⟨rfl, rfl⟩ := hrel
    gi_wp2
    go_end0
    exact H0.out

set_option maxHeartbeats 1600000 in
theorem toldSome {l : Nat} {J Jx : List Int → World → Prop} {n₀ : Nat} (b off n cap : Nat) (Z : Nat → Int) (nt : Bool) (W : World) (hn : n ≤ 60) (hb : b < n₀) (hsz0 : n₀ ≤ W.heap.size)
    (hel : Elems W b off n Z) (hY : ∀ pre x W1, J pre W1 → YieldAt Fence.wide 2 Try.prog l #[.int .i64 x] W1 fun e W' =>
      (e = .returned (.bool true) ∧ J (pre ++ [x]) W' ∧ Below n₀ W1 W') ∨ (e = .returned (.bool false) ∧ Jx (pre ++ [x]) W' ∧ Below n₀ W1 W')) (h0 : J [] W) :
    CallsIn Fence.wide 3 Try.prog 20 #[.slice (some ⟨b, off, none⟩) n cap, .bool nt, .func (.yield l) #[] #[]] W fun e W' => e = .returned (.tuple #[]) ∧
      ((J (truths (neg nt Z) n) W' ∧ Below n₀ W W') ∨ (∃ pre, pre <+: truths (neg nt Z) n ∧ Jx pre W' ∧ Below n₀ W W')) := by
  have HY := Lib.hid hY
  have HE := Lib.hid hel
  have HJ0 := Lib.hid h0
  clear hY hel h0
  refine callsIn_of_wp Try.func20 rfl trivial ?_ rfl
  simp only [Try.ntmps20, List.size_toArray, List.length_cons, List.length_nil, Nat.reduceAdd, Nat.reduceSub, Array.replicate_succ, Array.replicate_zero, List.push_toArray, List.append_toArray, List.nil_append, List.cons_append]
  gi_wp2
  gi_loopw [6] (fun i wr => ∃ k : Nat, k ≤ n ∧ i = .int .i64 k ∧ J (truths (neg nt Z) k) wr ∧ Below n₀ W wr) (fun i _ => 60 - (intOf i).toNat)
  case atStart => exact ⟨0, by omega, rfl, HJ0.out, Below.refl _ _⟩
  case round =>
    obtain ⟨k, hk, rfl, hj, hbel⟩ := hrel
    have HB := Lib.hid hbel
    clear hbel
    by_cases hlt : (k : Int) < n
    · have h60 : (k : Int) < 60 := by omega
      obtain ⟨z, hz⟩ : ∃ z, z = Z k := ⟨_, rfl⟩
      have ck : wr.cell? ⟨b, off + k, none⟩ = some (.int .i64 z) := by
        rw [hz]
        exact (HB.out.cell (p := ⟨b, off + k, none⟩) hb).trans (HE.out k (by omega))
      have f1 := fun W => rnotAt z W
      have f2 : ∀ W, Calls Try.prog 8 #[.int .i64 (notT (tr z))] W fun e w' => e = .returned (.int .i64 (tr z)) ∧ w' = W := fun W => by
        have := rnotAt (notT (tr z)) W
        rw [tr_not] at this
        have e : notT (notT (tr z)) = tr z := by rcases tr_cases z with h | h | h <;> rw [h] <;> rfl
        rwa [e] at this
      have f3 : ∀ W, Calls Try.prog 8 #[.int .i64 (tr z)] W fun e w' => e = .returned (.int .i64 (notT (tr z))) ∧ w' = W := fun W => by
        have := rnotAt (tr z) W
        have e : tr (tr z) = tr z := by rcases tr_cases z with h | h | h <;> rw [h] <;> rfl
        rwa [e] at this
      have hx : ∃ x, x = (if nt then notT (tr z) else tr z) ∧ truths (neg nt Z) (k + 1) = truths (neg nt Z) k ++ [x] := by
        refine ⟨_, rfl, ?_⟩
        rw [truths_succ, hz]
        unfold neg
        cases nt
        · rfl
        · simp [tr_not]
      obtain ⟨x, hxv, hsucc⟩ := hx
      obtain ⟨fn, tmps, assign, body, hy, hR⟩ := HY.out _ x _ hj
      have HS := Lib.hid hsucc
      have HR := Lib.hid hR
      clear hz hj hR hsucc
      cases nt with
      | false =>
        rw [if_neg (by simp)] at hxv
        subst hxv
        gi_wp2_with (first
          | (refine ⟨trivial, ?_⟩; gi_at_call 8; (with_reducible refine (callsIn_wide.2 (f1 _)).mono ?_); rintro e w' ⟨rfl, rfl⟩)
          | (refine ⟨trivial, ?_⟩; gi_at_call 8; (with_reducible refine (callsIn_wide.2 (f2 _)).mono ?_); rintro e w' ⟨rfl, rfl⟩))
        refine HR.out.mono ?_
        rintro e W3 (⟨rfl, hJ3, hk3⟩ | ⟨rfl, hJx3, hk3⟩)
        · rw [← HS.out] at hJ3
          have HJ3 := Lib.hid hJ3
          have HB3 := Lib.hid (HB.out.trans hk3)
          clear hJ3 hk3 hy ck
          gi_wp2
          go_roundw
          case rel => exact ⟨k + 1, by omega, by go_num, HJ3.out, HB3.out⟩
          case measure => simp [intOf]; omega
        · rw [← HS.out] at hJx3
          have HJ3 := Lib.hid hJx3
          have HB3 := Lib.hid (HB.out.trans hk3)
          clear hJx3 hk3 hy ck
          gi_wp2
          refine bodyPost_ret (results_none rfl _ _ _) rfl ?_
          exact ⟨rfl, .inr ⟨_, truths_prefix _ (show k + 1 ≤ n by omega), HJ3.out, HB3.out⟩⟩
      | true =>
        rw [if_pos rfl] at hxv
        subst hxv
        gi_wp2_with (first
          | (refine ⟨trivial, ?_⟩; gi_at_call 8; (with_reducible refine (callsIn_wide.2 (f1 _)).mono ?_); rintro e w' ⟨rfl, rfl⟩)
          | (refine ⟨trivial, ?_⟩; gi_at_call 8; (with_reducible refine (callsIn_wide.2 (f2 _)).mono ?_); rintro e w' ⟨rfl, rfl⟩)
          | (refine ⟨trivial, ?_⟩; gi_at_call 8; (with_reducible refine (callsIn_wide.2 (f3 _)).mono ?_); rintro e w' ⟨rfl, rfl⟩))
        refine HR.out.mono ?_
        rintro e W3 (⟨rfl, hJ3, hk3⟩ | ⟨rfl, hJx3, hk3⟩)
        · rw [← HS.out] at hJ3
          have HJ3 := Lib.hid hJ3
          have HB3 := Lib.hid (HB.out.trans hk3)
          clear hJ3 hk3 hy ck
          gi_wp2
          go_roundw
          case rel => exact ⟨k + 1, by omega, by go_num, HJ3.out, HB3.out⟩
          case measure => simp [intOf]; omega
        · rw [← HS.out] at hJx3
          have HJ3 := Lib.hid hJx3
          have HB3 := Lib.hid (HB.out.trans hk3)
          clear hJx3 hk3 hy ck
          gi_wp2
          refine bodyPost_ret (results_none rfl _ _ _) rfl ?_
          exact ⟨rfl, .inr ⟨_, truths_prefix _ (show k + 1 ≤ n by omega), HJ3.out, HB3.out⟩⟩
    · have HJJ := Lib.hid hj
      clear hj
      gi_wp2
      go_end0
      obtain rfl : k = n := by omega
      exact ⟨rfl, .inl ⟨HJJ.out, HB.out⟩⟩
end Go.Proofs.Ytdnijfkiebpnpaa
