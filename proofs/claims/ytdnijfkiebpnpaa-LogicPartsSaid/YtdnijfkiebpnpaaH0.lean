/- The iterator of the law LogicAll: it counts how often it is asked. -/
import Derived.Test.YtdnijfkiebpnpaaG0
import Derived.Test.YtdnijfkiebpnpaaT0
import Derived.Lib.Hide
import Derived.Outline
namespace Go.Proofs.Ytdnijfkiebpnpaa
open Go.RowKit Go.Shelf
attribute [local go_sem] Oper.semAt_some

/-- The first m numbers as truth values. -/
def truths (Z : Nat → Int) (m : Nat) : List Int := (List.range m).map fun i => tr (Z i)
theorem truths_succ (Z : Nat → Int) (m : Nat) : truths Z (m + 1) = truths Z m ++ [tr (Z m)] := by simp [truths, List.range_succ]
theorem truths_prefix (Z : Nat → Int) {k m : Nat} (h : k ≤ m) : truths Z k <+: truths Z m := by
  induction m with
  | zero => obtain rfl : k = 0 := by omega
            exact List.prefix_refl _
  | succ m ih =>
    by_cases e : k = m + 1
    · subst e; exact List.prefix_refl _
    · rw [truths_succ]
      exact (ih (by omega)).trans (List.prefix_append _ _)
theorem truths_length (Z : Nat → Int) (m : Nat) : (truths Z m).length = m := by simp [truths]

set_option maxHeartbeats 1600000 in
theorem countSeq (pb qb b off n cap : Nat) (Z : Nat → Int) (N n₀ : Nat) (w : World) (hN : N ≤ qb) (hq : qb < n₀) (hp : pb < n₀) (hb : b < n₀) (hpq : pb ≠ qb) (hbq : b ≠ qb) (hn : n ≤ maxLen) (hn0 : n₀ ≤ w.heap.size)
    (hpc : w.heap[pb]? = some (.cells #[.slice (some ⟨b, off, none⟩) n cap] 24)) (hqc : w.heap[qb]? = some (.cells #[.int .i64 0] 3)) (hel : Elems w b off n Z) :
    Seq 16 #[.pointer (some ⟨pb, 0, none⟩), .pointer (some ⟨qb, 0, none⟩)] (truths Z (min n 50)) (fun pre W => W.heap[qb]? = some (.cells #[.int .i64 pre.length] 3) ∧ W.heap[pb]? = some (.cells #[.slice (some ⟨b, off, none⟩) n cap] 24)) N n₀ w := by
  unfold maxLen at hn
  intro l J Jx W hW hJ hJx hY h0
  have HJ := Lib.hid hJ
  have HY := Lib.hid hY
  have HE := Lib.hid hel
  have HW := Lib.hid hW
  have HD := Lib.hid (And.intro hbq hpq)
  have p0 : W.heap[pb]? = some (.cells #[.slice (some ⟨b, off, none⟩) n cap] 24) := (hW.block pb hp).trans hpc
  have q0 : W.heap[qb]? = some (.cells #[.int .i64 0] 3) := (hW.block qb hq).trans hqc
  have HP0 := Lib.hid p0
  clear hJ hJx hY hel hW hbq hpc hqc p0
  refine callsIn_of_wp Try.func16 rfl trivial ?_ rfl
  simp only [Try.ntmps16, List.size_toArray, List.length_cons, List.length_nil, Nat.reduceAdd, Nat.reduceSub, Array.replicate_succ, Array.replicate_zero, List.push_toArray, List.append_toArray, List.nil_append, List.cons_append]
  gi_wp2
  gi_loopw [4] (fun i wr => ∃ k : Nat, k ≤ min n 50 ∧ i = .int .i64 k ∧ J (truths Z k) wr ∧ wr.heap[qb]? = some (.cells #[.int .i64 k] 3) ∧ n₀ ≤ wr.heap.size ∧ ∀ j, j < n₀ → j ≠ qb → wr.heap[j]? = W.heap[j]?)
    (fun i _ => 50 - (intOf i).toNat)
  case atStart => exact ⟨0, by omega, rfl, h0, q0, Nat.le_trans hn0 HW.out.size, fun _ _ _ => rfl⟩
  case round =>
    clear h0 q0
    obtain ⟨k, hk, rfl, hj, hqk, hsz, hkeep⟩ := hrel
    have HK := Lib.hid hkeep
    obtain ⟨c11, c12⟩ := cellAt ((hkeep pb hp hpq).trans HP0.out)
    obtain ⟨c21, c22⟩ := cellAt hqk
    have HQ := Lib.hid hqk
    clear hkeep hqk hpq
    by_cases hlt : (k : Int) < n
    · by_cases h50 : (k : Int) < 50
      · obtain ⟨z, hz⟩ : ∃ z, z = Z k := ⟨_, rfl⟩
        have ck : wr.cell? ⟨b, off + k, none⟩ = some (.int .i64 z) := by
          have h1 : w.cell? ⟨b, off + k, none⟩ = some (.int .i64 (Z k)) := HE.out k (by omega)
          rw [hz, ← h1]
          exact World.cell?_of_block (w := w) (by show wr.heap[b]? = w.heap[b]?; exact (HK.out b hb HD.out.1).trans (HW.out.block b hb))
        have c13 : (wr.setCell ⟨qb, 0, none⟩ (.int .i64 ((k : Int) + 1))).cell? ⟨pb, 0, none⟩ = some (.slice (some ⟨b, off, none⟩) n cap) :=
          (World.cell?_of_block (w := wr) (Below.heap_setCell _ _ _ _ (show pb ≠ qb from HD.out.2))).trans c11
        have ck2 : (wr.setCell ⟨qb, 0, none⟩ (.int .i64 ((k : Int) + 1))).cell? ⟨b, off + k, none⟩ = some (.int .i64 z) :=
          (World.cell?_of_block (w := wr) (Below.heap_setCell _ _ _ _ (show b ≠ qb from HD.out.1))).trans ck
        clear ck
        have f1 := fun W => rnotAt z W
        have f2 : ∀ W, Calls Try.prog 8 #[.int .i64 (notT (tr z))] W fun e w' => e = .returned (.int .i64 (tr z)) ∧ w' = W := fun W => by
          have := rnotAt (notT (tr z)) W
          rw [tr_not] at this
          have e : notT (notT (tr z)) = tr z := by rcases tr_cases z with h | h | h <;> rw [h] <;> rfl
          rwa [e] at this
        have hst : J (truths Z k) (wr.setCell ⟨qb, 0, none⟩ (.int .i64 ((k : Int) + 1))) :=
          HJ.out _ _ _ hj ⟨(Below.refl N wr).setCell (p := ⟨qb, 0, none⟩) hN _, fun j h1 _ => Below.heap_setCell _ _ _ _ (show j ≠ qb by omega)⟩
        obtain ⟨fn, tmps, assign, body, hy, hR⟩ := HY.out _ (tr z) _ hst
        have HZ := Lib.hid hz
        have HR := Lib.hid hR
        clear hz hst hj hR
        gi_wp2_with (first
          | (refine ⟨trivial, ?_⟩; gi_at_call 8; (with_reducible refine (callsIn_wide.2 (f1 _)).mono ?_); rintro e w' ⟨rfl, rfl⟩)
          | (refine ⟨trivial, ?_⟩; gi_at_call 8; (with_reducible refine (callsIn_wide.2 (f2 _)).mono ?_); rintro e w' ⟨rfl, rfl⟩))
        have hset := heapSet HQ.out (.int .i64 ((k : Int) + 1))
        refine HR.out.mono ?_
        rintro e W3 (⟨rfl, hJ3, hk3⟩ | ⟨rfl, hJx3, hk3⟩)
        · have h3 : W3.heap[qb]? = some (.cells #[.int .i64 ((k : Int) + 1)] 3) := (hk3.block qb hq).trans hset
          have h4 : ∀ j, j < n₀ → j ≠ qb → W3.heap[j]? = W.heap[j]? := fun j h1 h2 => (hk3.block j h1).trans ((Below.heap_setCell _ _ _ _ h2).trans (HK.out j h1 h2))
          have h5 : n₀ ≤ W3.heap.size := Nat.le_trans hsz (Nat.le_trans (by simp [World.setCell]) hk3.size)
          rw [HZ.out, ← truths_succ] at hJ3
          have HJ3 := Lib.hid hJ3
          have H3 := Lib.hid h3
          have H4 := Lib.hid h4
          clear hJ3 h3 h4 hset hy c11 c12 c21 c22 c13 ck2
          gi_wp2
          go_roundw
          case rel => exact ⟨k + 1, by omega, by go_num, HJ3.out, H3.out, h5, H4.out⟩
          case measure => simp [intOf]; omega
        · have h3 : W3.heap[qb]? = some (.cells #[.int .i64 ((k : Int) + 1)] 3) := (hk3.block qb hq).trans hset
          rw [HZ.out, ← truths_succ] at hJx3
          have H3 := Lib.hid h3
          have HJ3 := Lib.hid hJx3
          have H4 : Hid (W3.heap[pb]? = W.heap[pb]?) := Lib.hid ((hk3.block pb hp).trans ((Below.heap_setCell _ _ _ _ HD.out.2).trans (HK.out pb hp HD.out.2)))
          clear h3 hJx3 hset hy c11 c12 c21 c22 c13 ck2
          gi_wp2
          refine bodyPost_ret (results_none rfl _ _ _) rfl ?_
          exact ⟨⟨_, rfl⟩, .inr ⟨truths Z (k + 1), truths_prefix Z (by omega), HJ3.out, by rw [truths_length]; exact H3.out, H4.out.trans HP0.out⟩⟩
      · have HJJ := Lib.hid hj
        clear hj
        gi_wp2
        go_end0
        obtain rfl : k = min n 50 := by omega
        exact ⟨⟨_, rfl⟩, .inl ⟨HJJ.out, by rw [truths_length]; exact HQ.out, (HK.out pb hp HD.out.2).trans HP0.out⟩⟩
    · have HJJ := Lib.hid hj
      clear hj
      gi_wp2
      go_end0
      obtain rfl : k = min n 50 := by omega
      exact ⟨⟨_, rfl⟩, .inl ⟨HJJ.out, by rw [truths_length]; exact HQ.out, (HK.out pb hp HD.out.2).trans HP0.out⟩⟩

theorem countNone (pb qb cap : Nat) (p : Option Addr) (N n₀ : Nat) (w : World) (hq : qb < n₀) (hp : pb < n₀)
    (hpc : w.heap[pb]? = some (.cells #[.slice p 0 cap] 24)) (hqc : w.heap[qb]? = some (.cells #[.int .i64 0] 3)) :
    Seq 16 #[.pointer (some ⟨pb, 0, none⟩), .pointer (some ⟨qb, 0, none⟩)] [] (fun pre W => W.heap[qb]? = some (.cells #[.int .i64 pre.length] 3) ∧ W.heap[pb]? = some (.cells #[.slice p 0 cap] 24)) N n₀ w := by
  intro l J Jx W hW hJ hJx hY h0
  have p0 : W.heap[pb]? = some (.cells #[.slice p 0 cap] 24) := (hW.block pb hp).trans hpc
  have q0 : W.heap[qb]? = some (.cells #[.int .i64 0] 3) := (hW.block qb hq).trans hqc
  obtain ⟨c11, c12⟩ := cellAt p0
  have HP0 := Lib.hid p0
  have HQ := Lib.hid q0
  have H0 := Lib.hid h0
  clear hJ hJx hY hW hpc hqc p0 q0 h0
  refine callsIn_of_wp Try.func16 rfl trivial ?_ rfl
  simp only [Try.ntmps16, List.size_toArray, List.length_cons, List.length_nil, Nat.reduceAdd, Nat.reduceSub, Array.replicate_succ, Array.replicate_zero, List.push_toArray, List.append_toArray, List.nil_append, List.cons_append]
  gi_wp2
  gi_loopw [4] (fun i wr => i = .int .i64 0 ∧ wr = W) (fun _ _ => 0)
  case atStart => exact ⟨rfl, rfl⟩
  case round =>
    obtain ⟨rfl, rfl⟩ := hrel
    gi_wp2
    go_end0
    exact ⟨⟨_, rfl⟩, .inl ⟨H0.out, HQ.out, HP0.out⟩⟩
end Go.Proofs.Ytdnijfkiebpnpaa
