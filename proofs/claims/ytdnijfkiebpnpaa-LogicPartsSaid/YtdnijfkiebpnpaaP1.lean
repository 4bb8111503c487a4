/- The four iterators of the law LogicParts. -/
import Derived.Test.YtdnijfkiebpnpaaP0
namespace Go.Proofs.Ytdnijfkiebpnpaa
open Go.RowKit Go.Shelf
attribute [local go_sem] Oper.semAt_some

theorem neg_no (Z : Nat → Int) : neg false Z = Z := rfl
/-- A row of numbers, or none. -/
def Row (W : World) (n₀ : Nat) (p : Option Addr) (m : Nat) (Z : Nat → Int) : Prop := m = 0 ∨ ∃ b off, p = some ⟨b, off, none⟩ ∧ b < n₀ ∧ Elems W b off m Z
theorem Row.below {A B : World} {n₀ m : Nat} {p : Option Addr} {Z : Nat → Int} (h : Row A n₀ p m Z) (k : Below n₀ A B) : Row B n₀ p m Z := by
  rcases h with h | ⟨b, off, e, hb, he⟩
  · exact .inl h
  · exact .inr ⟨b, off, e, hb, fun i hi => (k.cell (p := ⟨b, off + i, none⟩) hb).trans (he i hi)⟩
theorem toldAt {l : Nat} {J Jx : List Int → World → Prop} {n₀ : Nat} (p : Option Addr) (n cap : Nat) (Z : Nat → Int) (nt : Bool) (W : World) (hn : n ≤ 60) (hsz0 : n₀ ≤ W.heap.size)
    (hr : Row W n₀ p n Z) (hY : ∀ pre x W1, J pre W1 → YieldAt Fence.wide 2 Try.prog l #[.int .i64 x] W1 fun e W' =>
      (e = .returned (.bool true) ∧ J (pre ++ [x]) W' ∧ Below n₀ W1 W') ∨ (e = .returned (.bool false) ∧ Jx (pre ++ [x]) W' ∧ Below n₀ W1 W')) (h0 : J [] W) :
    CallsIn Fence.wide 2 Try.prog 20 #[.slice p n cap, .bool nt, .func (.yield l) #[] #[]] W fun e W' => e = .returned (.tuple #[]) ∧
      ((J (truths (neg nt Z) n) W' ∧ Below n₀ W W') ∨ (∃ pre, pre <+: truths (neg nt Z) n ∧ Jx pre W' ∧ Below n₀ W W')) := by
  refine callsIn_wide.2 ((callsIn_wide (n := 3)).1 ?_)
  by_cases h : n = 0
  · subst h
    exact toldEnd0 p cap nt W ⟨rfl, .inl ⟨h0, Below.refl _ _⟩⟩
  · rcases hr with hr | ⟨b, off, rfl, hb, he⟩
    · exact absurd hr h
    · exact toldSome b off n cap Z nt W hn hb hsz0 he hY h0

set_option maxHeartbeats 1600000 in
theorem firstSeq (P : World → Prop) (pb nb n k cap : Nat) (p : Option Addr) (Z : Nat → Int) (N n₀ : Nat) (w : World) (hp : pb < n₀) (hq : nb < n₀) (hn : n ≤ 60) (hk : k ≤ n) (hcap : n ≤ cap) (hcm : cap ≤ maxLen) (hn0 : n₀ ≤ w.heap.size)
    (hP : ∀ A B, P A → Below n₀ A B → P B) (hPw : P w) (hpc : w.heap[pb]? = some (.cells #[.slice p n cap] 24)) (hqc : w.heap[nb]? = some (.cells #[.int .i64 k] 3)) (hr : Row w n₀ p k Z) :
    Seq 19 #[.pointer (some ⟨pb, 0, none⟩), .pointer (some ⟨nb, 0, none⟩)] (truths Z k) (fun _ W => P W) N n₀ w := by
  unfold maxLen at hcm
  intro l J Jx W hW hJ hJx hY h0
  have p0 := (hW.block pb hp).trans hpc
  have q0 := (hW.block nb hq).trans hqc
  have ht := toldAt p k cap Z false W (by omega) (Nat.le_trans hn0 hW.size) (hr.below hW) hY h0
  obtain ⟨c11, c12⟩ := cellAt p0
  obtain ⟨c21, c22⟩ := cellAt q0
  have HP := Lib.hid (And.intro (hP _ _ hPw hW) hP)
  clear hP hPw hJ hJx hY hW hpc hqc p0 q0 h0 hr
  refine callsIn_of_wp Try.func19 rfl trivial ?_ rfl
  simp only [Try.ntmps19, List.size_toArray, List.length_cons, List.length_nil, Nat.reduceAdd, Nat.reduceSub, Array.replicate_succ, Array.replicate_zero, List.push_toArray, List.append_toArray, List.nil_append, List.cons_append]
  gi_wp2_with (refine ⟨trivial, ?_⟩; gi_at_call 20; (with_reducible refine ht.mono ?_); rintro e w' ⟨rfl, hend⟩)
  go_end0
  rcases hend with ⟨hj, hb⟩ | ⟨pre, hpre, hj, hb⟩
  · exact ⟨⟨_, rfl⟩, .inl ⟨hj, HP.out.2 _ _ HP.out.1 hb⟩⟩
  · exact ⟨⟨_, rfl⟩, .inr ⟨pre, hpre, hj, HP.out.2 _ _ HP.out.1 hb⟩⟩

set_option maxHeartbeats 1600000 in
theorem wholeSeq (P : World → Prop) (pb n cap : Nat) (p : Option Addr) (Z : Nat → Int) (N n₀ : Nat) (w : World) (hp : pb < n₀) (hn : n ≤ 60) (hn0 : n₀ ≤ w.heap.size)
    (hP : ∀ A B, P A → Below n₀ A B → P B) (hPw : P w) (hpc : w.heap[pb]? = some (.cells #[.slice p n cap] 24)) (hr : Row w n₀ p n Z) :
    Seq 22 #[.pointer (some ⟨pb, 0, none⟩)] (truths (neg false Z) n) (fun _ W => P W) N n₀ w := by
  intro l J Jx W hW hJ hJx hY h0
  have p0 := (hW.block pb hp).trans hpc
  have ht := toldAt p n cap Z false W hn (Nat.le_trans hn0 hW.size) (hr.below hW) hY h0
  obtain ⟨c11, c12⟩ := cellAt p0
  have HP := Lib.hid (And.intro (hP _ _ hPw hW) hP)
  clear hP hPw hJ hJx hY hW hpc p0 h0 hr
  refine callsIn_of_wp Try.func22 rfl trivial ?_ rfl
  simp only [Try.ntmps22, List.size_toArray, List.length_cons, List.length_nil, Nat.reduceAdd, Nat.reduceSub, Array.replicate_succ, Array.replicate_zero, List.push_toArray, List.append_toArray, List.nil_append, List.cons_append]
  gi_wp2_with (refine ⟨trivial, ?_⟩; gi_at_call 20; (with_reducible refine ht.mono ?_); rintro e w' ⟨rfl, hend⟩)
  go_end0
  rcases hend with ⟨hj, hb⟩ | ⟨pre, hpre, hj, hb⟩
  · exact ⟨⟨_, rfl⟩, .inl ⟨hj, HP.out.2 _ _ HP.out.1 hb⟩⟩
  · exact ⟨⟨_, rfl⟩, .inr ⟨pre, hpre, hj, HP.out.2 _ _ HP.out.1 hb⟩⟩

set_option maxHeartbeats 1600000 in
theorem notsSeq (P : World → Prop) (pb n cap : Nat) (p : Option Addr) (Z : Nat → Int) (N n₀ : Nat) (w : World) (hp : pb < n₀) (hn : n ≤ 60) (hn0 : n₀ ≤ w.heap.size)
    (hP : ∀ A B, P A → Below n₀ A B → P B) (hPw : P w) (hpc : w.heap[pb]? = some (.cells #[.slice p n cap] 24)) (hr : Row w n₀ p n Z) :
    Seq 23 #[.pointer (some ⟨pb, 0, none⟩)] (truths (neg true Z) n) (fun _ W => P W) N n₀ w := by
  intro l J Jx W hW hJ hJx hY h0
  have p0 := (hW.block pb hp).trans hpc
  have ht := toldAt p n cap Z true W hn (Nat.le_trans hn0 hW.size) (hr.below hW) hY h0
  obtain ⟨c11, c12⟩ := cellAt p0
  have HP := Lib.hid (And.intro (hP _ _ hPw hW) hP)
  clear hP hPw hJ hJx hY hW hpc p0 h0 hr
  refine callsIn_of_wp Try.func23 rfl trivial ?_ rfl
  simp only [Try.ntmps23, List.size_toArray, List.length_cons, List.length_nil, Nat.reduceAdd, Nat.reduceSub, Array.replicate_succ, Array.replicate_zero, List.push_toArray, List.append_toArray, List.nil_append, List.cons_append]
  gi_wp2_with (refine ⟨trivial, ?_⟩; gi_at_call 20; (with_reducible refine ht.mono ?_); rintro e w' ⟨rfl, hend⟩)
  go_end0
  rcases hend with ⟨hj, hb⟩ | ⟨pre, hpre, hj, hb⟩
  · exact ⟨⟨_, rfl⟩, .inl ⟨hj, HP.out.2 _ _ HP.out.1 hb⟩⟩
  · exact ⟨⟨_, rfl⟩, .inr ⟨pre, hpre, hj, HP.out.2 _ _ HP.out.1 hb⟩⟩

set_option maxHeartbeats 1600000 in
theorem restSeq (P : World → Prop) (pb nb n k cap : Nat) (b off : Nat) (Z : Nat → Int) (N n₀ : Nat) (w : World) (hp : pb < n₀) (hq : nb < n₀) (hn : n ≤ 60) (hk : k ≤ n) (hcap : n ≤ cap) (hcm : cap ≤ maxLen) (hn0 : n₀ ≤ w.heap.size)
    (hP : ∀ A B, P A → Below n₀ A B → P B) (hPw : P w) (hpc : w.heap[pb]? = some (.cells #[.slice (some ⟨b, off, none⟩) n cap] 24)) (hqc : w.heap[nb]? = some (.cells #[.int .i64 k] 3)) (hb : b < n₀) (he : Elems w b off n Z) :
    Seq 21 #[.pointer (some ⟨pb, 0, none⟩), .pointer (some ⟨nb, 0, none⟩)] (truths (fun i => Z (k + i)) (n - k)) (fun _ W => P W) N n₀ w := by
  unfold maxLen at hcm
  intro l J Jx W hW hJ hJx hY h0
  have p0 := (hW.block pb hp).trans hpc
  have q0 := (hW.block nb hq).trans hqc
  by_cases hck : cap = k
  · skip
    have ht := toldAt (some ⟨b, off, none⟩) (n - k) 0 (fun i => Z (k + i)) false W (by omega) (Nat.le_trans hn0 hW.size) (.inl (by omega)) hY h0
    obtain ⟨c11, c12⟩ := cellAt p0
    obtain ⟨c21, c22⟩ := cellAt q0
    have HP := Lib.hid (And.intro (hP _ _ hPw hW) hP)
    clear hP hPw hJ hJx hY hW hpc hqc p0 q0 h0 he
    refine callsIn_of_wp Try.func21 rfl trivial ?_ rfl
    simp only [Try.ntmps21, List.size_toArray, List.length_cons, List.length_nil, Nat.reduceAdd, Nat.reduceSub, Array.replicate_succ, Array.replicate_zero, List.push_toArray, List.append_toArray, List.nil_append, List.cons_append]
    gi_wp2_with (refine ⟨trivial, ?_⟩; gi_at_call 20; (with_reducible refine ht.mono ?_); rintro e w' ⟨rfl, hend⟩)
    go_end0
    rcases hend with ⟨hj, hbe⟩ | ⟨pre, hpre, hj, hbe⟩
    · exact ⟨⟨_, rfl⟩, .inl ⟨hj, HP.out.2 _ _ HP.out.1 hbe⟩⟩
    · exact ⟨⟨_, rfl⟩, .inr ⟨pre, hpre, hj, HP.out.2 _ _ HP.out.1 hbe⟩⟩
  · skip
    have ht := toldAt (some ⟨b, off + k, none⟩) (n - k) (cap - k) (fun i => Z (k + i)) false W (by omega) (Nat.le_trans hn0 hW.size) (.inr ⟨b, off + k, rfl, hb, fun i hi => by
      have h1 := he (k + i) (by omega)
      rw [← Nat.add_assoc] at h1
      exact (hW.cell (p := ⟨b, off + k + i, none⟩) hb).trans h1⟩) hY h0
    obtain ⟨c11, c12⟩ := cellAt p0
    obtain ⟨c21, c22⟩ := cellAt q0
    have HP := Lib.hid (And.intro (hP _ _ hPw hW) hP)
    clear hP hPw hJ hJx hY hW hpc hqc p0 q0 h0 he
    refine callsIn_of_wp Try.func21 rfl trivial ?_ rfl
    simp only [Try.ntmps21, List.size_toArray, List.length_cons, List.length_nil, Nat.reduceAdd, Nat.reduceSub, Array.replicate_succ, Array.replicate_zero, List.push_toArray, List.append_toArray, List.nil_append, List.cons_append]
    gi_wp2_with (refine ⟨trivial, ?_⟩; gi_at_call 20; (with_reducible refine ht.mono ?_); rintro e w' ⟨rfl, hend⟩)
    go_end0
    rcases hend with ⟨hj, hbe⟩ | ⟨pre, hpre, hj, hbe⟩
    · exact ⟨⟨_, rfl⟩, .inl ⟨hj, HP.out.2 _ _ HP.out.1 hbe⟩⟩
    · exact ⟨⟨_, rfl⟩, .inr ⟨pre, hpre, hj, HP.out.2 _ _ HP.out.1 hbe⟩⟩

set_option maxHeartbeats 1600000 in
theorem restNone (P : World → Prop) (pb nb cap : Nat) (p : Option Addr) (N n₀ : Nat) (w : World) (hp : pb < n₀) (hq : nb < n₀) (hcm : cap ≤ maxLen) (hn0 : n₀ ≤ w.heap.size)
    (hP : ∀ A B, P A → Below n₀ A B → P B) (hPw : P w) (hpc : w.heap[pb]? = some (.cells #[.slice p 0 cap] 24)) (hqc : w.heap[nb]? = some (.cells #[.int .i64 0] 3)) :
    Seq 21 #[.pointer (some ⟨pb, 0, none⟩), .pointer (some ⟨nb, 0, none⟩)] ([]) (fun _ W => P W) N n₀ w := by
  unfold maxLen at hcm
  intro l J Jx W hW hJ hJx hY h0
  have p0 := (hW.block pb hp).trans hpc
  have q0 := (hW.block nb hq).trans hqc
  have ht := fun q c => toldAt q 0 c (fun _ => 0) false W (by omega) (Nat.le_trans hn0 hW.size) (.inl rfl) hY h0
  obtain ⟨c11, c12⟩ := cellAt p0
  obtain ⟨c21, c22⟩ := cellAt q0
  have HP := Lib.hid (And.intro (hP _ _ hPw hW) hP)
  clear hP hPw hJ hJx hY hW hpc hqc p0 q0 h0
  refine callsIn_of_wp Try.func21 rfl trivial ?_ rfl
  simp only [Try.ntmps21, List.size_toArray, List.length_cons, List.length_nil, Nat.reduceAdd, Nat.reduceSub, Array.replicate_succ, Array.replicate_zero, List.push_toArray, List.append_toArray, List.nil_append, List.cons_append]
  gi_wp2_with (refine ⟨trivial, ?_⟩; gi_at_call 20; (with_reducible refine (ht _ _).mono ?_); rintro e w' ⟨rfl, hend⟩)
  go_end0
  rcases hend with ⟨hj, hb⟩ | ⟨pre, hpre, hj, hb⟩
  · exact ⟨⟨_, rfl⟩, .inl ⟨hj, HP.out.2 _ _ HP.out.1 hb⟩⟩
  · exact ⟨⟨_, rfl⟩, .inr ⟨pre, hpre, hj, HP.out.2 _ _ HP.out.1 hb⟩⟩
end Go.Proofs.Ytdnijfkiebpnpaa
