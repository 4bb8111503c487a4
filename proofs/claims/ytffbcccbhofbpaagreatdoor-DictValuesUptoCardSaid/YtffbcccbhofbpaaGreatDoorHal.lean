/- Texts of one kind, one behind the other: each says ahead of itself what it shows. -/
import Derived.Test.YtffbcccbhofbpaaGreatDoorHak
import Derived.Test.YtffbcccbhofbpaaGreatDoorHaj
import Derived.Deep.LoopGhost
import Derived.Test.YtffbcccbhofbpaaGreatDoorHaf
import Derived.Test.YtffbcccbhofbpaaGreatDoorHaa
import Derived.BigGuardPart
import Derived.Deep.DeepCutAuto
import Derived.WalkKit
import Derived.OwnWalk
import Derived.Deep.QuietTactic
import Derived.BigQuiet
import Derived.Laws.AppendOwnNone
/- How a value is encoded: lists, given how their elements are; all kinds put together. -/

namespace Go.Proofs.YtffbcccbhofbpaaGreatDoor
open Go.RowKit


/-- What encode tells of a value that lies somewhere. -/
def EncAt (v : Val) : Prop := ∀ (w0 w : World) (A : Value) (l : List UInt8) (k : Int) (b : Bool) (n : Int) (t x : ByteArray) (q : List Val) (p : Option Addr) (cap : Nat), v = .mk k b n t x q → Fine n t x q.length → Held w0 (.slice p q.length cap) q → OwnB w0 A l w → l.length + 13 * wOne v ≤ 800000000 →
  Calls Tryz.prog 36 #[A, .agg #[.int .i64 k, .bool b, .int .i64 n, .string t, .string x, .slice p q.length cap]] w (EncPost w0 l v)

set_option maxRecDepth 20000 in
set_option maxHeartbeats 6400000 in
theorem encList (w0 w : World) (A : Value) (l : List UInt8) (b : Bool) (n : Int) (t x : ByteArray) (g off : Nat) (q : List Val) (cap : Nat) (hf : Fine n t x q.length) (h : OwnB w0 A l w) (hl : l.length ≤ 800000000) (hh : Holds w0 g off q) (hw : l.length + 13 * wAll q ≤ 799999987) (each : ∀ u ∈ q, EncAt u) :
    Calls Tryz.prog 36 #[A, .agg #[.int .i64 5, .bool b, .int .i64 n, .string t, .string x, .slice (some ⟨g, off, none⟩) q.length cap]] w (EncPost w0 l (.mk 5 b n t x q)) := by
  obtain ⟨i0, hi, hz0, hz1, hz2⟩ := info_parts info5
  obtain ⟨W0, hW0⟩ : ∃ W0, W0 = w.alloc (.cells #[.int .i64 5, .bool b, .int .i64 n, .string t, .string x, .slice (some ⟨g, off, none⟩) q.length cap] 31) := ⟨_, rfl⟩
  have S : Six W0 w.heap.size 5 b n t x (some ⟨g, off, none⟩) q.length cap := by rw [hW0]; exact six_new _ rfl
  have hne := h.ne
  have O : OwnB w0 A l W0 := by rw [hW0]; exact h.alloc _
  have hown := O.own
  have f0 := S.c0
  have HS : Hid (W0.heap.size = w.heap.size + 1) := Lib.hid (by rw [hW0]; simp)
  have hlo : w0.heap.size ≤ w.heap.size := h.lo
  have H0 := Lib.hid hW0
  have HF := Lib.hid hf
  have HH := Lib.hid hh
  have HWT := Lib.hid hw
  have HE := Lib.hid each
  clear hW0 h hf hh hw each
  have hI : ∀ W A L, OwnB w0 A L W → L.length ≤ 1000000000 → Calls Tryz.prog 49 #[A, .int .u64 q.length, .int .i64 4] W fun e w' => ∃ A', e = .returned A' ∧ OwnB w0 A' (L ++ beB q.length 4) w' ∧ Bx W w' := fun W A L hO hL => by
    have hb : (q.length : Int) < 18446744073709551616 := by have := HF.out.hn; omega
    exact encodeIntAt w0 W A L q.length 4 (by omega) (by omega) hb hO hL
  have hI := Lib.hid hI
  have hn1 := HF.out.hn
  go_enter Tryz.func36, Tryz.ntmps36
  go_wp2_with (at_builtin; rw [← H0.out]; refine wpList_append_own _ rfl _ _ 57 rfl w0.heap.size 5 i0 (.int .u8 0) 1 1 Tryz.underlying57 hi hz0 hz1 hz2 rfl (by decide) _ _ _ rfl (hown.alloc _) ⟨w.heap.size + 1, 0, none⟩ 1 1 [.int .u8 (5)] rfl rfl ?_ ?_ ?_ ?_ ?_ ?_)
  all_goals (try (first | rfl | (unfold maxLen; omega) | omega | (simp [HS.out]; omega) | (intro u hu; simp at hu; subst hu; rfl) | (rw [← HS.out]; exact cell_one_new _ _ _) | (simp; done)))
  intro v1 w1 hown1 hgrow _
  have O1 := (O.alloc _).say (l' := l ++ [byteOf 5 0]) hown1 hgrow (by simp) (by rw [vals_append, vals_one _ (byteOf_zero _)]; rfl)
  have S1 := (S.alloc (.cells #[.int .u8 (5)] 5)).grown hgrow hne
  clear hgrow hown1 hown O S f0 H0
  go_wp2_with (first
    | ((with_reducible refine wpList_load6 (.tmp 3) w.heap.size S1 ?_ ?_ ?_ ?_); rfl; rfl; rfl)
    | (go_at_call 47; (with_reducible refine (kindOfAt 5 _ _ _ _ _ 103 rfl _).mono ?_); rintro e w2 ⟨rfl, hb2⟩; have O2 := O1.after hb2; have S2 := S1.below hb2; have f0 := S2.c0; have f1 := S2.c1; have f2 := S2.c2; have f3 := S2.c3; have f4 := S2.c4; have f5 := S2.c5; clear hb2 O1 S1)
    | (simp only [ta103_113, ta103_91, ta103_93, ta103_94, ta103_95, ta103_97, ta103_98, ta103_99, ta103_100, ta103_102, ta103_103, Result.andThen_ok])
    | (go_at_call 49; (with_reducible refine (hI.out _ _ _ O2 (by simp only [List.length_append, List.length_cons, List.length_nil]; omega)).mono ?_); rintro e w3 ⟨v3, rfl, O3, hx3⟩; have S3 := S2.bx hx3; have f5 := S3.c5; clear f0 f1 f2 f3 f4 O2 S2))
  have HO := Lib.hid O3
  clear O3 S3 f5 hI
  go_loopg [0, 82] q.length (fun gg s0 s82 wr => ∃ j : Nat, j + gg = q.length ∧ s82 = .int .i64 j ∧ OwnB w0 s0 (l ++ [byteOf 5 0] ++ beB q.length 4 ++ encAll (q.take j)) wr)
  case atStart => exact ⟨0, by omega, rfl, by simpa [encAll] using HO.out⟩
  case round =>
    obtain ⟨j, hjg, rfl, OR⟩ := hrel
    by_cases hlt : (j : Int) < q.length
    · have hj1 : j < q.length := by omega
      obtain ⟨k', b', m', t', x', q', p', cp', o⟩ := (Holds.at_ q off HH.out j hj1).opens
      have o1 := o.below OR.bel
      have c0 := o1.c0
      have c1 := o1.c1
      have c2 := o1.c2
      have c3 := o1.c3
      have c4 := o1.c4
      have c5 := o1.c5
      have S6 : Six (wr.alloc (.cells #[.int .i64 k', .bool b', .int .i64 m', .string t', .string x', .slice p' q'.length cp'] 31)) wr.heap.size k' b' m' t' x' p' q'.length cp' := six_new _ rfl
      have hlen : (l ++ [byteOf 5 0] ++ beB q.length 4 ++ encAll (q.take j)).length + 13 * wOne q[j] ≤ 800000000 := by
        have h1 := wAll_take q j hj1
        have h2 := encAll_len (q.take j)
        have h3 := HWT.out
        simp only [List.length_append, beB_length, List.length_cons, List.length_nil]
        omega
      have hc := HE.out q[j] (List.getElem_mem hj1) w0 _ u0 _ k' b' m' t' x' q' p' cp' o.e o.hf o.hl (OR.alloc (.cells #[.int .i64 k', .bool b', .int .i64 m', .string t', .string x', .slice p' q'.length cp'] 31)) hlen
      have he : encAll (q.take (j + 1)) = encAll (q.take j) ++ encP q[j] := encAll_take q j hj1
      have HEE := Lib.hid he
      clear o o1 he hlen OR
      go_wp2_with (first
        | ((with_reducible refine wpList_loadMid6 (.tmp 84) g (off + j * 6) k' b' m' t' x' (.slice p' q'.length cp') c0 c1 c2 c3 c4 c5 ?_ ?_ ?_ ?_); rfl; rfl; rfl)
        | ((with_reducible refine wpList_load6 (.tmp 6) wr.heap.size S6 ?_ ?_ ?_ ?_); rfl; rfl; rfl)
        | (go_at_call 36; (with_reducible refine hc.mono ?_); rintro e w3 ⟨v3, rfl, O7⟩))
      have O8 := Lib.hid O7
      clear O7 S6 hc c0 c1 c2 c3 c4 c5
      go_roundg (gk - 1)
      case measure => omega
      case rel => exact ⟨j + 1, by omega, by go_num, by rw [HEE.out, ← List.append_assoc]; exact O8.out⟩
    · have e : q.take j = q := by rw [List.take_of_length_le]; omega
      rw [e] at OR
      have HO := Lib.hid OR
      clear OR
      go_wp2_with fail
      go_ret
      exact ⟨_, rfl, by unfold encP; simpa using HO.out⟩

set_option maxRecDepth 20000 in
set_option maxHeartbeats 6400000 in
theorem encListNil (w0 w : World) (A : Value) (l : List UInt8) (b : Bool) (n : Int) (t x : ByteArray) (p : Option Addr) (cap : Nat) (hf : Fine n t x 0) (h : OwnB w0 A l w) (hl : l.length ≤ 800000000) :
    Calls Tryz.prog 36 #[A, .agg #[.int .i64 5, .bool b, .int .i64 n, .string t, .string x, .slice p 0 cap]] w (EncPost w0 l (.mk 5 b n t x [])) := by
  obtain ⟨i0, hi, hz0, hz1, hz2⟩ := info_parts info5
  obtain ⟨W0, hW0⟩ : ∃ W0, W0 = w.alloc (.cells #[.int .i64 5, .bool b, .int .i64 n, .string t, .string x, .slice p 0 cap] 31) := ⟨_, rfl⟩
  have S : Six W0 w.heap.size 5 b n t x p 0 cap := by rw [hW0]; exact six_new _ rfl
  have hne := h.ne
  have O : OwnB w0 A l W0 := by rw [hW0]; exact h.alloc _
  have hown := O.own
  have f0 := S.c0
  have HS : Hid (W0.heap.size = w.heap.size + 1) := Lib.hid (by rw [hW0]; simp)
  have hlo : w0.heap.size ≤ w.heap.size := h.lo
  have H0 := Lib.hid hW0
  have HF := Lib.hid hf
  clear hW0 h hf
  have hI : ∀ W A L, OwnB w0 A L W → L.length ≤ 1000000000 → Calls Tryz.prog 49 #[A, .int .u64 0, .int .i64 4] W fun e w' => ∃ A', e = .returned A' ∧ OwnB w0 A' (L ++ beB 0 4) w' ∧ Bx W w' := fun W A L hO hL => by
    have hb : (0 : Int) < 18446744073709551616 := by decide
    exact encodeIntAt w0 W A L 0 4 (by omega) (by omega) hb hO hL
  have hI := Lib.hid hI
  go_enter Tryz.func36, Tryz.ntmps36
  go_wp2_with (at_builtin; rw [← H0.out]; refine wpList_append_own _ rfl _ _ 57 rfl w0.heap.size 5 i0 (.int .u8 0) 1 1 Tryz.underlying57 hi hz0 hz1 hz2 rfl (by decide) _ _ _ rfl (hown.alloc _) ⟨w.heap.size + 1, 0, none⟩ 1 1 [.int .u8 (5)] rfl rfl ?_ ?_ ?_ ?_ ?_ ?_)
  all_goals (try (first | rfl | (unfold maxLen; omega) | omega | (simp [HS.out]; omega) | (intro u hu; simp at hu; subst hu; rfl) | (rw [← HS.out]; exact cell_one_new _ _ _) | (simp; done)))
  intro v1 w1 hown1 hgrow _
  have O1 := (O.alloc _).say (l' := l ++ [byteOf 5 0]) hown1 hgrow (by simp) (by rw [vals_append, vals_one _ (byteOf_zero _)]; rfl)
  have S1 := (S.alloc (.cells #[.int .u8 (5)] 5)).grown hgrow hne
  clear hgrow hown1 hown O S f0 H0
  go_wp2_with (first
    | ((with_reducible refine wpList_load6 (.tmp 3) w.heap.size S1 ?_ ?_ ?_ ?_); rfl; rfl; rfl)
    | (go_at_call 47; (with_reducible refine (kindOfAt 5 _ _ _ _ _ 103 rfl _).mono ?_); rintro e w2 ⟨rfl, hb2⟩; have O2 := O1.after hb2; have S2 := S1.below hb2; have f0 := S2.c0; have f1 := S2.c1; have f2 := S2.c2; have f3 := S2.c3; have f4 := S2.c4; have f5 := S2.c5; clear hb2 O1 S1)
    | (simp only [ta103_113, ta103_91, ta103_93, ta103_94, ta103_95, ta103_97, ta103_98, ta103_99, ta103_100, ta103_102, ta103_103, Result.andThen_ok])
    | (go_at_call 49; (with_reducible refine (hI.out _ _ _ O2 (by simp only [List.length_append, List.length_cons, List.length_nil]; omega)).mono ?_); rintro e w3 ⟨v3, rfl, O3, hx3⟩; have S3 := S2.bx hx3; have f5 := S3.c5; clear f0 f1 f2 f3 f4 O2 S2))
  have HO := Lib.hid O3
  clear O3 S3 f5 hI
  go_loopg [0, 82] 0 (fun gg s0 s82 wr => gg = 0 ∧ s82 = .int .i64 0 ∧ OwnB w0 s0 (l ++ [byteOf 5 0] ++ beB 0 4) wr)
  case atStart => exact ⟨rfl, rfl, by simpa using HO.out⟩
  case round =>
    obtain ⟨_, rfl, OR⟩ := hrel
    have HO := Lib.hid OR
    clear OR
    go_wp2_with fail
    go_ret
    exact ⟨_, rfl, by unfold encP; simpa [encAll] using HO.out⟩

theorem encStep (v : Val) (k : Int) (b : Bool) (n : Int) (t x : ByteArray) (q : List Val) (ev : v = .mk k b n t x q) (each : ∀ u ∈ q, EncAt u) : EncAt v := by
  subst ev
  intro w0 w A l k1 b1 n1 t1 x1 q1 p cap e hf hl hO hw
  cases e
  have hw' := hw
  unfold wOne at hw'
  have hl8 : l.length ≤ 800000000 := by omega
  by_cases h0 : k = 0
  · subst h0; exact encNull w0 w A l b n t x p q cap hf hO hl8
  by_cases h1 : k = 1
  · subst h1
    cases b with
    | true => exact encBoolTrue w0 w A l n t x p q cap hf hO hl8
    | false => exact encBoolFalse w0 w A l n t x p q cap hf hO hl8
  by_cases h2 : k = 2
  · subst h2; exact encWhole w0 w A l b n t x p q cap hf hO hl8
  by_cases h3 : k = 3
  · subst h3; exact encExact w0 w A l b n t x p q cap hf hO hl8
  by_cases h4 : k = 4
  · subst h4; exact encText w0 w A l b n t x p q cap hf hO hl8
  by_cases h5 : k = 5
  · subst h5
    cases q with
    | nil => exact encListNil w0 w A l b n t x p cap hf hO hl8
    | cons v r =>
      obtain ⟨g, off, rfl, hh⟩ := hl.form
      exact encList w0 w A l b n t x g off (v :: r) cap hf hO hl8 hh (by omega) each
  by_cases h6 : k = 6
  · subst h6; exact encNode w0 w A l b n t x p q cap hf hO hl8
  by_cases h7 : k = 7
  · subst h7; exact encEdge w0 w A l b n t x p q cap hf hO hl8
  by_cases h8 : k = 8
  · subst h8; exact encIri w0 w A l b n t x p q cap hf hO hl8
  by_cases h9 : k = 9
  · subst h9; exact encBlank w0 w A l b n t x p q cap hf hO hl8
  by_cases h10 : k = 10
  · subst h10; exact encLit w0 w A l b n t x p q cap hf hO hl8
  exact encStranger w0 w A l k b n t x p q cap hf hO hl8 (by simp [kindT, h0, h1, h2, h3, h4, h5, h6, h7, h8, h9, h10])
mutual
theorem encVal : (v : Val) → EncAt v
  | .mk k b n t x q => encStep _ k b n t x q rfl (encEach q)
theorem encEach : (q : List Val) → ∀ u ∈ q, EncAt u
  | [], _, h => absurd h (by simp)
  | v :: r, u, h => by
    rcases List.mem_cons.1 h with h | h
    · rw [h]; exact encVal v
    · exact encEach r u h
end
end Go.Proofs.YtffbcccbhofbpaaGreatDoor

/- The document's own answer: whether a text may be an address, a name. -/
namespace Go.Proofs.YtffbcccbhofbpaaGreatDoor
open Go.RowKit

set_option maxHeartbeats 1600000 in
theorem refIri (s : ByteArray) (w : World) (hs : s.size ≤ maxLen) :
    Calls Tryz.prog 39 #[.string s] w fun e w' => e = .returned (.bool (addrP s)) ∧ w = w' := by
  unfold maxLen at hs
  by_cases h0 : s.size = 0
  · have hv : addrP s = false := by
      unfold addrP
      rw [decide_eq_false_iff_not]
      omega
    rw [hv]
    go_enter Tryz.func39, Tryz.ntmps39
    go_wp2_with fail
    go_ret
    exact ⟨rfl, rfl⟩
  · by_cases hbig : (1048576 : Int) < s.size
    · have hv : addrP s = false := by
        unfold addrP
        rw [decide_eq_false_iff_not]
        omega
      have h1 : ¬ (s.size : Int) < 1 := by omega
      rw [hv]
      go_enter Tryz.func39, Tryz.ntmps39
      go_wp2_with fail
      go_ret
      exact ⟨rfl, rfl⟩
    · have h1 : ¬ (s.size : Int) < 1 := by omega
      go_enter Tryz.func39, Tryz.ntmps39
      go_wp2_with fail
      go_loop [3] (fun i => ∃ k : Nat, k ≤ s.size ∧ i = .int .i64 k ∧ ∀ j (h : j < s.size), j < k → addrC s[j] = true) (fun i => s.size - (intOf i).toNat)
      case atStart => exact ⟨0, Nat.zero_le _, rfl, fun j _ h => absurd h (by omega)⟩
      case round =>
        obtain ⟨k, hk, rfl, hall⟩ := hrel
        have HA := Lib.hid hall
        clear hall
        by_cases hlt : k < s.size
        · by_cases h1 : (s[k].toNat : Int) ≤ 32
          · go_wp2_with fail
            go_ret
            exact ⟨by rw [addr_no hlt (by simp [addrC]; omega)]; rfl, rfl⟩
          · by_cases h2 : (s[k].toNat : Int) = 60
            · go_wp2_with fail
              go_ret
              exact ⟨by rw [addr_no hlt (by simp [addrC]; omega)]; rfl, rfl⟩
            · by_cases h3 : (s[k].toNat : Int) = 62
              · go_wp2_with fail
                go_ret
                exact ⟨by rw [addr_no hlt (by simp [addrC]; omega)]; rfl, rfl⟩
              · go_wp2_with fail
                go_round
                case rel => exact ⟨k + 1, by omega, by go_num, pastAll (p := fun _ => addrC) hlt HA.out (by simp [addrC]; omega)⟩
                case measure => simp [intOf]; omega
        · go_wp2_with fail
          go_ret
          have hv : addrP s = true := by
            unfold addrP
            rw [decide_eq_true_eq]
            exact ⟨by omega, by omega, fun j hj => HA.out j hj (by omega)⟩
          exact ⟨by rw [hv]; rfl, rfl⟩
set_option maxHeartbeats 3200000 in
theorem refName (s : ByteArray) (w : World) (hs : s.size ≤ maxLen) :
    Calls Tryz.prog 40 #[.string s] w fun e w' => e = .returned (.bool (nameP s)) ∧ w = w' := by
  unfold maxLen at hs
  by_cases h0 : s.size = 0
  · have hv : nameP s = false := by
      unfold nameP
      rw [decide_eq_false_iff_not]
      omega
    rw [hv]
    go_enter Tryz.func40, Tryz.ntmps40
    go_wp2_with fail
    go_ret
    exact ⟨rfl, rfl⟩
  have hpos : 0 < s.size := by omega
  have hlow : ¬ (s.size : Int) < 1 := by omega
  by_cases hbig : (64 : Int) < s.size
  · have hv : nameP s = false := by
      unfold nameP
      rw [decide_eq_false_iff_not]
      omega
    rw [hv]
    go_enter Tryz.func40, Tryz.ntmps40
    go_wp2_with fail
    go_ret
    exact ⟨rfl, rfl⟩
  by_cases hd : (48 : Int) ≤ s[0].toNat ∧ (s[0].toNat : Int) ≤ 57
  · have hv : nameP s = false := name_no hpos (by simp [nameC, letterB]; omega)
    rw [hv]
    obtain ⟨d1, d2⟩ := hd
    go_enter Tryz.func40, Tryz.ntmps40
    go_wp2_with fail
    go_ret
    exact ⟨rfl, rfl⟩
  have HD := Lib.hid hd
  have hdd : ¬ (48 : Int) ≤ s[0].toNat ∨ ¬ (s[0].toNat : Int) ≤ 57 := by omega
  clear hd
  rcases hdd with hdd | hdd
  all_goals
    go_enter Tryz.func40, Tryz.ntmps40
    go_wp2_with fail
    all_goals
      go_loop [3] (fun i => ∃ k : Nat, k ≤ s.size ∧ i = .int .i64 k ∧ ∀ j (h : j < s.size), j < k → nameC j s[j] = true) (fun i => s.size - (intOf i).toNat)
      case atStart => exact ⟨0, Nat.zero_le _, rfl, fun j _ h => absurd h (by omega)⟩
      case round =>
        clear hdd
        obtain ⟨k, hk, rfl, hall⟩ := hrel
        have HA := Lib.hid hall
        clear hall
        by_cases hlt : k < s.size
        · by_cases a1 : (97 : Int) ≤ s[k].toNat
          · by_cases a2 : (s[k].toNat : Int) ≤ 122
            · go_wp2_with fail
              go_round
              case rel => exact ⟨k + 1, by omega, by go_num, pastAll (p := nameC) hlt HA.out (by simp [nameC, letterB]; omega)⟩
              case measure => simp [intOf]; omega
            · have a3 : (65 : Int) ≤ s[k].toNat := by omega
              have a4 : ¬ (s[k].toNat : Int) ≤ 90 := by omega
              have a5 : (48 : Int) ≤ s[k].toNat := by omega
              have a6 : ¬ (s[k].toNat : Int) ≤ 57 := by omega
              have a7 : ¬ (s[k].toNat : Int) = 95 := by omega
              have e7 : ((s[k].toNat : Int) == 95) = false := by simpa using a7
              go_wp2_with fail
              go_ret
              exact ⟨by rw [name_no hlt (by simp [nameC, letterB, digitB]; omega)]; rfl, rfl⟩
          · by_cases a3 : (65 : Int) ≤ s[k].toNat
            · by_cases a4 : (s[k].toNat : Int) ≤ 90
              · go_wp2_with fail
                go_round
                case rel => exact ⟨k + 1, by omega, by go_num, pastAll (p := nameC) hlt HA.out (by simp [nameC, letterB]; omega)⟩
                case measure => simp [intOf]; omega
              · have a5 : (48 : Int) ≤ s[k].toNat := by omega
                have a6 : ¬ (s[k].toNat : Int) ≤ 57 := by omega
                by_cases a7 : (s[k].toNat : Int) = 95
                · have e7 : ((s[k].toNat : Int) == 95) = true := by simpa using a7
                  go_wp2_with fail
                  go_round
                  case rel => exact ⟨k + 1, by omega, by go_num, pastAll (p := nameC) hlt HA.out (by simp [nameC, letterB]; omega)⟩
                  case measure => simp [intOf]; omega
                · have e7 : ((s[k].toNat : Int) == 95) = false := by simpa using a7
                  go_wp2_with fail
                  go_ret
                  exact ⟨by rw [name_no hlt (by simp [nameC, letterB, digitB]; omega)]; rfl, rfl⟩
            · by_cases a5 : (48 : Int) ≤ s[k].toNat
              · by_cases a6 : (s[k].toNat : Int) ≤ 57
                · have hk0 : k ≠ 0 := by
                    rintro rfl
                    exact HD.out ⟨a5, a6⟩
                  go_wp2_with fail
                  go_round
                  case rel => exact ⟨k + 1, by omega, by go_num, pastAll (p := nameC) hlt HA.out (by simp [nameC, digitB, hk0]; omega)⟩
                  case measure => simp [intOf]; omega
                · have a7 : ¬ (s[k].toNat : Int) = 95 := by omega
                  have e7 : ((s[k].toNat : Int) == 95) = false := by simpa using a7
                  go_wp2_with fail
                  go_ret
                  exact ⟨by rw [name_no hlt (by simp [nameC, letterB, digitB]; omega)]; rfl, rfl⟩
              · have a7 : ¬ (s[k].toNat : Int) = 95 := by omega
                have e7 : ((s[k].toNat : Int) == 95) = false := by simpa using a7
                go_wp2_with fail
                go_ret
                exact ⟨by rw [name_no hlt (by simp [nameC, letterB, digitB]; omega)]; rfl, rfl⟩
        · go_wp2_with fail
          go_ret
          have hv : nameP s = true := by
            unfold nameP
            rw [decide_eq_true_eq]
            exact ⟨hpos, by omega, fun j hj => HA.out j hj (by omega)⟩
          exact ⟨by rw [hv]; rfl, rfl⟩
end Go.Proofs.YtffbcccbhofbpaaGreatDoor

/- wakes: a sum and a quotient. -/
namespace Go.Proofs.YtffbcccbhofbpaaGreatDoor
open Go.RowKit

theorem chk01 : chk [48, 46, 49] = true := by kernel_rfl
theorem chk02 : chk [48, 46, 50] = true := by kernel_rfl
theorem chk10 : chk [49, 46, 48] = true := by kernel_rfl
theorem chk30 : chk [51, 46, 48] = true := by kernel_rfl
theorem sum03 : txt (dval [48, 46, 49] + dval [48, 46, 50]) = some [48, 46, 51] := by kernel_rfl
theorem quo03 : txt (dquo [49, 46, 48] [51, 46, 48]) = some [48, 46, 51, 51, 51, 51, 51, 51, 51, 51, 51, 51, 51, 51, 51, 51, 51, 51, 51, 51, 51, 51] := by kernel_rfl
theorem amt30 : damt [51, 46, 48] ≠ 0 := by decide +kernel
theorem int7 : Lib.itoa (-7) = [45, 55] := by kernel_rfl

end Go.Proofs.YtffbcccbhofbpaaGreatDoor

/- What a law of texts keeps from call to call. -/
namespace Go.Proofs.YtffbcccbhofbpaaGreatDoor
open Go.RowKit

theorem readDec (s : ByteArray) (w : World) (hG : Gd w) (hs : s.size < 4294967281) (h : chk s.data.toList = true) :
    Calls Tryz.prog 65 #[.string s] w fun e w' => e = .returned (.tuple #[.string s, .int .i64 0]) ∧ Below w.heap.size w w' := by
  have h' : readP s.data.toList = some (some s.data.toList) := by simpa [chk] using h
  have := readAt s w hG hs
  rw [h'] at this
  exact this
theorem checkB (s : ByteArray) (d : Bool) (w : World) (hG : Gd w) (hs : s.size < 4294967281) (h : Hid (d = chk s.data.toList)) :
    Calls Tryz.prog 56 #[.string s] w fun e w' => e = .returned (.bool d) ∧ Below w.heap.size w w' := by
  rw [h.out]; exact checkAt s w hG hs

/-- The strings of the argument, in memory. -/
def Strs (w : World) (b off n : Nat) (S : Nat → ByteArray) : Prop := ∀ i, i < n → w.cell? ⟨b, off + i, none⟩ = some (.string (S i))
theorem Strs.below {w w' : World} {b off n : Nat} {S : Nat → ByteArray} (h : Strs w b off n S) (k : Below w.heap.size w w') : Strs w' b off n S := fun i hi =>
  (k.cell (p := ⟨b, off + i, none⟩) (World.block_lt_of_cell? w _ (h i hi))).trans (h i hi)

theorem chk_len {l : List UInt8} (h : chk l = true) : l.length ≤ 62 := by
  obtain ⟨n, a, b, hsp, ha, hb, la, lb, hw, _⟩ := chk_parts l h
  unfold wr at hw
  simp only at hw
  split at hw
  · cases hw
  · rename_i hl
    have h1 : (orN (Lib.trimLeftB a 48)).length ≤ 40 := orN_len (by omega) (by omega)
    have h2 : (orN (Lib.trimRightB b 48)).length ≤ 20 := orN_len (by omega) (by omega)
    rw [← Option.some.inj hw]
    simp only [List.length_append, List.length_cons]
    split <;> simp <;> omega
theorem said_ok {z : Int} {x : ByteArray} {k : Int} (h : said (txt z) = .tuple #[.string x, .int .i64 k]) (hk : k = 0) : ∃ l, txt z = some l ∧ x = bs l := by
  cases e : txt z with
  | none => rw [e, hk] at h; simp [said] at h
  | some l => rw [e] at h; simp [said] at h; exact ⟨l, rfl, h.1.symm⟩
theorem said_k {z : Int} {x : ByteArray} {k : Int} (h : said (txt z) = .tuple #[.string x, .int .i64 k]) : k = 0 ∨ k = 2 := by
  cases e : txt z with
  | none => rw [e] at h; simp [said] at h; exact .inr h.2.symm
  | some l => rw [e] at h; simp [said] at h; exact .inl h.2.symm

/-- What holds at every call of a law's round. -/
structure Inv (w : World) (b off n cap : Nat) (S : Nat → ByteArray) (wr : World) : Prop where
  cell : wr.cell? ⟨w.heap.size, 0, none⟩ = some (.slice (some ⟨b, off, none⟩) n cap)
  lt : w.heap.size < wr.heap.size
  bel : Below w.heap.size w wr
  g : Gd wr
  t : Tab wr
  s : Strs wr b off n S
theorem Inv.step {w wr w' : World} {b off n cap : Nat} {S : Nat → ByteArray} (h : Inv w b off n cap S wr) (k : Below wr.heap.size wr w') : Inv w b off n cap S w' :=
  ⟨(k.cell (p := ⟨w.heap.size, 0, none⟩) h.lt).trans h.cell, Nat.lt_of_lt_of_le h.lt k.size, below_any h.bel k (Nat.le_of_lt h.lt), h.g.below k, h.t.below k, h.s.below k⟩
theorem Inv.start {w : World} {b off n cap : Nat} {S : Nat → ByteArray} (v2 : Value) (hG : Gd w) (hT : Tab w) (hS : Strs w b off n S) :
    Inv w b off n cap S (w.alloc (.cells #[.slice (some ⟨b, off, none⟩) n cap, v2] 25)) := by
  have hb0 : Below w.heap.size w (w.alloc (.cells #[.slice (some ⟨b, off, none⟩) n cap, v2] 25)) := (Below.refl _ _).alloc (Nat.le_refl _) _
  exact ⟨cell_of (heap_new _ _ rfl) _ rfl, by simp, hb0, hG.below hb0, hT.below hb0, hS.below hb0⟩
end Go.Proofs.YtffbcccbhofbpaaGreatDoor

/- The document's own digits: lists of digits in memory, the lowest first: one digit, all noughts, which is greater. -/
namespace Go.Proofs.YtffbcccbhofbpaaGreatDoor
open Go.RowKit

/-- The number that the first n digits say, the lowest first. -/
def vT : Nat → (Nat → Nat) → Nat
  | 0, _ => 0
  | n + 1, f => vT n f + f n * 10 ^ n
theorem vT_lt (f : Nat → Nat) (h : ∀ j, f j ≤ 9) : ∀ n, vT n f < 10 ^ n
  | 0 => by simp [vT]
  | n + 1 => by
    have := vT_lt f h n
    have h2 : f n * 10 ^ n ≤ 9 * 10 ^ n := Nat.mul_le_mul_right _ (h n)
    show vT n f + f n * 10 ^ n < 10 ^ (n + 1)
    rw [Nat.pow_succ]; omega
theorem vT_eq (f g : Nat → Nat) : ∀ n, (∀ j, j < n → f j = g j) → vT n f = vT n g
  | 0, _ => rfl
  | n + 1, h => by
    show vT n f + f n * 10 ^ n = vT n g + g n * 10 ^ n
    rw [vT_eq f g n (fun j hj => h j (by omega)), h n (by omega)]
theorem vT_cmp (f g : Nat → Nat) (hf : ∀ j, f j ≤ 9) (k : Nat) (hk : f k < g k) : ∀ n, k < n → (∀ j, k < j → j < n → f j = g j) → vT n f < vT n g
  | n + 1, h, e => by
    show vT n f + f n * 10 ^ n < vT n g + g n * 10 ^ n
    by_cases hn : k = n
    · subst hn
      have h1 := vT_lt f hf k
      have h2 : (f k + 1) * 10 ^ k ≤ g k * 10 ^ k := Nat.mul_le_mul_right _ hk
      rw [Nat.add_mul, Nat.one_mul] at h2
      omega
    · have := vT_cmp f g hf k hk n (by omega) (fun j a b => e j a (by omega))
      rw [e n (by omega) (by omega)]
      omega
theorem vT_pad (f : Nat → Nat) (n : Nat) (h : ∀ j, n ≤ j → f j = 0) : ∀ m, n ≤ m → vT m f = vT n f
  | 0, hm => by rw [Nat.le_zero.1 hm]
  | m + 1, hm => by
    by_cases e : n = m + 1
    · rw [e]
    · show vT m f + f m * 10 ^ m = _
      rw [vT_pad f n h m (by omega), h m (by omega)]; simp

/-- Digit j; 0 beyond. -/
def dig (ds : List Nat) (j : Nat) : Nat := ds.getD j 0
theorem dig_out {ds : List Nat} {j : Nat} (h : ds.length ≤ j) : dig ds j = 0 := by simp [dig, List.getD, h]
/-- The number that the digits say. -/
def val10 (ds : List Nat) : Nat := vT ds.length (dig ds)
/-- Digits, each of them. -/
def Small (ds : List Nat) : Prop := ∀ j, dig ds j ≤ 9
theorem val10_pad (ds : List Nat) {m : Nat} (h : ds.length ≤ m) : vT m (dig ds) = val10 ds := vT_pad _ _ (fun _ hj => dig_out hj) m h

/-- Digits in memory. -/
def Ints (w : World) (v : Value) (ds : List Nat) : Prop :=
  (v = .slice none 0 0 ∧ ds = []) ∨ ∃ b off cap, v = .slice (some ⟨b, off, none⟩) ds.length cap ∧ (∀ i, i < ds.length → w.cell? ⟨b, off + i, none⟩ = some (.int .i64 (dig ds i))) ∧ ∃ cs, w.heap[b]? = some (.cells cs 3 (0, 0))
theorem Ints.below {w w' : World} {v : Value} {ds : List Nat} (h : Ints w v ds) (k : Below w.heap.size w w') : Ints w' v ds := by
  rcases h with h | ⟨b, off, cap, e, hc, cs, hk⟩
  · exact .inl h
  · exact .inr ⟨b, off, cap, e, fun i hi => (k.cell (p := ⟨b, off + i, none⟩) (World.block_lt_of_cell? w _ (hc i hi))).trans (hc i hi), cs, (k.block b (lt_of_heap hk)).trans hk⟩

/-- A block of another type may be written. -/
theorem Ints.only {w w' : World} {v : Value} {ds : List Nat} {g : Nat} {cs : Array Value} {t : TypeId} (h : Ints w v ds) (k : Only g w w') (hg : w.heap[g]? = some (.cells cs t (0, 0))) (ht : t ≠ 3) : Ints w' v ds := by
  rcases h with h | ⟨b, off, cap, e, hc, cs2, hk⟩
  · exact .inl h
  · have hne : b ≠ g := fun x => by
      rw [x, hg] at hk
      injection hk with hk
      injection hk with _ h2 _
      exact ht h2
    have hb := (k.block b (lt_of_heap hk) hne)
    exact .inr ⟨b, off, cap, e, fun i hi => (World.cell?_of_block (w := w) (a := ⟨b, off + i, none⟩) hb).trans (hc i hi), cs2, hb.trans hk⟩

theorem digitRefAt (c : Nat) (w : World) (hc : c < 256) : Calls Tryz.prog 68 #[.int .u8 c] w fun e w' => e = .returned (.bool (decide (48 ≤ c ∧ c ≤ 57))) ∧ w = w' := by
  by_cases h1 : (48 : Int) ≤ c
  · by_cases h2 : (c : Int) ≤ 57
    · have : decide (48 ≤ c ∧ c ≤ 57) = true := by simp; omega
      rw [this]
      go_enter Tryz.func68, Tryz.ntmps68
      go_wp2
      go_ret
      exact ⟨rfl, rfl⟩
    · have : decide (48 ≤ c ∧ c ≤ 57) = false := by simp; omega
      rw [this]
      go_enter Tryz.func68, Tryz.ntmps68
      go_wp2
      go_ret
      exact ⟨by simp, rfl⟩
  · have : decide (48 ≤ c ∧ c ≤ 57) = false := by simp; omega
    rw [this]
    go_enter Tryz.func68, Tryz.ntmps68
    go_wp2
    go_ret
    exact ⟨by simp, rfl⟩

/-- What 'at' answers. -/
def dgI (ds : List Nat) (i : Int) : Nat := if i < 0 then 0 else dig ds i.toNat

theorem refAt (v : Value) (ds : List Nat) (i : Int) (w : World) (h : Ints w v ds) : Calls Tryz.prog 69 #[v, .int .i64 i] w fun e w' => e = .returned (.int .i64 (dgI ds i)) ∧ w = w' := by
  unfold dgI
  by_cases h0 : i < 0
  · rw [if_pos h0]
    rcases h with ⟨rfl, rfl⟩ | ⟨b, off, cap, rfl, hc, hty⟩
    · go_enter Tryz.func69, Tryz.ntmps69
      go_wp2
      go_ret
      exact ⟨rfl, rfl⟩
    · clear hc
      go_enter Tryz.func69, Tryz.ntmps69
      go_wp2
      go_ret
      exact ⟨rfl, rfl⟩
  · rw [if_neg h0]
    obtain ⟨k, rfl⟩ := Int.eq_ofNat_of_zero_le (Int.not_lt.1 h0)
    rw [show ((k : Int)).toNat = k by omega]
    rcases h with ⟨rfl, rfl⟩ | ⟨b, off, cap, rfl, hc, hty⟩
    · rw [dig_out (by simp)]
      have hk : (k : Int) ≥ 0 := by omega
      go_enter Tryz.func69, Tryz.ntmps69
      go_wp2
      go_ret
      exact ⟨rfl, rfl⟩
    · by_cases hl : (ds.length : Int) ≤ k
      · rw [dig_out (by omega)]
        clear hc
        generalize ds.length = n at *
        go_enter Tryz.func69, Tryz.ntmps69
        go_wp2
        go_ret
        exact ⟨rfl, rfl⟩
      · have c1 := hc k (by omega)
        clear hc
        generalize dig ds k = x at *
        generalize ds.length = n at *
        go_enter Tryz.func69, Tryz.ntmps69
        go_wp2
        go_ret
        exact ⟨rfl, rfl⟩
end Go.Proofs.YtffbcccbhofbpaaGreatDoor

/- The document's own digits: all noughts, which is greater. -/
namespace Go.Proofs.YtffbcccbhofbpaaGreatDoor
open Go.RowKit

theorem val10_zero (ds : List Nat) : val10 ds = 0 ↔ ∀ j, j < ds.length → dig ds j = 0 := by
  unfold val10
  generalize dig ds = f
  generalize ds.length = n
  induction n with
  | zero => simp [vT]
  | succ n ih =>
    show vT n f + f n * 10 ^ n = 0 ↔ _
    have hp : 0 < 10 ^ n := Nat.pow_pos (show 0 < 10 by decide)
    constructor
    · intro h j hj
      have h1 : vT n f = 0 := by omega
      have h2 : f n * 10 ^ n = 0 := by omega
      rcases Nat.lt_or_ge j n with h3 | h3
      · exact ih.1 h1 j h3
      · obtain rfl : j = n := by omega
        rcases Nat.mul_eq_zero.1 h2 with h4 | h4
        · exact h4
        · omega
    · intro h
      rw [ih.2 (fun j hj => h j (by omega)), h n (by omega)]; simp

set_option maxHeartbeats 800000 in
theorem refZero (v : Value) (ds : List Nat) (w : World) (h : Ints w v ds) (hn : ds.length ≤ 9223372036854775807) (d : Bool) (hd : d = decide (val10 ds = 0)) : Calls Tryz.prog 70 #[v] w fun e w' => e = .returned (.bool d) ∧ w = w' := by
  rcases h with ⟨rfl, rfl⟩ | ⟨b, off, cap, rfl, hc, hty⟩
  · obtain rfl : d = true := by rw [hd]; rfl
    clear hd
    go_enter Tryz.func70, Tryz.ntmps70
    go_wp2_with fail
    go_loopg [3] 0 (fun gg s3 wr => gg = 0 ∧ s3 = .int .i64 0 ∧ wr = w)
    case atStart => exact ⟨rfl, rfl, rfl⟩
    case round =>
      obtain ⟨_, rfl, rfl⟩ := hrel
      go_wp2
      go_ret
      exact ⟨rfl, rfl⟩
  · have hz := val10_zero ds
    have HZ := Lib.hid hz
    have HD := Lib.hid hd
    clear hz hd
    go_enter Tryz.func70, Tryz.ntmps70
    go_wp2_with fail
    go_loopg [3] ds.length (fun gg s3 wr => ∃ i : Nat, i + gg = ds.length ∧ s3 = .int .i64 i ∧ wr = w ∧ Aside (∀ j, j < i → dig ds j = 0))
    case atStart => exact ⟨0, by omega, rfl, rfl, fun j hj => absurd hj (Nat.not_lt_zero j)⟩
    case round =>
      obtain ⟨i, hi, rfl, rfl, hall⟩ := hrel
      have HA := Lib.hid hall.out
      clear hall
      by_cases hlt : (i : Int) < ds.length
      · have c1 := hc i (by omega)
        by_cases hx : dig ds i = 0
        · rw [hx] at c1
          have hall2 : ∀ j, j < i + 1 → dig ds j = 0 := fun j hj => by
            rcases Nat.lt_or_ge j i with h3 | h3
            · exact HA.out j h3
            · rw [show j = i by omega]; exact hx
          have HA2 := Lib.hid hall2
          clear hall2 HA hc hx
          generalize ds.length = n at *
          go_wp2_with fail
          go_roundg (gk - 1)
          case measure => omega
          case rel => exact ⟨i + 1, by omega, by go_num, rfl, HA2.out⟩
        · obtain rfl : d = false := by
            rw [HD.out]
            have := mt HZ.out.1 (fun h => hx (h i (by omega)))
            simp [this]
          have hx1 : ¬ (dig ds i : Int) = 0 := by omega
          clear hc HA hx HD HZ
          generalize dig ds i = x at *
          generalize ds.length = n at *
          go_wp2_with fail
          go_ret
          exact ⟨rfl, rfl⟩
      · obtain rfl : d = true := by
          rw [HD.out]
          have := HZ.out.2 (fun j hj => HA.out j (by omega))
          simp [this]
        clear hc HA HD HZ
        generalize ds.length = n at *
        go_wp2_with fail
        go_ret
        exact ⟨rfl, rfl⟩
end Go.Proofs.YtffbcccbhofbpaaGreatDoor

/- The document's own digits: which is greater. -/
namespace Go.Proofs.YtffbcccbhofbpaaGreatDoor
open Go.RowKit

/-- The walk down stands at digit i: above it all are alike. -/
def Alike (xs ys : List Nat) (i : Int) : Prop := ∀ j : Nat, i < j → dig xs j = dig ys j
theorem dgI_nat (ds : List Nat) (k : Nat) : dgI ds k = dig ds k := by unfold dgI; rw [if_neg (by omega)]; congr 1
theorem alike_eq {xs ys : List Nat} {i : Int} (h : Alike xs ys i) (hi : i < 0) : cmpZ (val10 xs) (val10 ys) = 0 := by
  rw [cmpZ_zero]
  have e : vT (xs.length + ys.length) (dig xs) = vT (xs.length + ys.length) (dig ys) := vT_eq _ _ _ (fun j _ => h j (by omega))
  rw [val10_pad xs (by omega), val10_pad ys (by omega)] at e
  rw [e]
theorem alike_lt {xs ys : List Nat} {k : Nat} (hx : Small xs) (h : Alike xs ys k) (hk : dig xs k < dig ys k) : cmpZ (val10 xs) (val10 ys) = -1 := by
  have e := vT_cmp (dig xs) (dig ys) hx k hk (xs.length + ys.length + k + 1) (by omega) (fun j a _ => h j (by omega))
  rw [val10_pad xs (by omega), val10_pad ys (by omega)] at e
  unfold cmpZ; rw [if_pos (by omega)]
theorem alike_gt {xs ys : List Nat} {k : Nat} (hy : Small ys) (h : Alike xs ys k) (hk : dig ys k < dig xs k) : cmpZ (val10 xs) (val10 ys) = 1 := by
  have := alike_lt (xs := ys) (ys := xs) hy (fun j a => (h j a).symm) hk
  rw [cmpZ_swap] at this
  omega

theorem refAtB (v : Value) (ds : List Nat) (k : Nat) (x : Nat) (w : World) (h : Ints w v ds) (hx : Hid (x = dig ds k)) : Calls Tryz.prog 69 #[v, .int .i64 k] w fun e w' => e = .returned (.int .i64 x) ∧ w = w' :=
  (refAt v ds k w h).mono fun _ _ ⟨h1, h2⟩ => ⟨by rw [h1, dgI_nat, hx.out], h2⟩
theorem Ints.form {w : World} {v : Value} {ds : List Nat} (h : Ints w v ds) : ∃ p cap, v = .slice p ds.length cap := by
  rcases h with ⟨rfl, rfl⟩ | ⟨b, off, cap, rfl, _, _⟩
  · exact ⟨_, _, rfl⟩
  · exact ⟨_, _, rfl⟩

end Go.Proofs.YtffbcccbhofbpaaGreatDoor

/- The document's own digits: added. -/
namespace Go.Proofs.YtffbcccbhofbpaaGreatDoor
open Go.RowKit

theorem info3 : (Tryz.prog.info? 3).map (fun i => (i.zero, i.size, i.bytes)) = some (some (.int .i64 0), 1, 8) := by kernel_rfl

/-- Digits as cells. -/
def cellsOfDigs (ds : List Nat) : List Value := ds.map fun (d : Nat) => Value.int .i64 (d : Int)
theorem cellsOfDigs_len (ds : List Nat) : (cellsOfDigs ds).length = ds.length := by simp [cellsOfDigs]
theorem dig_app_lt {ds : List Nat} {d j : Nat} (h : j < ds.length) : dig (ds ++ [d]) j = dig ds j := by
  simp [dig, List.getD, List.getElem?_append_left h]
theorem dig_app_eq (ds : List Nat) (d : Nat) : dig (ds ++ [d]) ds.length = d := by
  simp [dig, List.getD]
theorem small_app {ds : List Nat} {d : Nat} (h : Small ds) (hd : d ≤ 9) : Small (ds ++ [d]) := by
  intro j
  rcases Nat.lt_trichotomy j ds.length with k | k | k
  · rw [dig_app_lt k]; exact h j
  · rw [k, dig_app_eq]; exact hd
  · rw [dig_out (by simp; omega)]; omega
theorem vT_app (ds : List Nat) (d : Nat) : vT (ds.length + 1) (dig (ds ++ [d])) = vT ds.length (dig ds) + d * 10 ^ ds.length := by
  show vT ds.length (dig (ds ++ [d])) + dig (ds ++ [d]) ds.length * 10 ^ ds.length = _
  rw [vT_eq (dig (ds ++ [d])) (dig ds) ds.length (fun j hj => dig_app_lt hj), dig_app_eq]

theorem ints_of_owns {w : World} {base n : Nat} {v : Value} {ds : List Nat} (h : w.ownsRow base 3 1 v n (cellsOfDigs ds)) (hn : n = ds.length) : Ints w v ds := by
  subst hn
  rcases h.2 with ⟨e, h0⟩ | ⟨g, cap, cur, e, _, hk, _⟩
  · exact .inl ⟨e, List.length_eq_zero_iff.1 h0⟩
  · refine .inr ⟨g, 0, cap, e, fun i hi => ?_, cur, hk⟩
    subst e
    have := h.cellAt i (by omega)
    rw [Nat.zero_add, this]
    unfold cellsOfDigs dig
    rw [List.getElem?_map, List.getElem?_eq_getElem hi]
    simp [List.getD, hi]

/-- How far the sum has come. -/
structure Added (xs ys : List Nat) (i c : Nat) (zs : List Nat) : Prop where
  len : zs.length = i
  small : Small zs
  car : c ≤ 1
  val : vT i (dig zs) + c * 10 ^ i = vT i (dig xs) + vT i (dig ys)
  done : xs.length < i → ys.length < i → c = 0
theorem Added.start (xs ys : List Nat) : Added xs ys 0 0 [] := ⟨rfl, fun j => by simp [dig], by omega, rfl, fun h => absurd h (by omega)⟩
theorem Added.step {xs ys zs : List Nat} {i c n : Nat} (h : Added xs ys i c zs) (hx : Small xs) (hy : Small ys) (hn : n = dig xs i + dig ys i + c) : Added xs ys (i + 1) (n / 10) (zs ++ [n % 10]) := by
  have h1 := hx i
  have h2 := hy i
  have h3 := h.car
  refine ⟨by simp [h.len], small_app h.small (by omega), by omega, ?_, ?_⟩
  · have e := vT_app zs (n % 10)
    rw [h.len] at e
    rw [e]
    show _ = (vT i (dig xs) + dig xs i * 10 ^ i) + (vT i (dig ys) + dig ys i * 10 ^ i)
    have v := h.val
    rw [Nat.pow_succ]
    have e2 : n / 10 * (10 ^ i * 10) = (n / 10 * 10) * 10 ^ i := by rw [Nat.mul_comm (10 ^ i) 10, Nat.mul_assoc]
    have e3 : (n % 10) * 10 ^ i + (n / 10 * 10) * 10 ^ i = n * 10 ^ i := by rw [← Nat.add_mul]; congr 1; omega
    have e4 : n * 10 ^ i = dig xs i * 10 ^ i + dig ys i * 10 ^ i + c * 10 ^ i := by rw [hn, Nat.add_mul, Nat.add_mul]
    omega
  · intro a b
    have d1 := dig_out (ds := xs) (j := i) (by omega)
    have d2 := dig_out (ds := ys) (j := i) (by omega)
    omega
theorem Added.all {xs ys zs : List Nat} {i : Nat} (h : Added xs ys i 0 zs) (hx : xs.length ≤ i) (hy : ys.length ≤ i) : val10 zs = val10 xs + val10 ys := by
  have v := h.val
  rw [val10_pad xs hx, val10_pad ys hy] at v
  unfold val10
  rw [h.len]
  unfold val10 at v
  omega

end Go.Proofs.YtffbcccbhofbpaaGreatDoor

/- The document's own digits: taken away. -/
namespace Go.Proofs.YtffbcccbhofbpaaGreatDoor
open Go.RowKit

theorem vT_low (f : Nat → Nat) (n : Nat) : ∀ m, n ≤ m → vT m f < 10 ^ n → vT m f = vT n f
  | 0, h, _ => by rw [Nat.le_zero.1 h]
  | m + 1, h, k => by
    by_cases e : n = m + 1
    · rw [e]
    · have h1 : 10 ^ n ≤ 10 ^ m := Nat.pow_le_pow_right (by omega) (by omega)
      have k' : vT m f + f m * 10 ^ m < 10 ^ n := k
      have h2 : f m = 0 := by
        rcases Nat.eq_zero_or_pos (f m) with z | z
        · exact z
        · have : 1 * 10 ^ m ≤ f m * 10 ^ m := Nat.mul_le_mul_right _ z
          omega
      have e2 : vT (m + 1) f = vT m f := by show vT m f + f m * 10 ^ m = _; rw [h2]; simp
      rw [e2]
      exact vT_low f n m (by omega) (by rw [e2] at k; exact k)

theorem ownsRow_drewN {w : World} {base : Nat} {e : TypeId} {size : Nat} {v : Value} {n : Nat} {xs : List Value} (h : w.ownsRow base e size v n xs) (k : Nat) : (w.drewN k).ownsRow base e size v n xs := h

/-- How far the difference has come. -/
structure Taken (xs ys : List Nat) (i c : Nat) (zs : List Nat) : Prop where
  len : zs.length = i
  small : Small zs
  car : c ≤ 1
  val : vT i (dig zs) + vT i (dig ys) = vT i (dig xs) + c * 10 ^ i
theorem Taken.start (xs ys : List Nat) : Taken xs ys 0 0 [] := ⟨rfl, fun j => by simp [dig], by omega, rfl⟩
theorem Taken.step {xs ys zs : List Nat} {i c d c' : Nat} (h : Taken xs ys i c zs) (hd : d ≤ 9) (hc : c' ≤ 1) (hn : dig xs i + 10 * c' = dig ys i + c + d) : Taken xs ys (i + 1) c' (zs ++ [d]) := by
  refine ⟨by simp [h.len], small_app h.small hd, hc, ?_⟩
  have e := vT_app zs d
  rw [h.len] at e
  rw [e]
  show _ + (vT i (dig ys) + dig ys i * 10 ^ i) = (vT i (dig xs) + dig xs i * 10 ^ i) + _
  have v := h.val
  have e2 : c' * 10 ^ (i + 1) = (10 * c') * 10 ^ i := by rw [Nat.pow_succ, Nat.mul_comm (10 ^ i) 10, ← Nat.mul_assoc, Nat.mul_comm c' 10]
  have e3 : dig xs i * 10 ^ i + (10 * c') * 10 ^ i = dig ys i * 10 ^ i + c * 10 ^ i + d * 10 ^ i := by rw [← Nat.add_mul, hn, Nat.add_mul, Nat.add_mul]
  omega
theorem Taken.all {xs ys zs : List Nat} {c : Nat} (h : Taken xs ys xs.length c zs) (hx : Small xs) (hy : Small ys) (hle : val10 ys ≤ val10 xs) : val10 zs + val10 ys = val10 xs := by
  have v := h.val
  have lx : vT xs.length (dig xs) < 10 ^ xs.length := vT_lt _ hx _
  have lz : vT xs.length (dig zs) < 10 ^ xs.length := vT_lt _ h.small _
  have ez : val10 zs = vT xs.length (dig zs) := by unfold val10; rw [h.len]
  have ex : val10 xs = vT xs.length (dig xs) := rfl
  have ey : val10 ys = vT xs.length (dig ys) := by
    have e := val10_pad ys (m := xs.length + ys.length) (by omega)
    rw [← e]
    exact vT_low _ _ _ (by omega) (by rw [e]; omega)
  have hc := h.car
  have h0 : c = 0 := by
    rcases Nat.eq_zero_or_pos c with z | z
    · exact z
    · obtain rfl : c = 1 := by omega
      rw [Nat.one_mul] at v
      omega
  subst h0
  rw [ez, ex, ey]
  omega

end Go.Proofs.YtffbcccbhofbpaaGreatDoor

/- The document's own digits: noughts ahead. -/
namespace Go.Proofs.YtffbcccbhofbpaaGreatDoor
open Go.RowKit

/-- A number as the document has it. -/
def numR (neg : Bool) (v : Value) (sc : Nat) : Value := .agg #[.bool neg, v, .int .i64 sc]
theorem dig_pad (k : Nat) (ds : List Nat) (j : Nat) : dig (List.replicate k 0 ++ ds) j = if j < k then 0 else dig ds (j - k) := by
  unfold dig
  simp only [List.getD]
  by_cases h : j < k
  · rw [if_pos h, List.getElem?_append_left (by simpa using h)]
    simp [h]
  · rw [if_neg h, List.getElem?_append_right (by simp; omega)]
    simp
theorem small_pad {k : Nat} {ds : List Nat} (h : Small ds) : Small (List.replicate k 0 ++ ds) := fun j => by
  rw [dig_pad]; split
  · omega
  · exact h _
theorem vT_shift (f g : Nat → Nat) (k : Nat) (h0 : ∀ j, j < k → f j = 0) (h : ∀ j, f (k + j) = g j) : ∀ n, vT (k + n) f = vT n g * 10 ^ k
  | 0 => by
    show vT k f = 0 * _
    rw [Nat.zero_mul]
    have : ∀ m, m ≤ k → vT m f = 0 := fun m => by
      induction m with
      | zero => intro _; rfl
      | succ m ih => intro hm; show vT m f + f m * 10 ^ m = 0; rw [ih (by omega), h0 m (by omega)]; simp
    exact this k (Nat.le_refl _)
  | n + 1 => by
    show vT (k + n) f + f (k + n) * 10 ^ (k + n) = (vT n g + g n * 10 ^ n) * 10 ^ k
    rw [vT_shift f g k h0 h n, h n, Nat.add_mul, Nat.pow_add, Nat.mul_comm (10 ^ k), Nat.mul_assoc]
theorem pad_len (k : Nat) (ds : List Nat) : (List.replicate k 0 ++ ds).length = k + ds.length := by simp
theorem val10_shift (k : Nat) (ds : List Nat) : val10 (List.replicate k 0 ++ ds) = val10 ds * 10 ^ k := by
  unfold val10
  rw [pad_len]
  exact vT_shift _ _ k (fun j hj => by rw [dig_pad, if_pos hj]) (fun j => by rw [dig_pad, if_neg (by omega)]; congr 1; omega) _

theorem made_digs (k : Nat) : (madeCells #[Value.int .i64 0] k).toList = cellsOfDigs (List.replicate k 0) := by
  unfold madeCells cellsOfDigs
  apply List.ext_getElem
  · simp
  · intro i h1 h2
    simp [Nat.mod_one]
theorem digs_app (a b : List Nat) : cellsOfDigs (a ++ b) = cellsOfDigs a ++ cellsOfDigs b := by simp [cellsOfDigs]

end Go.Proofs.YtffbcccbhofbpaaGreatDoor
