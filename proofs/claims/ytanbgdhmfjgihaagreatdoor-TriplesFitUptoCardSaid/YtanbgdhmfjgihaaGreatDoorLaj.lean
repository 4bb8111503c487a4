/- Texts of one kind, one behind the other: each says ahead of itself what it shows. -/
import Derived.Test.YtanbgdhmfjgihaaGreatDoorLai
import Derived.Test.YtanbgdhmfjgihaaGreatDoorLac
import Derived.Shelf.Small.Strs
/- The order of all values: 0 just of values that are the same, of those that may be; where none stands; how it goes with Less. No Go stands here. -/
namespace Go.Proofs.YtanbgdhmfjgihaaGreatDoor

theorem lexI_none {c d : Int} (h : lexI c d = 0) : c = 0 ∧ d = 0 := by
  unfold lexI at h
  split at h
  · exact ⟨‹_›, h⟩
  · exact absurd h ‹_›
theorem bytesI_none {l m : List UInt8} (h : bytesI l m = 0) : l = m := by
  unfold bytesI at h
  cases h1 : Op.bytesLess l m
  · cases h2 : Op.bytesLess m l
    · exact less_total l m h1 h2
    · rw [h1, h2] at h; simp at h
  · rw [h1] at h; simp at h
theorem empty_toList {t : ByteArray} (h : t.size = 0) : t = ⟨#[]⟩ := by
  obtain ⟨⟨l⟩⟩ := t
  cases l with
  | nil => rfl
  | cons a r => exact absurd h (by simp [ByteArray.size])
theorem bare_of {b : Bool} {n : Int} {t x : ByteArray} {len : Nat} (h : bareP b n t x len = true) : b = false ∧ n = 0 ∧ t = ⟨#[]⟩ ∧ x = ⟨#[]⟩ ∧ len = 0 := by
  unfold bareP at h
  simp only [Bool.and_eq_true, Bool.not_eq_true', decide_eq_true_eq] at h
  exact ⟨h.1.1.1.1, h.1.1.1.2, empty_toList h.1.1.2, empty_toList h.1.2, h.2⟩
theorem numV_whole (n : Int) (t : ByteArray) : numV 2 n t = n * 10 ^ 54 := by unfold numV; rw [if_pos rfl]
theorem rank0 (lang k : Int) : (rankI lang k = 0 ∨ rankI lang k = 10) ↔ k = 0 := by unfold rankI; (repeat' split) <;> omega
theorem rank4 (lang k : Int) : rankI lang k = 7 ↔ k = 4 := by unfold rankI; (repeat' split) <;> omega
theorem rank6 (lang k : Int) : rankI lang k = 2 ↔ k = 6 := by unfold rankI; (repeat' split) <;> omega
theorem rank7 (lang k : Int) : rankI lang k = 3 ↔ k = 7 := by unfold rankI; (repeat' split) <;> omega
theorem rank8 (lang k : Int) : rankI lang k = 5 ↔ k = 8 := by unfold rankI; (repeat' split) <;> omega
theorem rank9 (lang k : Int) : rankI lang k = 4 ↔ k = 9 := by unfold rankI; (repeat' split) <;> omega
theorem rank10 (lang k : Int) : rankI lang k = 6 ↔ k = 10 := by unfold rankI; (repeat' split) <;> omega
theorem plain_same (lang : Int) (k : Int) (b : Bool) (n : Int) (t x : ByteArray) (len : Nat) (r : Bool) (k2 : Int) (b2 : Bool) (n2 : Int) (t2 x2 : ByteArray) (len2 : Nat) (r2 : Bool) (er : rankI lang k = rankI lang k2) (h5 : ¬ k = 5)
    (m : fitsP k b n t x len r = true) (m2 : fitsP k2 b2 n2 t2 x2 len2 r2 = true) (hi : innerI k n b t x k2 n2 b2 t2 x2 = 0) : k = k2 ∧ b = b2 ∧ n = n2 ∧ t.toList = t2.toList ∧ x.toList = x2.toList ∧ len = 0 ∧ len2 = 0 := by
  by_cases h0 : k = 0
  · have e := (rank0 lang k2).1 (er ▸ (rank0 lang k).2 h0)
    subst h0 e
    unfold fitsP at m m2
    rw [if_pos rfl] at m m2
    obtain ⟨rfl, rfl, rfl, rfl, rfl⟩ := bare_of m
    obtain ⟨rfl, rfl, rfl, rfl, rfl⟩ := bare_of m2
    exact ⟨rfl, rfl, rfl, rfl, rfl, rfl, rfl⟩
  by_cases h1 : k = 1
  · have e := (rank1 lang k2).1 (er ▸ (rank1 lang k).2 h1)
    subst h1 e
    unfold fitsP at m m2
    rw [if_neg (by decide), if_pos rfl] at m m2
    obtain ⟨_, rfl, rfl, rfl, rfl⟩ := bare_of m
    obtain ⟨_, rfl, rfl, rfl, rfl⟩ := bare_of m2
    unfold innerI at hi
    rw [if_neg (by decide), if_pos rfl] at hi
    have eb : b = b2 := by cases b <;> cases b2 <;> first | rfl | (exact absurd hi (by decide))
    exact ⟨rfl, eb, rfl, rfl, rfl, rfl, rfl⟩
  by_cases h6 : k = 6 ∨ k = 7
  · have e : k2 = k := by
      rcases h6 with h | h
      · rw [h]; exact (rank6 lang k2).1 (er ▸ (rank6 lang k).2 h)
      · rw [h]; exact (rank7 lang k2).1 (er ▸ (rank7 lang k).2 h)
    subst e
    unfold innerI at hi
    rw [if_pos h6] at hi
    obtain rfl := cmpZ_only hi
    unfold fitsP at m m2
    rw [if_neg h0, if_neg h1, if_neg (by omega), if_neg (by omega), if_neg (by omega), if_neg h5, if_pos h6, Bool.and_eq_true] at m m2
    obtain ⟨rfl, _, rfl, rfl, rfl⟩ := bare_of m.2
    obtain ⟨rfl, _, rfl, rfl, rfl⟩ := bare_of m2.2
    exact ⟨rfl, rfl, rfl, rfl, rfl, rfl, rfl⟩
  by_cases h2 : k = 2 ∨ k = 3
  · unfold innerI at hi
    rw [if_neg h6, if_neg h1, if_pos h2] at hi
    obtain ⟨hn, hk⟩ := lexI_none hi
    obtain ⟨hk, ht⟩ := lexI_none hk
    have ek := cmpZ_only hk
    subst ek
    by_cases h3 : k = 3
    · subst h3
      rw [if_pos rfl] at ht
      have et := bytesI_none ht
      unfold fitsP at m m2
      rw [if_neg h0, if_neg h1, if_neg (by decide), if_pos rfl, Bool.and_eq_true] at m m2
      obtain ⟨rfl, rfl, _, rfl, rfl⟩ := bare_of m.2
      obtain ⟨rfl, rfl, _, rfl, rfl⟩ := bare_of m2.2
      exact ⟨rfl, rfl, rfl, et, rfl, rfl, rfl⟩
    · obtain rfl : k = 2 := by omega
      rw [numV_whole, numV_whole, cmpZ_scale] at hn
      obtain rfl := cmpZ_only hn
      unfold fitsP at m m2
      rw [if_neg h0, if_neg h1, if_pos rfl] at m m2
      obtain ⟨rfl, _, rfl, rfl, rfl⟩ := bare_of m
      obtain ⟨rfl, _, rfl, rfl, rfl⟩ := bare_of m2
      exact ⟨rfl, rfl, rfl, rfl, rfl, rfl, rfl⟩
  unfold innerI at hi
  rw [if_neg h6, if_neg h1, if_neg h2] at hi
  obtain ⟨ht, hx⟩ := lexI_none hi
  have et := bytesI_none ht
  have ex := bytesI_none hx
  have n2 : ¬ k = 2 := fun e => h2 (.inl e)
  have n3 : ¬ k = 3 := fun e => h2 (.inr e)
  have e : k2 = k := by
    by_cases a4 : k = 4
    · rw [a4]; exact (rank4 lang k2).1 (er ▸ (rank4 lang k).2 a4)
    by_cases a8 : k = 8
    · rw [a8]; exact (rank8 lang k2).1 (er ▸ (rank8 lang k).2 a8)
    by_cases a9 : k = 9
    · rw [a9]; exact (rank9 lang k2).1 (er ▸ (rank9 lang k).2 a9)
    by_cases a10 : k = 10
    · rw [a10]; exact (rank10 lang k2).1 (er ▸ (rank10 lang k).2 a10)
    unfold fitsP at m
    rw [if_neg h0, if_neg h1, if_neg n2, if_neg n3, if_neg a4, if_neg h5, if_neg h6, if_neg a8, if_neg a9, if_neg a10] at m
    cases m
  subst e
  unfold fitsP at m m2
  rw [if_neg h0, if_neg h1, if_neg n2, if_neg n3] at m m2
  by_cases a4 : k2 = 4
  · rw [if_pos a4, Bool.and_eq_true] at m m2
    obtain ⟨rfl, rfl, _, rfl, rfl⟩ := bare_of m.2
    obtain ⟨rfl, rfl, _, rfl, rfl⟩ := bare_of m2.2
    exact ⟨rfl, rfl, rfl, et, rfl, rfl, rfl⟩
  rw [if_neg a4, if_neg h5, if_neg h6] at m m2
  by_cases a8 : k2 = 8
  · rw [if_pos a8, Bool.and_eq_true] at m m2
    obtain ⟨rfl, rfl, _, rfl, rfl⟩ := bare_of m.2
    obtain ⟨rfl, rfl, _, rfl, rfl⟩ := bare_of m2.2
    exact ⟨rfl, rfl, rfl, et, rfl, rfl, rfl⟩
  rw [if_neg a8] at m m2
  by_cases a9 : k2 = 9
  · rw [if_pos a9, Bool.and_eq_true] at m m2
    obtain ⟨rfl, rfl, _, rfl, rfl⟩ := bare_of m.2
    obtain ⟨rfl, rfl, _, rfl, rfl⟩ := bare_of m2.2
    exact ⟨rfl, rfl, rfl, et, rfl, rfl, rfl⟩
  rw [if_neg a9] at m m2
  by_cases a10 : k2 = 10
  · rw [if_pos a10, Bool.and_eq_true, Bool.and_eq_true] at m m2
    obtain ⟨rfl, rfl, _, _, rfl⟩ := bare_of m.2.2
    obtain ⟨rfl, rfl, _, _, rfl⟩ := bare_of m2.2.2
    exact ⟨rfl, rfl, rfl, et, ex, rfl, rfl⟩
  rw [if_neg a10] at m
  cases m
mutual
/-- Of two that may be, the order tells 0 just where they are the same. -/
theorem order_same (lang : Int) : (v v2 : Val) → (d d2 : Nat) → mayP v d = true → mayP v2 d2 = true → orderI lang v v2 = 0 → sameP v v2 = true
  | .mk k b n t x l, .mk k2 b2 n2 t2 x2 l2, d, d2, m, m2, h => by
    rw [orderI_mk] at h
    obtain ⟨hr, hi⟩ := lexI_none h
    have er := cmpZ_only hr
    unfold mayP at m m2
    unfold sameP
    by_cases h5 : k = 5
    · have h52 := (rank_cat er).1.1 h5
      subst h5 h52
      rw [if_pos rfl] at hi
      unfold fitsP at m m2
      simp only [show ¬ (5 : Int) = 0 from by decide, show ¬ (5 : Int) = 1 from by decide, show ¬ (5 : Int) = 2 from by decide, show ¬ (5 : Int) = 3 from by decide, show ¬ (5 : Int) = 4 from by decide, if_true, if_false, Bool.and_eq_true] at m m2
      obtain ⟨⟨_, me⟩, mb⟩ := m
      obtain ⟨⟨_, me2⟩, mb2⟩ := m2
      obtain ⟨rfl, rfl, rfl, rfl, _⟩ := bare_of mb
      obtain ⟨rfl, rfl, rfl, rfl, _⟩ := bare_of mb2
      obtain ⟨e1, e2⟩ := list_same lang l l2 _ _ me me2 hi
      simp [e1, e2]
    · rw [if_neg h5] at hi
      obtain ⟨rfl, rfl, rfl, et, ex, l0, l20⟩ := plain_same lang k b n t x l.length _ k2 b2 n2 t2 x2 l2.length _ er h5 m m2 hi
      obtain rfl := List.length_eq_zero_iff.1 l0
      obtain rfl := List.length_eq_zero_iff.1 l20
      simp [et, ex, eachSame]
theorem list_same (lang : Int) : (l l2 : List Val) → (d d2 : Nat) → eachP l d = true → eachP l2 d2 = true → listI lang l l2 = 0 → l.length = l2.length ∧ eachSame l l2 = true
  | [], [], _, _, _, _, _ => by unfold eachSame; exact ⟨rfl, rfl⟩
  | [], _ :: _, _, _, _, _, h => by unfold listI at h; omega
  | _ :: _, [], _, _, _, _, h => by unfold listI at h; omega
  | u :: r, v :: s, d, d2, m, m2, h => by
    unfold listI at h
    unfold eachP at m m2
    rw [Bool.and_eq_true] at m m2
    obtain ⟨h1, h2⟩ := lexI_none h
    have a := order_same lang u v d d2 m.1 m2.1 h1
    obtain ⟨e1, e2⟩ := list_same lang r s d d2 m.2 m2.2 h2
    unfold eachSame
    rw [a, e2]
    exact ⟨by simp [e1], rfl⟩
end
end Go.Proofs.YtanbgdhmfjgihaaGreatDoor

/- The order of all values: what is the same stands with it. No Go stands here. -/
namespace Go.Proofs.YtanbgdhmfjgihaaGreatDoor

theorem loop_eq (t : ByteArray) : (n i : Nat) → (r : List UInt8) → n = t.size - i → ByteArray.toList.loop t i r = r.reverse ++ t.data.toList.drop i
  | 0, i, r, h => by
    unfold ByteArray.toList.loop
    rw [if_neg (by omega)]
    have : t.data.toList.length ≤ i := by rw [Array.length_toList]; show t.size ≤ i; omega
    rw [List.drop_eq_nil_of_le this, List.append_nil]
  | n + 1, i, r, h => by
    have hi : i < t.size := by omega
    unfold ByteArray.toList.loop
    rw [if_pos hi, loop_eq t n (i + 1) _ (by omega)]
    have hl : i < t.data.toList.length := by rw [Array.length_toList]; exact hi
    rw [List.drop_eq_getElem_cons hl, List.reverse_cons, List.append_assoc]
    have e : t.get! i = t.data.toList[i] := by
      obtain ⟨d⟩ := t
      have h2 : i < d.size := hi
      show d[i]! = d.toList[i]
      rw [getElem!_pos d i h2]
      simp
    rw [e]
    rfl
theorem toList_eq (t : ByteArray) : t.toList = t.data.toList := by
  unfold ByteArray.toList
  rw [loop_eq t _ 0 [] rfl]
  simp
end Go.Proofs.YtanbgdhmfjgihaaGreatDoor

/- Where a value stands by its kind; how two truths stand. -/
namespace Go.Proofs.YtanbgdhmfjgihaaGreatDoor
open Go.RowKit

set_option maxRecDepth 4000 in
set_option maxHeartbeats 6400000 in
theorem rankAt (lang k : Int) (b : Bool) (n : Int) (t x : ByteArray) (p : Option Addr) (len cap : Nat) (w : World) :
    Calls Tryz.prog 136 #[.int .i64 lang, .agg #[.int .i64 k, .bool b, .int .i64 n, .string t, .string x, .slice p len cap]] w fun e w' => e = .returned (.int .i64 (rankI lang k)) ∧ Low w.heap.size w w' := by
  have S := six_new (k := k) (b := b) (n := n) (t := t) (x := x) (p := p) (len := len) (cap := cap) w rfl
  have b0 := low1 w (.cells #[.int .i64 k, .bool b, .int .i64 n, .string t, .string x, .slice p len cap] 39)
  by_cases h0 : k = 0
  · subst h0
    by_cases hl : lang = 1
    · subst hl
      rw [show rankI 1 0 = 0 from rfl]
      go_enter Tryz.func136, Tryz.ntmps136
      go_wp2_with (first
        | ((with_reducible refine wpList_load6 (.tmp 3) w.heap.size S ?_ ?_ ?_ ?_); rfl; rfl; rfl)
        | (go_at_call 107; (with_reducible refine (kindOfAt 0 b n t x _ 145 rfl _).mono ?_); rintro e w2 ⟨rfl, hb2⟩; have b2 := low_any b0 hb2 b0.size; clear hb2)
        | (simp only [ta145_145, Result.andThen_ok]))
      go_ret
      exact ⟨rfl, b2⟩
    · rw [show rankI lang 0 = 10 by unfold rankI; rw [if_pos rfl, if_neg hl]]
      go_enter Tryz.func136, Tryz.ntmps136
      go_wp2_with (first
        | ((with_reducible refine wpList_load6 (.tmp 3) w.heap.size S ?_ ?_ ?_ ?_); rfl; rfl; rfl)
        | (go_at_call 107; (with_reducible refine (kindOfAt 0 b n t x _ 145 rfl _).mono ?_); rintro e w2 ⟨rfl, hb2⟩; have b2 := low_any b0 hb2 b0.size; clear hb2)
        | (simp only [ta145_145, Result.andThen_ok]))
      go_ret
      exact ⟨rfl, b2⟩
  by_cases h1 : k = 1
  · subst h1
    rw [show rankI lang 1 = 8 from rfl]
    go_enter Tryz.func136, Tryz.ntmps136
    go_wp2_with (first
      | ((with_reducible refine wpList_load6 (.tmp 3) w.heap.size S ?_ ?_ ?_ ?_); rfl; rfl; rfl)
      | (go_at_call 107; (with_reducible refine (kindOfAt 1 b n t x _ 146 rfl _).mono ?_); rintro e w2 ⟨rfl, hb2⟩; have b2 := low_any b0 hb2 b0.size; clear hb2)
      | (simp only [ta146_145, ta146_146, ta146_148, ta146_149, ta146_151, ta146_152, ta146_153, ta146_154, ta146_155, Result.andThen_ok]))
    go_ret
    exact ⟨rfl, b2⟩
  by_cases h2 : k = 2
  · subst h2
    rw [show rankI lang 2 = 9 from rfl]
    go_enter Tryz.func136, Tryz.ntmps136
    go_wp2_with (first
      | ((with_reducible refine wpList_load6 (.tmp 3) w.heap.size S ?_ ?_ ?_ ?_); rfl; rfl; rfl)
      | (go_at_call 107; (with_reducible refine (kindOfAt 2 b n t x _ 147 rfl _).mono ?_); rintro e w2 ⟨rfl, hb2⟩; have b2 := low_any b0 hb2 b0.size; clear hb2)
      | (simp only [ta147_145, ta147_146, ta147_147, ta147_148, ta147_149, ta147_150, ta147_151, ta147_152, ta147_153, ta147_154, ta147_155, Result.andThen_ok]))
    go_ret
    exact ⟨rfl, b2⟩
  by_cases h3 : k = 3
  · subst h3
    rw [show rankI lang 3 = 9 from rfl]
    go_enter Tryz.func136, Tryz.ntmps136
    go_wp2_with (first
      | ((with_reducible refine wpList_load6 (.tmp 3) w.heap.size S ?_ ?_ ?_ ?_); rfl; rfl; rfl)
      | (go_at_call 107; (with_reducible refine (kindOfAt 3 b n t x _ 150 rfl _).mono ?_); rintro e w2 ⟨rfl, hb2⟩; have b2 := low_any b0 hb2 b0.size; clear hb2)
      | (simp only [ta150_145, ta150_146, ta150_147, ta150_148, ta150_149, ta150_150, ta150_151, ta150_152, ta150_153, ta150_154, ta150_155, Result.andThen_ok]))
    go_ret
    exact ⟨rfl, b2⟩
  by_cases h4 : k = 4
  · subst h4
    rw [show rankI lang 4 = 7 from rfl]
    go_enter Tryz.func136, Tryz.ntmps136
    go_wp2_with (first
      | ((with_reducible refine wpList_load6 (.tmp 3) w.heap.size S ?_ ?_ ?_ ?_); rfl; rfl; rfl)
      | (go_at_call 107; (with_reducible refine (kindOfAt 4 b n t x _ 151 rfl _).mono ?_); rintro e w2 ⟨rfl, hb2⟩; have b2 := low_any b0 hb2 b0.size; clear hb2)
      | (simp only [ta151_145, ta151_148, ta151_149, ta151_151, ta151_152, ta151_153, ta151_154, ta151_155, Result.andThen_ok]))
    go_ret
    exact ⟨rfl, b2⟩
  by_cases h5 : k = 5
  · subst h5
    rw [show rankI lang 5 = 1 from rfl]
    go_enter Tryz.func136, Tryz.ntmps136
    go_wp2_with (first
      | ((with_reducible refine wpList_load6 (.tmp 3) w.heap.size S ?_ ?_ ?_ ?_); rfl; rfl; rfl)
      | (go_at_call 107; (with_reducible refine (kindOfAt 5 b n t x _ 155 rfl _).mono ?_); rintro e w2 ⟨rfl, hb2⟩; have b2 := low_any b0 hb2 b0.size; clear hb2)
      | (simp only [ta155_145, ta155_155, Result.andThen_ok]))
    go_ret
    exact ⟨rfl, b2⟩
  by_cases h6 : k = 6
  · subst h6
    rw [show rankI lang 6 = 2 from rfl]
    go_enter Tryz.func136, Tryz.ntmps136
    go_wp2_with (first
      | ((with_reducible refine wpList_load6 (.tmp 3) w.heap.size S ?_ ?_ ?_ ?_); rfl; rfl; rfl)
      | (go_at_call 107; (with_reducible refine (kindOfAt 6 b n t x _ 148 rfl _).mono ?_); rintro e w2 ⟨rfl, hb2⟩; have b2 := low_any b0 hb2 b0.size; clear hb2)
      | (simp only [ta148_145, ta148_148, ta148_155, Result.andThen_ok]))
    go_ret
    exact ⟨rfl, b2⟩
  by_cases h7 : k = 7
  · subst h7
    rw [show rankI lang 7 = 3 from rfl]
    go_enter Tryz.func136, Tryz.ntmps136
    go_wp2_with (first
      | ((with_reducible refine wpList_load6 (.tmp 3) w.heap.size S ?_ ?_ ?_ ?_); rfl; rfl; rfl)
      | (go_at_call 107; (with_reducible refine (kindOfAt 7 b n t x _ 149 rfl _).mono ?_); rintro e w2 ⟨rfl, hb2⟩; have b2 := low_any b0 hb2 b0.size; clear hb2)
      | (simp only [ta149_145, ta149_148, ta149_149, ta149_155, Result.andThen_ok]))
    go_ret
    exact ⟨rfl, b2⟩
  by_cases h8 : k = 8
  · subst h8
    rw [show rankI lang 8 = 5 from rfl]
    go_enter Tryz.func136, Tryz.ntmps136
    go_wp2_with (first
      | ((with_reducible refine wpList_load6 (.tmp 3) w.heap.size S ?_ ?_ ?_ ?_); rfl; rfl; rfl)
      | (go_at_call 107; (with_reducible refine (kindOfAt 8 b n t x _ 152 rfl _).mono ?_); rintro e w2 ⟨rfl, hb2⟩; have b2 := low_any b0 hb2 b0.size; clear hb2)
      | (simp only [ta152_145, ta152_148, ta152_149, ta152_152, ta152_153, ta152_155, Result.andThen_ok]))
    go_ret
    exact ⟨rfl, b2⟩
  by_cases h9 : k = 9
  · subst h9
    rw [show rankI lang 9 = 4 from rfl]
    go_enter Tryz.func136, Tryz.ntmps136
    go_wp2_with (first
      | ((with_reducible refine wpList_load6 (.tmp 3) w.heap.size S ?_ ?_ ?_ ?_); rfl; rfl; rfl)
      | (go_at_call 107; (with_reducible refine (kindOfAt 9 b n t x _ 153 rfl _).mono ?_); rintro e w2 ⟨rfl, hb2⟩; have b2 := low_any b0 hb2 b0.size; clear hb2)
      | (simp only [ta153_145, ta153_148, ta153_149, ta153_153, ta153_155, Result.andThen_ok]))
    go_ret
    exact ⟨rfl, b2⟩
  by_cases h10 : k = 10
  · subst h10
    rw [show rankI lang 10 = 6 from rfl]
    go_enter Tryz.func136, Tryz.ntmps136
    go_wp2_with (first
      | ((with_reducible refine wpList_load6 (.tmp 3) w.heap.size S ?_ ?_ ?_ ?_); rfl; rfl; rfl)
      | (go_at_call 107; (with_reducible refine (kindOfAt 10 b n t x _ 154 rfl _).mono ?_); rintro e w2 ⟨rfl, hb2⟩; have b2 := low_any b0 hb2 b0.size; clear hb2)
      | (simp only [ta154_145, ta154_148, ta154_149, ta154_152, ta154_153, ta154_154, ta154_155, Result.andThen_ok]))
    go_ret
    exact ⟨rfl, b2⟩
  have hk : kindT k = 188 := by unfold kindT; simp [h0, h1, h2, h3, h4, h5, h6, h7, h8, h9, h10]
  rw [show rankI lang k = 11 by unfold rankI; simp [h0, h1, h2, h3, h4, h5, h6, h7, h8, h9, h10]]
  go_enter Tryz.func136, Tryz.ntmps136
  go_wp2_with (first
    | ((with_reducible refine wpList_load6 (.tmp 3) w.heap.size S ?_ ?_ ?_ ?_); rfl; rfl; rfl)
    | (go_at_call 107; (with_reducible refine (kindOfAt k b n t x _ 188 hk.symm _).mono ?_); rintro e w2 ⟨rfl, hb2⟩; have b2 := low_any b0 hb2 b0.size; clear hb2)
    | (simp only [ta188_145, ta188_146, ta188_147, ta188_148, ta188_149, ta188_150, ta188_151, ta188_152, ta188_153, ta188_154, ta188_155, Result.andThen_ok]))
  go_ret
  exact ⟨rfl, b2⟩
theorem orderBoolsAt (a b : Bool) (w : World) : Calls Tryz.prog 168 #[.bool a, .bool b] w fun e w' => e = .returned (.int .i64 (boolI a b)) ∧ w' = w := by
  cases a <;> cases b
  all_goals
    go_enter Tryz.func168, Tryz.ntmps168
    go_wp2_with fail
    go_ret
    exact ⟨rfl, rfl⟩
end Go.Proofs.YtanbgdhmfjgihaaGreatDoor

/- How two texts stand, by strings.Compare; the first that is not 0; how two numbers stand. -/
namespace Go.Proofs.YtanbgdhmfjgihaaGreatDoor
open Go.RowKit

theorem compareBytes_eq : (l m : List UInt8) → Lib.compareBytes l m = bytesI l m
  | [], [] => by rfl
  | [], _ :: _ => by unfold Lib.compareBytes bytesI; rfl
  | _ :: _, [] => by unfold Lib.compareBytes bytesI; rfl
  | a :: x, b :: y => by
    unfold Lib.compareBytes
    rw [compareBytes_eq x y]
    unfold bytesI
    rw [show Op.bytesLess (a :: x) (b :: y) = (decide (a < b) || (a == b && Op.bytesLess x y)) from rfl, show Op.bytesLess (b :: y) (a :: x) = (decide (b < a) || (b == a && Op.bytesLess y x)) from rfl]
    by_cases h : a < b
    · simp [h]
    · by_cases g : b < a
      · have e : a ≠ b := by
          intro e
          subst e
          exact h g
        simp [h, g, e]
      · have e : a = b := by
          rw [UInt8.lt_iff_toNat_lt] at h g
          exact UInt8.toNat_inj.1 (by omega)
        subst e
        simp [h]
def Tryz.lays106_ren : Go.Shelf.Ren := ⟨fun | 106 => 171 | 213 => 184 | 265 => 195 | n => n, fun | n => n, fun | n => n⟩
theorem Tryz.lays106 : Go.Proofs.Lays.n106 Tryz.prog Tryz.lays106_ren := {
  mixed := by kernel_rfl
  f106 := Tryz.func171.trans (congrArg some (by kernel_rfl))
  f213 := Tryz.func184.trans (congrArg some (by kernel_rfl))
  f265 := Tryz.func195.trans (congrArg some (by kernel_rfl))
  t3 := Tryz.underlying3
  a3 := Tryz.isAgg3
  z3 := Tryz.sizeOf3
  v3 := Tryz.zeroValue3
  t9 := Tryz.underlying9
  a9 := Tryz.isAgg9
  z9 := Tryz.sizeOf9
  v9 := Tryz.zeroValue9 }
theorem strCmpAt (a b : ByteArray) (w : World) : Calls Tryz.prog 171 #[.string a, .string b] w fun e w' => e = .returned (.int .i64 (bytesI a.toList b.toList)) ∧ w' = w := by
  rw [toList_eq, toList_eq, ← compareBytes_eq]
  exact Any.strings_Compare Tryz.lays106 a b w

set_option maxHeartbeats 1600000 in
theorem orAt (c d : Int) (g : Nat) (w : World) (h0 : w.cell? ⟨g, 0, none⟩ = some (.int .i64 c)) (h1 : w.cell? ⟨g, 1, none⟩ = some (.int .i64 d)) :
    Calls Tryz.prog 170 #[.slice (some ⟨g, 0, none⟩) 2 2] w fun e w' => e = .returned (.int .i64 (lexI c d)) ∧ w' = w := by
  obtain ⟨r, hr⟩ : ∃ r, r = lexI c d := ⟨_, rfl⟩
  rw [← hr]
  have HR := Lib.hid hr
  clear hr
  go_enter Tryz.func170, Tryz.ntmps170
  go_wp2_with fail
  go_loopw [8] (fun i wr => wr = w ∧ ∃ j : Nat, i = .int .i64 j ∧ (j = 0 ∨ (j = 1 ∧ c = 0) ∨ (j = 2 ∧ c = 0 ∧ d = 0))) (fun i _ => 2 - (intOf i).toNat)
  case atStart => exact ⟨rfl, 0, rfl, .inl rfl⟩
  case round =>
    obtain ⟨rfl, j, rfl, rfl | ⟨rfl, hc⟩ | ⟨rfl, hc, hd⟩⟩ := hrel
    · by_cases hc : c = 0
      · have e2 : (c != 0) = false := by simp [hc]
        go_wp2_with fail
        go_roundw
        case rel => exact ⟨trivial, 1, by go_num, .inr (.inl ⟨rfl, hc⟩)⟩
        case measure => simp [intOf]
      · have e2 : (c != 0) = true := by simpa using hc
        go_wp2_with fail
        go_ret
        exact ⟨by rw [HR.out, lexI, if_neg hc]; rfl, rfl⟩
    · by_cases hd : d = 0
      · have e2 : (d != 0) = false := by simp [hd]
        go_wp2_with fail
        go_roundw
        case rel => exact ⟨trivial, 2, by go_num, .inr (.inr ⟨rfl, hc, hd⟩)⟩
        case measure => simp [intOf]
      · have e2 : (d != 0) = true := by simpa using hd
        go_wp2_with fail
        go_ret
        exact ⟨by rw [HR.out, lexI, if_pos hc]; rfl, rfl⟩
    · go_wp2_with fail
      go_ret
      exact ⟨by rw [HR.out, lexI, if_pos hc, hd]; rfl, rfl⟩

set_option maxRecDepth 20000 in
set_option maxHeartbeats 3200000 in
theorem ordNumsAt (k : Int) (b : Bool) (n : Int) (t x : ByteArray) (p : Option Addr) (len cap : Nat) (k2 : Int) (b2 : Bool) (n2 : Int) (t2 x2 : ByteArray) (p2 : Option Addr) (len2 cap2 : Nat) (w : World) (hG : Gd w) (hT : Tab w) (hf : Fine n t x len) (hf2 : Fine n2 t2 x2 len2) (hk : k = 2 ∨ k = 3) (hk2 : k2 = 2 ∨ k2 = 3) :
    Calls Tryz.prog 169 #[.agg #[.int .i64 k, .bool b, .int .i64 n, .string t, .string x, .slice p len cap], .agg #[.int .i64 k2, .bool b2, .int .i64 n2, .string t2, .string x2, .slice p2 len2 cap2]] w fun e w' => e = .returned (.int .i64 (lexI (cmpZ (numV k n t) (numV k2 n2 t2)) (lexI (cmpZ k k2) (if k = 3 then bytesI t.toList t2.toList else 0)))) ∧ Low w.heap.size w w' := by
  obtain ⟨W0, hW0⟩ : ∃ W0, W0 = (w.alloc (.cells #[.int .i64 k, .bool b, .int .i64 n, .string t, .string x, .slice p len cap] 39)).alloc (.cells #[.int .i64 k2, .bool b2, .int .i64 n2, .string t2, .string x2, .slice p2 len2 cap2] 39) := ⟨_, rfl⟩
  have S4 : Six W0 w.heap.size k b n t x p len cap := by rw [hW0]; exact (six_new _ rfl).alloc _
  have S5 : Six W0 (w.heap.size + 1) k2 b2 n2 t2 x2 p2 len2 cap2 := by rw [hW0]; exact six_new _ (by simp)
  have b0 : Low w.heap.size w W0 := by rw [hW0]; exact low2 _ _ _
  have hN := fun W (h : Low w.heap.size w W) => cmpNumsAt k b n t x p len cap k2 b2 n2 t2 x2 p2 len2 cap2 W (hG.below h.is) (hT.below h.is) hf hf2
  have hB2 := fun W => bothAreAt 2 k b n t x (.slice p len cap) k2 b2 n2 t2 x2 (.slice p2 len2 cap2) W
  have hB3 := fun W => bothAreAt 3 k b n t x (.slice p len cap) k2 b2 n2 t2 x2 (.slice p2 len2 cap2) W
  have hS := fun W => strCmpAt t t2 W
  have H0 := Lib.hid hW0
  clear hf hf2 hG hT hW0
  generalize cmpZ (numV k n t) (numV k2 n2 t2) = c at hN ⊢
  generalize bytesI t.toList t2.toList = s at hS ⊢
  obtain ⟨r2, hr2⟩ : ∃ r, r = (k == 2 && k2 == 2) := ⟨_, rfl⟩
  obtain ⟨r3, hr3⟩ : ∃ r, r = (k == 3 && k2 == 3) := ⟨_, rfl⟩
  rw [← hr2] at hB2
  rw [← hr3] at hB3
  by_cases hc : c = 0
  · subst hc
    rw [lexI_zero]
    rcases hk with rfl | rfl <;> rcases hk2 with rfl | rfl
    · obtain rfl : r2 = true := hr2
      obtain rfl : r3 = false := hr3
      rw [show lexI (cmpZ 2 2) (if (2 : Int) = 3 then s else 0) = 0 from rfl]
      go_enter Tryz.func169, Tryz.ntmps169
      go_wp2_with (first
        | (rw [← H0.out]; (with_reducible refine wpList_load6 (.tmp 2) w.heap.size S4 ?_ ?_ ?_ ?_); rfl; rfl; rfl)
        | ((with_reducible refine wpList_load6 (.tmp 2) w.heap.size S4 ?_ ?_ ?_ ?_); rfl; rfl; rfl)
        | ((with_reducible refine wpList_load6 (.tmp 3) (w.heap.size + 1) S5 ?_ ?_ ?_ ?_); rfl; rfl; rfl)
        | ((with_reducible refine wpList_load6g (.tmp 2) w.heap.size S4 ?_ ?_ ?_ ?_); rfl; rfl; rfl)
        | ((with_reducible refine wpList_load6g (.tmp 3) (w.heap.size + 1) S5 ?_ ?_ ?_ ?_); rfl; rfl; rfl)
        | (go_at_call 182; (with_reducible refine (hN _ b0).mono ?_); rintro e w' ⟨rfl, hb⟩; replace S4 := S4.below hb.is; replace S5 := S5.below hb.is; replace b0 := low_any b0 hb b0.size; have f3 := S4.c3; have g3 := S5.c3; have f0 := S4.c0; clear hb)
        | (go_at_call 183; (with_reducible refine (hB2 _).mono ?_); rintro e w' ⟨rfl, hb⟩; replace S4 := S4.below hb.is; replace S5 := S5.below hb.is; replace b0 := low_any b0 hb b0.size; have f3 := S4.c3; have g3 := S5.c3; have f0 := S4.c0; clear hb)
        | (go_at_call 183; (with_reducible refine (hB3 _).mono ?_); rintro e w' ⟨rfl, hb⟩; replace S4 := S4.below hb.is; replace S5 := S5.below hb.is; replace b0 := low_any b0 hb b0.size; have f3 := S4.c3; have g3 := S5.c3; have f0 := S4.c0; clear hb)
        | (go_at_call 171; (with_reducible refine (hS _).mono ?_); rintro e w' ⟨rfl, rfl⟩))
      go_ret
      exact ⟨rfl, b0⟩
    · obtain rfl : r2 = false := hr2
      obtain rfl : r3 = false := hr3
      rw [show lexI (cmpZ 2 3) (if (2 : Int) = 3 then s else 0) = -1 from rfl]
      go_enter Tryz.func169, Tryz.ntmps169
      go_wp2_with (first
        | (rw [← H0.out]; (with_reducible refine wpList_load6 (.tmp 2) w.heap.size S4 ?_ ?_ ?_ ?_); rfl; rfl; rfl)
        | ((with_reducible refine wpList_load6 (.tmp 2) w.heap.size S4 ?_ ?_ ?_ ?_); rfl; rfl; rfl)
        | ((with_reducible refine wpList_load6 (.tmp 3) (w.heap.size + 1) S5 ?_ ?_ ?_ ?_); rfl; rfl; rfl)
        | ((with_reducible refine wpList_load6g (.tmp 2) w.heap.size S4 ?_ ?_ ?_ ?_); rfl; rfl; rfl)
        | ((with_reducible refine wpList_load6g (.tmp 3) (w.heap.size + 1) S5 ?_ ?_ ?_ ?_); rfl; rfl; rfl)
        | (go_at_call 182; (with_reducible refine (hN _ b0).mono ?_); rintro e w' ⟨rfl, hb⟩; replace S4 := S4.below hb.is; replace S5 := S5.below hb.is; replace b0 := low_any b0 hb b0.size; have f3 := S4.c3; have g3 := S5.c3; have f0 := S4.c0; clear hb)
        | (go_at_call 183; (with_reducible refine (hB2 _).mono ?_); rintro e w' ⟨rfl, hb⟩; replace S4 := S4.below hb.is; replace S5 := S5.below hb.is; replace b0 := low_any b0 hb b0.size; have f3 := S4.c3; have g3 := S5.c3; have f0 := S4.c0; clear hb)
        | (go_at_call 183; (with_reducible refine (hB3 _).mono ?_); rintro e w' ⟨rfl, hb⟩; replace S4 := S4.below hb.is; replace S5 := S5.below hb.is; replace b0 := low_any b0 hb b0.size; have f3 := S4.c3; have g3 := S5.c3; have f0 := S4.c0; clear hb)
        | (go_at_call 171; (with_reducible refine (hS _).mono ?_); rintro e w' ⟨rfl, rfl⟩))
      go_ret
      exact ⟨rfl, b0⟩
    · obtain rfl : r2 = false := hr2
      obtain rfl : r3 = false := hr3
      rw [show lexI (cmpZ 3 2) (if (3 : Int) = 3 then s else 0) = 1 from rfl]
      go_enter Tryz.func169, Tryz.ntmps169
      go_wp2_with (first
        | (rw [← H0.out]; (with_reducible refine wpList_load6 (.tmp 2) w.heap.size S4 ?_ ?_ ?_ ?_); rfl; rfl; rfl)
        | ((with_reducible refine wpList_load6 (.tmp 2) w.heap.size S4 ?_ ?_ ?_ ?_); rfl; rfl; rfl)
        | ((with_reducible refine wpList_load6 (.tmp 3) (w.heap.size + 1) S5 ?_ ?_ ?_ ?_); rfl; rfl; rfl)
        | ((with_reducible refine wpList_load6g (.tmp 2) w.heap.size S4 ?_ ?_ ?_ ?_); rfl; rfl; rfl)
        | ((with_reducible refine wpList_load6g (.tmp 3) (w.heap.size + 1) S5 ?_ ?_ ?_ ?_); rfl; rfl; rfl)
        | (go_at_call 182; (with_reducible refine (hN _ b0).mono ?_); rintro e w' ⟨rfl, hb⟩; replace S4 := S4.below hb.is; replace S5 := S5.below hb.is; replace b0 := low_any b0 hb b0.size; have f3 := S4.c3; have g3 := S5.c3; have f0 := S4.c0; clear hb)
        | (go_at_call 183; (with_reducible refine (hB2 _).mono ?_); rintro e w' ⟨rfl, hb⟩; replace S4 := S4.below hb.is; replace S5 := S5.below hb.is; replace b0 := low_any b0 hb b0.size; have f3 := S4.c3; have g3 := S5.c3; have f0 := S4.c0; clear hb)
        | (go_at_call 183; (with_reducible refine (hB3 _).mono ?_); rintro e w' ⟨rfl, hb⟩; replace S4 := S4.below hb.is; replace S5 := S5.below hb.is; replace b0 := low_any b0 hb b0.size; have f3 := S4.c3; have g3 := S5.c3; have f0 := S4.c0; clear hb)
        | (go_at_call 171; (with_reducible refine (hS _).mono ?_); rintro e w' ⟨rfl, rfl⟩))
      go_ret
      exact ⟨rfl, b0⟩
    · obtain rfl : r2 = false := hr2
      obtain rfl : r3 = true := hr3
      rw [show lexI (cmpZ 3 3) (if (3 : Int) = 3 then s else 0) = s from rfl]
      go_enter Tryz.func169, Tryz.ntmps169
      go_wp2_with (first
        | (rw [← H0.out]; (with_reducible refine wpList_load6 (.tmp 2) w.heap.size S4 ?_ ?_ ?_ ?_); rfl; rfl; rfl)
        | ((with_reducible refine wpList_load6 (.tmp 2) w.heap.size S4 ?_ ?_ ?_ ?_); rfl; rfl; rfl)
        | ((with_reducible refine wpList_load6 (.tmp 3) (w.heap.size + 1) S5 ?_ ?_ ?_ ?_); rfl; rfl; rfl)
        | ((with_reducible refine wpList_load6g (.tmp 2) w.heap.size S4 ?_ ?_ ?_ ?_); rfl; rfl; rfl)
        | ((with_reducible refine wpList_load6g (.tmp 3) (w.heap.size + 1) S5 ?_ ?_ ?_ ?_); rfl; rfl; rfl)
        | (go_at_call 182; (with_reducible refine (hN _ b0).mono ?_); rintro e w' ⟨rfl, hb⟩; replace S4 := S4.below hb.is; replace S5 := S5.below hb.is; replace b0 := low_any b0 hb b0.size; have f3 := S4.c3; have g3 := S5.c3; have f0 := S4.c0; clear hb)
        | (go_at_call 183; (with_reducible refine (hB2 _).mono ?_); rintro e w' ⟨rfl, hb⟩; replace S4 := S4.below hb.is; replace S5 := S5.below hb.is; replace b0 := low_any b0 hb b0.size; have f3 := S4.c3; have g3 := S5.c3; have f0 := S4.c0; clear hb)
        | (go_at_call 183; (with_reducible refine (hB3 _).mono ?_); rintro e w' ⟨rfl, hb⟩; replace S4 := S4.below hb.is; replace S5 := S5.below hb.is; replace b0 := low_any b0 hb b0.size; have f3 := S4.c3; have g3 := S5.c3; have f0 := S4.c0; clear hb)
        | (go_at_call 171; (with_reducible refine (hS _).mono ?_); rintro e w' ⟨rfl, rfl⟩))
      go_ret
      exact ⟨rfl, b0⟩
  · rw [show lexI c (lexI (cmpZ k k2) (if k = 3 then s else 0)) = c from if_neg hc]
    have hc2 : (c != 0) = true := by simpa using hc
    clear hk hk2 hr2 hr3 hc
    go_enter Tryz.func169, Tryz.ntmps169
    go_wp2_with (first
      | (rw [← H0.out]; (with_reducible refine wpList_load6 (.tmp 2) w.heap.size S4 ?_ ?_ ?_ ?_); rfl; rfl; rfl)
      | ((with_reducible refine wpList_load6 (.tmp 2) w.heap.size S4 ?_ ?_ ?_ ?_); rfl; rfl; rfl)
      | ((with_reducible refine wpList_load6 (.tmp 3) (w.heap.size + 1) S5 ?_ ?_ ?_ ?_); rfl; rfl; rfl)
      | ((with_reducible refine wpList_load6g (.tmp 2) w.heap.size S4 ?_ ?_ ?_ ?_); rfl; rfl; rfl)
      | ((with_reducible refine wpList_load6g (.tmp 3) (w.heap.size + 1) S5 ?_ ?_ ?_ ?_); rfl; rfl; rfl)
      | (go_at_call 182; (with_reducible refine (hN _ b0).mono ?_); rintro e w' ⟨rfl, hb⟩; replace S4 := S4.below hb.is; replace S5 := S5.below hb.is; replace b0 := low_any b0 hb b0.size; have f3 := S4.c3; have g3 := S5.c3; have f0 := S4.c0; clear hb)
      | (go_at_call 183; (with_reducible refine (hB2 _).mono ?_); rintro e w' ⟨rfl, hb⟩; replace S4 := S4.below hb.is; replace S5 := S5.below hb.is; replace b0 := low_any b0 hb b0.size; have f3 := S4.c3; have g3 := S5.c3; have f0 := S4.c0; clear hb)
      | (go_at_call 183; (with_reducible refine (hB3 _).mono ?_); rintro e w' ⟨rfl, hb⟩; replace S4 := S4.below hb.is; replace S5 := S5.below hb.is; replace b0 := low_any b0 hb b0.size; have f3 := S4.c3; have g3 := S5.c3; have f0 := S4.c0; clear hb)
      | (go_at_call 171; (with_reducible refine (hS _).mono ?_); rintro e w' ⟨rfl, rfl⟩))
    go_ret
    exact ⟨rfl, b0⟩
end Go.Proofs.YtanbgdhmfjgihaaGreatDoor
