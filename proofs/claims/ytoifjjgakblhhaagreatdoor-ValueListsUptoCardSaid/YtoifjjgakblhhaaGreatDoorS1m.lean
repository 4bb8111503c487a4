/- isDigits, orNought. -/
import Derived.Test.YtoifjjgakblhhaaGreatDoorA0m
import Derived.Test.YtoifjjgakblhhaaGreatDoorGa
import Derived.BigGuardPart
namespace Go.Proofs.YtoifjjgakblhhaaGreatDoor
open Go.RowKit

theorem digs_no {s : ByteArray} {k : Nat} (h : k < s.size) (hk : isDig s[k] = false) : digs s.data.toList = false := by
  unfold digs
  have : s.data.toList.all isDig = false := by
    rw [List.all_eq_false]
    exact ⟨s[k], by simp [ByteArray.getElem_eq_getElem_data], by rw [hk]; simp⟩
  rw [this, Bool.and_false]
theorem take_all {s : ByteArray} {k : Nat} (h : k < s.size) (ha : (s.data.toList.take k).all isDig = true) (hk : isDig s[k] = true) : (s.data.toList.take (k + 1)).all isDig = true := by
  rw [List.take_succ_eq_append_getElem (by simpa using h), List.all_append, ha]
  simpa [ByteArray.getElem_eq_getElem_data] using hk

set_option maxHeartbeats 400000 in
theorem isDigitsAt (s : ByteArray) (w : World) (hs : s.size ≤ maxLen) :
    Calls Tryz.prog 167 #[.string s] w fun e w' => e = .returned (.bool (digs s.data.toList)) ∧ w' = w := by
  unfold maxLen at hs
  go_enter Tryz.func167, Tryz.ntmps167
  go_wp2
  go_loop [6] (fun i => ∃ k : Nat, k ≤ s.size ∧ i = .int .i64 k ∧ (s.data.toList.take k).all isDig = true) (fun i => s.size - (intOf i).toNat)
  case atStart => exact ⟨0, Nat.zero_le _, rfl, by simp⟩
  case round =>
    obtain ⟨k, hk, rfl, hall⟩ := hrel
    have HA := Lib.hid hall
    clear hall
    by_cases hlt : k < s.size
    · by_cases h1 : (s[k].toNat : Int) < 48
      · go_wp2
        go_ret
        refine ⟨?_, rfl⟩
        rw [digs_no hlt (Bool.eq_false_iff.2 fun e => by have := (isDig_iff _).1 e; omega)]
        rfl
      · by_cases h2 : (57 : Int) < s[k].toNat
        · go_wp2
          go_ret
          refine ⟨?_, rfl⟩
          rw [digs_no hlt (Bool.eq_false_iff.2 fun e => by have := (isDig_iff _).1 e; omega)]
          rfl
        · go_wp2
          go_round
          case rel => exact ⟨k + 1, by omega, by go_num, take_all hlt HA.out ((isDig_iff _).2 ⟨by omega, by omega⟩)⟩
          case measure => simp [intOf]; omega
    · go_wp2
      go_ret
      refine ⟨?_, rfl⟩
      have hk' : k = s.data.toList.length := by have : s.data.toList.length = s.size := by simp
                                                omega
      have ha := HA.out
      rw [hk', List.take_length] at ha
      unfold digs
      rw [ha, Bool.and_true, ← ByteArray.toList_eq]
      rfl

theorem orNoughtAt (s : ByteArray) (w : World) :
    Calls Tryz.prog 170 #[.string s] w fun e w' => e = .returned (.string ⟨(orN s.data.toList).toArray⟩) ∧ w' = w := by
  by_cases h : s.toList.isEmpty = true
  · go_enter Tryz.func170, Tryz.ntmps170
    go_wp2
    go_ret
    refine ⟨?_, rfl⟩
    unfold orN
    rw [← ByteArray.toList_eq, if_pos h]
    rfl
  · have h' : s.toList.isEmpty = false := by simpa using h
    go_enter Tryz.func170, Tryz.ntmps170
    go_wp2
    go_ret
    refine ⟨?_, rfl⟩
    unfold orN
    rw [← ByteArray.toList_eq, if_neg h, ByteArray.toList_eq]
    rfl

end Go.Proofs.YtoifjjgakblhhaaGreatDoor
