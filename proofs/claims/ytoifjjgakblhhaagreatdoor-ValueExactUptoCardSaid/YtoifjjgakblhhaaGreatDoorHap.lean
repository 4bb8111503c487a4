/- Texts of one kind, one behind the other: each says ahead of itself what it shows. -/
import Derived.Test.YtoifjjgakblhhaaGreatDoorHao
import Derived.Test.YtoifjjgakblhhaaGreatDoorHaf
import Derived.Test.YtoifjjgakblhhaaGreatDoorHai
/- How a value is shown: iris, blanks, nodes, edges. -/
namespace Go.Proofs.YtoifjjgakblhhaaGreatDoor
open Go.RowKit

set_option maxRecDepth 20000 in
set_option maxHeartbeats 6400000 in
theorem showIri (w0 w : World) (A : Value) (l : List UInt8) (b : Bool) (n : Int) (t x : ByteArray) (p : Option Addr) (q : List Val) (cap : Nat) (hf : Fine n t x q.length) (h : OwnB w0 A l w) (hl : l.length ≤ 800000000) :
    Calls Tryz.prog 40 #[A, .agg #[.int .i64 8, .bool b, .int .i64 n, .string t, .string x, .slice p q.length cap]] w (ShowPost w0 l (.mk 8 b n t x q)) := by
  obtain ⟨W0, hW0⟩ : ∃ W0, W0 = w.alloc (.cells #[.int .i64 8, .bool b, .int .i64 n, .string t, .string x, .slice p q.length cap] 28) := ⟨_, rfl⟩
  have S : Six W0 w.heap.size 8 b n t x p q.length cap := by rw [hW0]; exact six_new _ rfl
  have O : OwnB w0 A l W0 := by rw [hW0]; exact h.alloc _
  have hlo : w0.heap.size ≤ w.heap.size := h.lo
  have H0 := Lib.hid hW0
  have HF := Lib.hid hf
  have htz := hf.ht
  have hxz := hf.hx
  clear hW0 h hf
  go_enter Tryz.func40, Tryz.ntmps40
  go_upto_region 11 with (first
    | (rw [← H0.out]; (with_reducible refine wpList_load6 (.tmp 3) w.heap.size S ?_ ?_ ?_ ?_); rfl; rfl; rfl)
    | (go_at_call 72; (with_reducible refine (kindOfAt 8 _ _ _ _ _ 88 rfl _).mono ?_); rintro e w2 ⟨rfl, hb2⟩; have O2 := O.after hb2; have S2 := S.below hb2; have f0 := S2.c0; have f1 := S2.c1; have f2 := S2.c2; have f3 := S2.c3; have f4 := S2.c4; have f5 := S2.c5; clear hb2 O S)
    | (simp only [ta88_80, ta88_81, ta88_82, ta88_83, ta88_84, ta88_85, ta88_87, ta88_88, ta88_89, ta88_90, ta88_91, Result.andThen_ok]))
  have HO2 := Lib.hid O2
  clear f0 f1 f2 f3 f4 f5
  refine wp_region_held_drew (S := fun W => Six W w.heap.size 8 b n t x p q.length cap) (by kernel_rfl) S2 (fun hHeld => ?_)
  have O3 : OwnB w0 A l w2.drew := HO2.out.drew
  clear HO2 O2 S2
  generalize w2.drew = Wd at hHeld O3 ⊢
  refine wpAnyH_take (i := 0) (v := A) rfl (by kernel_rfl) (by kernel_rfl) (by kernel_rfl) (fun _ _ _ h => h) (Or.inl ⟨by rfl, fun W _ => by go_simp⟩) hHeld ?_
  try simp only [Act.put, List.getElem_toArray, List.getElem_cons_succ, List.getElem_cons_zero, List.setIfInBounds_toArray, List.set_cons_zero, List.set_cons_succ]
  refine wpAnyH_take (i := 3) (v := (.pointer (some ⟨w.heap.size, 3, none⟩))) rfl (by kernel_rfl) (by kernel_rfl) (by kernel_rfl) (fun _ _ _ h => h) (Or.inl ⟨by rfl, fun W _ => by go_simp⟩) hHeld ?_
  try simp only [Act.put, List.getElem_toArray, List.getElem_cons_succ, List.getElem_cons_zero, List.setIfInBounds_toArray, List.set_cons_zero, List.set_cons_succ]
  refine wpAnyH_take (i := 4) (v := (.string t)) rfl (by kernel_rfl) (by kernel_rfl) (by kernel_rfl) (fun _ _ _ h => h) (Or.inl ⟨by rfl, fun W h => by have c0 := h.c3; go_simp⟩) hHeld ?_
  try simp only [Act.put, List.getElem_toArray, List.getElem_cons_succ, List.getElem_cons_zero, List.setIfInBounds_toArray, List.set_cons_zero, List.set_cons_succ]
  refine wpAnyH_ready (rs := [1, 6]) (by kernel_rfl) (by simp) ?_
  refine AllReadyH.cons rfl (fun K hK => ?_) (AllReadyH.cons rfl (fun K hK => ?_) AllReadyH.nil)
  · rw [if_pos (by rfl)]
    refine wpB_build (c := 60) rfl ?_
    intro W1 hW1
    have F1 := Fresh.new (c := 60) O3 hW1
    have O1 : OwnB w0 A (l) W1 := by rw [hW1]; exact O3.alloc _
    have T1 := hHeld.alloc (.cells #[.int .u8 (((60 : UInt8).toNat : Int))] 5)
    rw [← hW1] at T1
    clear hW1
    refine hK.out _ _ T1 (fun hS1 => ?_)
    clear hK K
    try simp only [Act.put, List.getElem_toArray, List.getElem_cons_succ, List.getElem_cons_zero, List.setIfInBounds_toArray, List.set_cons_zero, List.set_cons_succ]
    refine wpAnyH_ready (rs := [2, 6]) (by kernel_rfl) (by simp) ?_
    refine AllReadyH.cons rfl (fun K hK => ?_) (AllReadyH.cons rfl (fun K hK => ?_) AllReadyH.nil)
    · rw [if_pos (by rfl)]
      refine wpB_one (c := 60) (.tmp 44) (.tmp 45) rfl rfl rfl O1 F1.cell (by (try simp only [List.length_append, List.length_cons, List.length_nil, txtB_length]); omega) ?_
      intro A2 W2 O2 hg2 hat2
      refine hK.out _ _ (hS1.bx (O1.bx hg2)) (fun hS2 => ?_)
      clear hK K
      try simp only [Act.put, List.getElem_toArray, List.getElem_cons_succ, List.getElem_cons_zero, List.setIfInBounds_toArray, List.set_cons_zero, List.set_cons_succ]
      refine wpAnyH_ready (rs := [5, 6]) (by kernel_rfl) (by simp) ?_
      refine AllReadyH.cons rfl (fun K hK => ?_) (AllReadyH.cons rfl (fun K hK => ?_) AllReadyH.nil)
      · rw [if_pos (by rfl)]
        refine wpB_str (.tmp 46) (.tmp 48) rfl rfl rfl O2 (by (try simp only [List.length_append, List.length_cons, List.length_nil, txtB_length]); omega) (by omega) ?_
        intro A3 W3 O3 hg3
        refine hK.out _ _ (hS2.bx (O2.bx hg3)) (fun hS3 => ?_)
        clear hK K
        try simp only [Act.put, List.getElem_toArray, List.getElem_cons_succ, List.getElem_cons_zero, List.setIfInBounds_toArray, List.set_cons_zero, List.set_cons_succ]
        refine wpAnyH_ready (rs := [6]) (by kernel_rfl) (by simp) ?_
        refine AllReadyH.cons rfl (fun K hK => ?_) AllReadyH.nil
        rw [if_pos (by rfl)]
        refine wpB_build (c := 62) rfl ?_
        intro W4 hW4
        have F4 := Fresh.new (c := 62) O3 hW4
        have O4 : OwnB w0 A3 (l ++ [60] ++ txtB t) W4 := by rw [hW4]; exact O3.alloc _
        have T4 := hS3.alloc (.cells #[.int .u8 (((62 : UInt8).toNat : Int))] 5)
        rw [← hW4] at T4
        clear hW4
        refine hK.out _ _ T4 (fun hS4 => ?_)
        clear hK K
        try simp only [Act.put, List.getElem_toArray, List.getElem_cons_succ, List.getElem_cons_zero, List.setIfInBounds_toArray, List.set_cons_zero, List.set_cons_succ]
        refine wpAnyH_ready (rs := [7]) (by kernel_rfl) (by simp) ?_
        refine AllReadyH.cons rfl (fun K hK => ?_) AllReadyH.nil
        rw [if_pos (by rfl)]
        refine wpB_one (c := 62) (.tmp 49) (.tmp 50) rfl rfl rfl O4 F4.cell (by (try simp only [List.length_append, List.length_cons, List.length_nil, txtB_length]); omega) ?_
        intro A5 W5 O5 hg5 hat5
        refine hK.out _ _ (hS4.bx (O4.bx hg5)) (fun hS5 => ?_)
        clear hK K
        try simp only [Act.put, List.getElem_toArray, List.getElem_cons_succ, List.getElem_cons_zero, List.setIfInBounds_toArray, List.set_cons_zero, List.set_cons_succ]
        refine wpAnyH_take (i := 8) (v := A5) rfl (by kernel_rfl) (by kernel_rfl) (by kernel_rfl) (fun _ _ _ h => h) (Or.inl ⟨by rfl, fun W _ => by go_simp⟩) hS5 ?_
        try simp only [Act.put, List.getElem_toArray, List.getElem_cons_succ, List.getElem_cons_zero, List.setIfInBounds_toArray, List.set_cons_zero, List.set_cons_succ]
        refine wpAnyH_done (by kernel_rfl) ?_ _
        have HO := Lib.hid O5
        clear O5
        go_wp2_with fail
        go_ret
        exact ⟨_, rfl, by unfold showP; simpa using HO.out⟩
      · rw [if_pos (by rfl)]
        refine wpB_build (c := 62) rfl ?_
        intro W6 hW6
        have F6 := Fresh.new (c := 62) O2 hW6
        have O6 : OwnB w0 A2 (l ++ [60]) W6 := by rw [hW6]; exact O2.alloc _
        have T6 := hS2.alloc (.cells #[.int .u8 (((62 : UInt8).toNat : Int))] 5)
        rw [← hW6] at T6
        clear hW6
        refine hK.out _ _ T6 (fun hS6 => ?_)
        clear hK K
        try simp only [Act.put, List.getElem_toArray, List.getElem_cons_succ, List.getElem_cons_zero, List.setIfInBounds_toArray, List.set_cons_zero, List.set_cons_succ]
        refine wpAnyH_ready (rs := [5]) (by kernel_rfl) (by simp) ?_
        refine AllReadyH.cons rfl (fun K hK => ?_) AllReadyH.nil
        rw [if_pos (by rfl)]
        refine wpB_str (.tmp 46) (.tmp 48) rfl rfl rfl O6 (by (try simp only [List.length_append, List.length_cons, List.length_nil, txtB_length]); omega) (by omega) ?_
        intro A7 W7 O7 hg7
        have c7 := F6.far hg7
        refine hK.out _ _ (hS6.bx (O6.bx hg7)) (fun hS7 => ?_)
        clear hK K
        try simp only [Act.put, List.getElem_toArray, List.getElem_cons_succ, List.getElem_cons_zero, List.setIfInBounds_toArray, List.set_cons_zero, List.set_cons_succ]
        refine wpAnyH_ready (rs := [7]) (by kernel_rfl) (by simp) ?_
        refine AllReadyH.cons rfl (fun K hK => ?_) AllReadyH.nil
        rw [if_pos (by rfl)]
        refine wpB_one (c := 62) (.tmp 49) (.tmp 50) rfl rfl rfl O7 c7 (by (try simp only [List.length_append, List.length_cons, List.length_nil, txtB_length]); omega) ?_
        intro A8 W8 O8 hg8 hat8
        refine hK.out _ _ (hS7.bx (O7.bx hg8)) (fun hS8 => ?_)
        clear hK K
        try simp only [Act.put, List.getElem_toArray, List.getElem_cons_succ, List.getElem_cons_zero, List.setIfInBounds_toArray, List.set_cons_zero, List.set_cons_succ]
        refine wpAnyH_take (i := 8) (v := A8) rfl (by kernel_rfl) (by kernel_rfl) (by kernel_rfl) (fun _ _ _ h => h) (Or.inl ⟨by rfl, fun W _ => by go_simp⟩) hS8 ?_
        try simp only [Act.put, List.getElem_toArray, List.getElem_cons_succ, List.getElem_cons_zero, List.setIfInBounds_toArray, List.set_cons_zero, List.set_cons_succ]
        refine wpAnyH_done (by kernel_rfl) ?_ _
        have HO := Lib.hid O8
        clear O8
        go_wp2_with fail
        go_ret
        exact ⟨_, rfl, by unfold showP; simpa using HO.out⟩
    · rw [if_pos (by rfl)]
      refine wpB_build (c := 62) rfl ?_
      intro W9 hW9
      have F9 := Fresh.new (c := 62) O1 hW9
      have O9 : OwnB w0 A (l) W9 := by rw [hW9]; exact O1.alloc _
      have G9 := F1.alloc hW9
      have T9 := hS1.alloc (.cells #[.int .u8 (((62 : UInt8).toNat : Int))] 5)
      rw [← hW9] at T9
      clear hW9
      refine hK.out _ _ T9 (fun hS9 => ?_)
      clear hK K
      try simp only [Act.put, List.getElem_toArray, List.getElem_cons_succ, List.getElem_cons_zero, List.setIfInBounds_toArray, List.set_cons_zero, List.set_cons_succ]
      refine wpAnyH_ready (rs := [2]) (by kernel_rfl) (by simp) ?_
      refine AllReadyH.cons rfl (fun K hK => ?_) AllReadyH.nil
      rw [if_pos (by rfl)]
      refine wpB_one (c := 60) (.tmp 44) (.tmp 45) rfl rfl rfl O9 G9.cell (by (try simp only [List.length_append, List.length_cons, List.length_nil, txtB_length]); omega) ?_
      intro A10 W10 O10 hg10 hat10
      have G10 := F9.grown hg10 hat10
      refine hK.out _ _ (hS9.bx (O9.bx hg10)) (fun hS10 => ?_)
      clear hK K
      try simp only [Act.put, List.getElem_toArray, List.getElem_cons_succ, List.getElem_cons_zero, List.setIfInBounds_toArray, List.set_cons_zero, List.set_cons_succ]
      refine wpAnyH_ready (rs := [5]) (by kernel_rfl) (by simp) ?_
      refine AllReadyH.cons rfl (fun K hK => ?_) AllReadyH.nil
      rw [if_pos (by rfl)]
      refine wpB_str (.tmp 46) (.tmp 48) rfl rfl rfl O10 (by (try simp only [List.length_append, List.length_cons, List.length_nil, txtB_length]); omega) (by omega) ?_
      intro A11 W11 O11 hg11
      have c11 := G10.far hg11
      refine hK.out _ _ (hS10.bx (O10.bx hg11)) (fun hS11 => ?_)
      clear hK K
      try simp only [Act.put, List.getElem_toArray, List.getElem_cons_succ, List.getElem_cons_zero, List.setIfInBounds_toArray, List.set_cons_zero, List.set_cons_succ]
      refine wpAnyH_ready (rs := [7]) (by kernel_rfl) (by simp) ?_
      refine AllReadyH.cons rfl (fun K hK => ?_) AllReadyH.nil
      rw [if_pos (by rfl)]
      refine wpB_one (c := 62) (.tmp 49) (.tmp 50) rfl rfl rfl O11 c11 (by (try simp only [List.length_append, List.length_cons, List.length_nil, txtB_length]); omega) ?_
      intro A12 W12 O12 hg12 hat12
      refine hK.out _ _ (hS11.bx (O11.bx hg12)) (fun hS12 => ?_)
      clear hK K
      try simp only [Act.put, List.getElem_toArray, List.getElem_cons_succ, List.getElem_cons_zero, List.setIfInBounds_toArray, List.set_cons_zero, List.set_cons_succ]
      refine wpAnyH_take (i := 8) (v := A12) rfl (by kernel_rfl) (by kernel_rfl) (by kernel_rfl) (fun _ _ _ h => h) (Or.inl ⟨by rfl, fun W _ => by go_simp⟩) hS12 ?_
      try simp only [Act.put, List.getElem_toArray, List.getElem_cons_succ, List.getElem_cons_zero, List.setIfInBounds_toArray, List.set_cons_zero, List.set_cons_succ]
      refine wpAnyH_done (by kernel_rfl) ?_ _
      have HO := Lib.hid O12
      clear O12
      go_wp2_with fail
      go_ret
      exact ⟨_, rfl, by unfold showP; simpa using HO.out⟩
  · rw [if_pos (by rfl)]
    refine wpB_build (c := 62) rfl ?_
    intro W13 hW13
    have F13 := Fresh.new (c := 62) O3 hW13
    have O13 : OwnB w0 A (l) W13 := by rw [hW13]; exact O3.alloc _
    have T13 := hHeld.alloc (.cells #[.int .u8 (((62 : UInt8).toNat : Int))] 5)
    rw [← hW13] at T13
    clear hW13
    refine hK.out _ _ T13 (fun hS13 => ?_)
    clear hK K
    try simp only [Act.put, List.getElem_toArray, List.getElem_cons_succ, List.getElem_cons_zero, List.setIfInBounds_toArray, List.set_cons_zero, List.set_cons_succ]
    refine wpAnyH_ready (rs := [1]) (by kernel_rfl) (by simp) ?_
    refine AllReadyH.cons rfl (fun K hK => ?_) AllReadyH.nil
    rw [if_pos (by rfl)]
    refine wpB_build (c := 60) rfl ?_
    intro W14 hW14
    have F14 := Fresh.new (c := 60) O13 hW14
    have O14 : OwnB w0 A (l) W14 := by rw [hW14]; exact O13.alloc _
    have G14 := F13.alloc hW14
    have T14 := hS13.alloc (.cells #[.int .u8 (((60 : UInt8).toNat : Int))] 5)
    rw [← hW14] at T14
    clear hW14
    refine hK.out _ _ T14 (fun hS14 => ?_)
    clear hK K
    try simp only [Act.put, List.getElem_toArray, List.getElem_cons_succ, List.getElem_cons_zero, List.setIfInBounds_toArray, List.set_cons_zero, List.set_cons_succ]
    refine wpAnyH_ready (rs := [2]) (by kernel_rfl) (by simp) ?_
    refine AllReadyH.cons rfl (fun K hK => ?_) AllReadyH.nil
    rw [if_pos (by rfl)]
    refine wpB_one (c := 60) (.tmp 44) (.tmp 45) rfl rfl rfl O14 F14.cell (by (try simp only [List.length_append, List.length_cons, List.length_nil, txtB_length]); omega) ?_
    intro A15 W15 O15 hg15 hat15
    have G15 := G14.grown hg15 hat15
    refine hK.out _ _ (hS14.bx (O14.bx hg15)) (fun hS15 => ?_)
    clear hK K
    try simp only [Act.put, List.getElem_toArray, List.getElem_cons_succ, List.getElem_cons_zero, List.setIfInBounds_toArray, List.set_cons_zero, List.set_cons_succ]
    refine wpAnyH_ready (rs := [5]) (by kernel_rfl) (by simp) ?_
    refine AllReadyH.cons rfl (fun K hK => ?_) AllReadyH.nil
    rw [if_pos (by rfl)]
    refine wpB_str (.tmp 46) (.tmp 48) rfl rfl rfl O15 (by (try simp only [List.length_append, List.length_cons, List.length_nil, txtB_length]); omega) (by omega) ?_
    intro A16 W16 O16 hg16
    have c16 := G15.far hg16
    refine hK.out _ _ (hS15.bx (O15.bx hg16)) (fun hS16 => ?_)
    clear hK K
    try simp only [Act.put, List.getElem_toArray, List.getElem_cons_succ, List.getElem_cons_zero, List.setIfInBounds_toArray, List.set_cons_zero, List.set_cons_succ]
    refine wpAnyH_ready (rs := [7]) (by kernel_rfl) (by simp) ?_
    refine AllReadyH.cons rfl (fun K hK => ?_) AllReadyH.nil
    rw [if_pos (by rfl)]
    refine wpB_one (c := 62) (.tmp 49) (.tmp 50) rfl rfl rfl O16 c16 (by (try simp only [List.length_append, List.length_cons, List.length_nil, txtB_length]); omega) ?_
    intro A17 W17 O17 hg17 hat17
    refine hK.out _ _ (hS16.bx (O16.bx hg17)) (fun hS17 => ?_)
    clear hK K
    try simp only [Act.put, List.getElem_toArray, List.getElem_cons_succ, List.getElem_cons_zero, List.setIfInBounds_toArray, List.set_cons_zero, List.set_cons_succ]
    refine wpAnyH_take (i := 8) (v := A17) rfl (by kernel_rfl) (by kernel_rfl) (by kernel_rfl) (fun _ _ _ h => h) (Or.inl ⟨by rfl, fun W _ => by go_simp⟩) hS17 ?_
    try simp only [Act.put, List.getElem_toArray, List.getElem_cons_succ, List.getElem_cons_zero, List.setIfInBounds_toArray, List.set_cons_zero, List.set_cons_succ]
    refine wpAnyH_done (by kernel_rfl) ?_ _
    have HO := Lib.hid O17
    clear O17
    go_wp2_with fail
    go_ret
    exact ⟨_, rfl, by unfold showP; simpa using HO.out⟩


set_option maxRecDepth 20000 in
set_option maxHeartbeats 6400000 in
theorem showNode (w0 w : World) (A : Value) (l : List UInt8) (b : Bool) (n : Int) (t x : ByteArray) (p : Option Addr) (q : List Val) (cap : Nat) (hf : Fine n t x q.length) (h : OwnB w0 A l w) (hl : l.length ≤ 800000000) (hT0 : Tab w0) (hn0 : 0 ≤ n) :
    Calls Tryz.prog 40 #[A, .agg #[.int .i64 6, .bool b, .int .i64 n, .string t, .string x, .slice p q.length cap]] w (ShowPost w0 l (.mk 6 b n t x q)) := by
  obtain ⟨W0, hW0⟩ : ∃ W0, W0 = w.alloc (.cells #[.int .i64 6, .bool b, .int .i64 n, .string t, .string x, .slice p q.length cap] 28) := ⟨_, rfl⟩
  have S : Six W0 w.heap.size 6 b n t x p q.length cap := by rw [hW0]; exact six_new _ rfl
  have O : OwnB w0 A l W0 := by rw [hW0]; exact h.alloc _
  have hlo : w0.heap.size ≤ w.heap.size := h.lo
  have H0 := Lib.hid hW0
  have HF := Lib.hid hf
  have htz := hf.ht
  have hxz := hf.hx
  have hT := Lib.hid hT0
  have hi64 := hf.hi
  clear hT0
  clear hW0 h hf
  go_enter Tryz.func40, Tryz.ntmps40
  go_upto_region 15 with (first
    | (rw [← H0.out]; (with_reducible refine wpList_load6 (.tmp 3) w.heap.size S ?_ ?_ ?_ ?_); rfl; rfl; rfl)
    | (go_at_call 72; (with_reducible refine (kindOfAt 6 _ _ _ _ _ 83 rfl _).mono ?_); rintro e w2 ⟨rfl, hb2⟩; have O2 := O.after hb2; have S2 := S.below hb2; have f0 := S2.c0; have f1 := S2.c1; have f2 := S2.c2; have f3 := S2.c3; have f4 := S2.c4; have f5 := S2.c5; clear hb2 O S)
    | (simp only [ta83_80, ta83_81, ta83_82, ta83_83, ta83_84, ta83_85, ta83_87, ta83_88, ta83_89, ta83_90, ta83_91, Result.andThen_ok]))
  have HO2 := Lib.hid O2
  clear f0 f1 f2 f3 f4 f5
  refine wp_region_held_drew (S := fun W => Six W w.heap.size 6 b n t x p q.length cap) (by kernel_rfl) S2 (fun hHeld => ?_)
  have O3 : OwnB w0 A l w2.drew := HO2.out.drew
  clear HO2 O2 S2
  generalize w2.drew = Wd at hHeld O3 ⊢
  refine wpAnyH_take (i := 0) (v := A) rfl (by kernel_rfl) (by kernel_rfl) (by kernel_rfl) (fun _ _ _ h => h) (Or.inl ⟨by rfl, fun W _ => by go_simp⟩) hHeld ?_
  try simp only [Act.put, List.getElem_toArray, List.getElem_cons_succ, List.getElem_cons_zero, List.setIfInBounds_toArray, List.set_cons_zero, List.set_cons_succ]
  refine wpAnyH_take (i := 3) (v := (.pointer (some ⟨w.heap.size, 2, none⟩))) rfl (by kernel_rfl) (by kernel_rfl) (by kernel_rfl) (fun _ _ _ h => h) (Or.inl ⟨by rfl, fun W _ => by go_simp⟩) hHeld ?_
  try simp only [Act.put, List.getElem_toArray, List.getElem_cons_succ, List.getElem_cons_zero, List.setIfInBounds_toArray, List.set_cons_zero, List.set_cons_succ]
  refine wpAnyH_take (i := 4) (v := (.int .i64 n)) rfl (by kernel_rfl) (by kernel_rfl) (by kernel_rfl) (fun _ _ _ h => h) (Or.inl ⟨by rfl, fun W h => by have c0 := h.c2; go_simp⟩) hHeld ?_
  try simp only [Act.put, List.getElem_toArray, List.getElem_cons_succ, List.getElem_cons_zero, List.setIfInBounds_toArray, List.set_cons_zero, List.set_cons_succ]
  refine wpAnyH_ready (rs := [1, 6]) (by kernel_rfl) (by simp) ?_
  refine AllReadyH.cons rfl (fun K hK => ?_) (AllReadyH.cons rfl (fun K hK => ?_) AllReadyH.nil)
  · rw [if_pos (by rfl)]
    refine wpB_build (c := 40) rfl ?_
    intro W1 hW1
    have F1 := Fresh.new (c := 40) O3 hW1
    have O1 : OwnB w0 A (l) W1 := by rw [hW1]; exact O3.alloc _
    have T1 := hHeld.alloc (.cells #[.int .u8 (((40 : UInt8).toNat : Int))] 5)
    rw [← hW1] at T1
    clear hW1
    refine hK.out _ _ T1 (fun hS1 => ?_)
    clear hK K
    try simp only [Act.put, List.getElem_toArray, List.getElem_cons_succ, List.getElem_cons_zero, List.setIfInBounds_toArray, List.set_cons_zero, List.set_cons_succ]
    refine wpAnyH_ready (rs := [2, 6]) (by kernel_rfl) (by simp) ?_
    refine AllReadyH.cons rfl (fun K hK => ?_) (AllReadyH.cons rfl (fun K hK => ?_) AllReadyH.nil)
    · rw [if_pos (by rfl)]
      refine wpB_one (c := 40) (.tmp 63) (.tmp 64) rfl rfl rfl O1 F1.cell (by (try simp only [List.length_append, List.length_cons, List.length_nil, txtB_length]); omega) ?_
      intro A2 W2 O2 hg2 hat2
      refine hK.out _ _ (hS1.bx (O1.bx hg2)) (fun hS2 => ?_)
      clear hK K
      try simp only [Act.put, List.getElem_toArray, List.getElem_cons_succ, List.getElem_cons_zero, List.setIfInBounds_toArray, List.set_cons_zero, List.set_cons_succ]
      refine wpAnyH_ready (rs := [5, 6]) (by kernel_rfl) (by simp) ?_
      refine AllReadyH.cons rfl (fun K hK => ?_) (AllReadyH.cons rfl (fun K hK => ?_) AllReadyH.nil)
      · rw [if_pos (by rfl)]
        go_simp
        refine (appendNatAt w0 _ _ _ n hn0 hi64 O2 (hT.out.below O2.bel) (by (try simp only [List.length_append, List.length_cons, List.length_nil, txtB_length]); omega)).mono ?_
        rintro e W3 ⟨A3, rfl, O3, hg3⟩
        refine hK.out _ _ (hS2.bx (O2.bx hg3)) (fun hS3 => ?_)
        clear hK K
        try simp only [Act.put, List.getElem_toArray, List.getElem_cons_succ, List.getElem_cons_zero, List.setIfInBounds_toArray, List.set_cons_zero, List.set_cons_succ]
        refine wpAnyH_ready (rs := [6]) (by kernel_rfl) (by simp) ?_
        refine AllReadyH.cons rfl (fun K hK => ?_) AllReadyH.nil
        rw [if_pos (by rfl)]
        refine wpB_build (c := 41) rfl ?_
        intro W4 hW4
        have F4 := Fresh.new (c := 41) O3 hW4
        have O4 : OwnB w0 A3 (l ++ [40] ++ Lib.itoa n) W4 := by rw [hW4]; exact O3.alloc _
        have T4 := hS3.alloc (.cells #[.int .u8 (((41 : UInt8).toNat : Int))] 5)
        rw [← hW4] at T4
        clear hW4
        refine hK.out _ _ T4 (fun hS4 => ?_)
        clear hK K
        try simp only [Act.put, List.getElem_toArray, List.getElem_cons_succ, List.getElem_cons_zero, List.setIfInBounds_toArray, List.set_cons_zero, List.set_cons_succ]
        refine wpAnyH_ready (rs := [7]) (by kernel_rfl) (by simp) ?_
        refine AllReadyH.cons rfl (fun K hK => ?_) AllReadyH.nil
        rw [if_pos (by rfl)]
        refine wpB_one (c := 41) (.tmp 68) (.tmp 69) rfl rfl rfl O4 F4.cell (by have := Lib.itoa_length_le n (by omega) hi64; simp only [List.length_append, List.length_cons, List.length_nil]; omega) ?_
        intro A5 W5 O5 hg5 hat5
        refine hK.out _ _ (hS4.bx (O4.bx hg5)) (fun hS5 => ?_)
        clear hK K
        try simp only [Act.put, List.getElem_toArray, List.getElem_cons_succ, List.getElem_cons_zero, List.setIfInBounds_toArray, List.set_cons_zero, List.set_cons_succ]
        refine wpAnyH_take (i := 8) (v := A5) rfl (by kernel_rfl) (by kernel_rfl) (by kernel_rfl) (fun _ _ _ h => h) (Or.inl ⟨by rfl, fun W _ => by go_simp⟩) hS5 ?_
        try simp only [Act.put, List.getElem_toArray, List.getElem_cons_succ, List.getElem_cons_zero, List.setIfInBounds_toArray, List.set_cons_zero, List.set_cons_succ]
        refine wpAnyH_done (by kernel_rfl) ?_ _
        have HO := Lib.hid O5
        clear O5
        go_wp2_with fail
        go_ret
        exact ⟨_, rfl, by unfold showP; simpa using HO.out⟩
      · rw [if_pos (by rfl)]
        refine wpB_build (c := 41) rfl ?_
        intro W6 hW6
        have F6 := Fresh.new (c := 41) O2 hW6
        have O6 : OwnB w0 A2 (l ++ [40]) W6 := by rw [hW6]; exact O2.alloc _
        have T6 := hS2.alloc (.cells #[.int .u8 (((41 : UInt8).toNat : Int))] 5)
        rw [← hW6] at T6
        clear hW6
        refine hK.out _ _ T6 (fun hS6 => ?_)
        clear hK K
        try simp only [Act.put, List.getElem_toArray, List.getElem_cons_succ, List.getElem_cons_zero, List.setIfInBounds_toArray, List.set_cons_zero, List.set_cons_succ]
        refine wpAnyH_ready (rs := [5]) (by kernel_rfl) (by simp) ?_
        refine AllReadyH.cons rfl (fun K hK => ?_) AllReadyH.nil
        rw [if_pos (by rfl)]
        go_simp
        refine (appendNatAt w0 _ _ _ n hn0 hi64 O6 (hT.out.below O6.bel) (by (try simp only [List.length_append, List.length_cons, List.length_nil, txtB_length]); omega)).mono ?_
        rintro e W7 ⟨A7, rfl, O7, hg7⟩
        have c7 := F6.far hg7
        refine hK.out _ _ (hS6.bx (O6.bx hg7)) (fun hS7 => ?_)
        clear hK K
        try simp only [Act.put, List.getElem_toArray, List.getElem_cons_succ, List.getElem_cons_zero, List.setIfInBounds_toArray, List.set_cons_zero, List.set_cons_succ]
        refine wpAnyH_ready (rs := [7]) (by kernel_rfl) (by simp) ?_
        refine AllReadyH.cons rfl (fun K hK => ?_) AllReadyH.nil
        rw [if_pos (by rfl)]
        refine wpB_one (c := 41) (.tmp 68) (.tmp 69) rfl rfl rfl O7 c7 (by have := Lib.itoa_length_le n (by omega) hi64; simp only [List.length_append, List.length_cons, List.length_nil]; omega) ?_
        intro A8 W8 O8 hg8 hat8
        refine hK.out _ _ (hS7.bx (O7.bx hg8)) (fun hS8 => ?_)
        clear hK K
        try simp only [Act.put, List.getElem_toArray, List.getElem_cons_succ, List.getElem_cons_zero, List.setIfInBounds_toArray, List.set_cons_zero, List.set_cons_succ]
        refine wpAnyH_take (i := 8) (v := A8) rfl (by kernel_rfl) (by kernel_rfl) (by kernel_rfl) (fun _ _ _ h => h) (Or.inl ⟨by rfl, fun W _ => by go_simp⟩) hS8 ?_
        try simp only [Act.put, List.getElem_toArray, List.getElem_cons_succ, List.getElem_cons_zero, List.setIfInBounds_toArray, List.set_cons_zero, List.set_cons_succ]
        refine wpAnyH_done (by kernel_rfl) ?_ _
        have HO := Lib.hid O8
        clear O8
        go_wp2_with fail
        go_ret
        exact ⟨_, rfl, by unfold showP; simpa using HO.out⟩
    · rw [if_pos (by rfl)]
      refine wpB_build (c := 41) rfl ?_
      intro W9 hW9
      have F9 := Fresh.new (c := 41) O1 hW9
      have O9 : OwnB w0 A (l) W9 := by rw [hW9]; exact O1.alloc _
      have G9 := F1.alloc hW9
      have T9 := hS1.alloc (.cells #[.int .u8 (((41 : UInt8).toNat : Int))] 5)
      rw [← hW9] at T9
      clear hW9
      refine hK.out _ _ T9 (fun hS9 => ?_)
      clear hK K
      try simp only [Act.put, List.getElem_toArray, List.getElem_cons_succ, List.getElem_cons_zero, List.setIfInBounds_toArray, List.set_cons_zero, List.set_cons_succ]
      refine wpAnyH_ready (rs := [2]) (by kernel_rfl) (by simp) ?_
      refine AllReadyH.cons rfl (fun K hK => ?_) AllReadyH.nil
      rw [if_pos (by rfl)]
      refine wpB_one (c := 40) (.tmp 63) (.tmp 64) rfl rfl rfl O9 G9.cell (by (try simp only [List.length_append, List.length_cons, List.length_nil, txtB_length]); omega) ?_
      intro A10 W10 O10 hg10 hat10
      have G10 := F9.grown hg10 hat10
      refine hK.out _ _ (hS9.bx (O9.bx hg10)) (fun hS10 => ?_)
      clear hK K
      try simp only [Act.put, List.getElem_toArray, List.getElem_cons_succ, List.getElem_cons_zero, List.setIfInBounds_toArray, List.set_cons_zero, List.set_cons_succ]
      refine wpAnyH_ready (rs := [5]) (by kernel_rfl) (by simp) ?_
      refine AllReadyH.cons rfl (fun K hK => ?_) AllReadyH.nil
      rw [if_pos (by rfl)]
      go_simp
      refine (appendNatAt w0 _ _ _ n hn0 hi64 O10 (hT.out.below O10.bel) (by (try simp only [List.length_append, List.length_cons, List.length_nil, txtB_length]); omega)).mono ?_
      rintro e W11 ⟨A11, rfl, O11, hg11⟩
      have c11 := G10.far hg11
      refine hK.out _ _ (hS10.bx (O10.bx hg11)) (fun hS11 => ?_)
      clear hK K
      try simp only [Act.put, List.getElem_toArray, List.getElem_cons_succ, List.getElem_cons_zero, List.setIfInBounds_toArray, List.set_cons_zero, List.set_cons_succ]
      refine wpAnyH_ready (rs := [7]) (by kernel_rfl) (by simp) ?_
      refine AllReadyH.cons rfl (fun K hK => ?_) AllReadyH.nil
      rw [if_pos (by rfl)]
      refine wpB_one (c := 41) (.tmp 68) (.tmp 69) rfl rfl rfl O11 c11 (by have := Lib.itoa_length_le n (by omega) hi64; simp only [List.length_append, List.length_cons, List.length_nil]; omega) ?_
      intro A12 W12 O12 hg12 hat12
      refine hK.out _ _ (hS11.bx (O11.bx hg12)) (fun hS12 => ?_)
      clear hK K
      try simp only [Act.put, List.getElem_toArray, List.getElem_cons_succ, List.getElem_cons_zero, List.setIfInBounds_toArray, List.set_cons_zero, List.set_cons_succ]
      refine wpAnyH_take (i := 8) (v := A12) rfl (by kernel_rfl) (by kernel_rfl) (by kernel_rfl) (fun _ _ _ h => h) (Or.inl ⟨by rfl, fun W _ => by go_simp⟩) hS12 ?_
      try simp only [Act.put, List.getElem_toArray, List.getElem_cons_succ, List.getElem_cons_zero, List.setIfInBounds_toArray, List.set_cons_zero, List.set_cons_succ]
      refine wpAnyH_done (by kernel_rfl) ?_ _
      have HO := Lib.hid O12
      clear O12
      go_wp2_with fail
      go_ret
      exact ⟨_, rfl, by unfold showP; simpa using HO.out⟩
  · rw [if_pos (by rfl)]
    refine wpB_build (c := 41) rfl ?_
    intro W13 hW13
    have F13 := Fresh.new (c := 41) O3 hW13
    have O13 : OwnB w0 A (l) W13 := by rw [hW13]; exact O3.alloc _
    have T13 := hHeld.alloc (.cells #[.int .u8 (((41 : UInt8).toNat : Int))] 5)
    rw [← hW13] at T13
    clear hW13
    refine hK.out _ _ T13 (fun hS13 => ?_)
    clear hK K
    try simp only [Act.put, List.getElem_toArray, List.getElem_cons_succ, List.getElem_cons_zero, List.setIfInBounds_toArray, List.set_cons_zero, List.set_cons_succ]
    refine wpAnyH_ready (rs := [1]) (by kernel_rfl) (by simp) ?_
    refine AllReadyH.cons rfl (fun K hK => ?_) AllReadyH.nil
    rw [if_pos (by rfl)]
    refine wpB_build (c := 40) rfl ?_
    intro W14 hW14
    have F14 := Fresh.new (c := 40) O13 hW14
    have O14 : OwnB w0 A (l) W14 := by rw [hW14]; exact O13.alloc _
    have G14 := F13.alloc hW14
    have T14 := hS13.alloc (.cells #[.int .u8 (((40 : UInt8).toNat : Int))] 5)
    rw [← hW14] at T14
    clear hW14
    refine hK.out _ _ T14 (fun hS14 => ?_)
    clear hK K
    try simp only [Act.put, List.getElem_toArray, List.getElem_cons_succ, List.getElem_cons_zero, List.setIfInBounds_toArray, List.set_cons_zero, List.set_cons_succ]
    refine wpAnyH_ready (rs := [2]) (by kernel_rfl) (by simp) ?_
    refine AllReadyH.cons rfl (fun K hK => ?_) AllReadyH.nil
    rw [if_pos (by rfl)]
    refine wpB_one (c := 40) (.tmp 63) (.tmp 64) rfl rfl rfl O14 F14.cell (by (try simp only [List.length_append, List.length_cons, List.length_nil, txtB_length]); omega) ?_
    intro A15 W15 O15 hg15 hat15
    have G15 := G14.grown hg15 hat15
    refine hK.out _ _ (hS14.bx (O14.bx hg15)) (fun hS15 => ?_)
    clear hK K
    try simp only [Act.put, List.getElem_toArray, List.getElem_cons_succ, List.getElem_cons_zero, List.setIfInBounds_toArray, List.set_cons_zero, List.set_cons_succ]
    refine wpAnyH_ready (rs := [5]) (by kernel_rfl) (by simp) ?_
    refine AllReadyH.cons rfl (fun K hK => ?_) AllReadyH.nil
    rw [if_pos (by rfl)]
    go_simp
    refine (appendNatAt w0 _ _ _ n hn0 hi64 O15 (hT.out.below O15.bel) (by (try simp only [List.length_append, List.length_cons, List.length_nil, txtB_length]); omega)).mono ?_
    rintro e W16 ⟨A16, rfl, O16, hg16⟩
    have c16 := G15.far hg16
    refine hK.out _ _ (hS15.bx (O15.bx hg16)) (fun hS16 => ?_)
    clear hK K
    try simp only [Act.put, List.getElem_toArray, List.getElem_cons_succ, List.getElem_cons_zero, List.setIfInBounds_toArray, List.set_cons_zero, List.set_cons_succ]
    refine wpAnyH_ready (rs := [7]) (by kernel_rfl) (by simp) ?_
    refine AllReadyH.cons rfl (fun K hK => ?_) AllReadyH.nil
    rw [if_pos (by rfl)]
    refine wpB_one (c := 41) (.tmp 68) (.tmp 69) rfl rfl rfl O16 c16 (by have := Lib.itoa_length_le n (by omega) hi64; simp only [List.length_append, List.length_cons, List.length_nil]; omega) ?_
    intro A17 W17 O17 hg17 hat17
    refine hK.out _ _ (hS16.bx (O16.bx hg17)) (fun hS17 => ?_)
    clear hK K
    try simp only [Act.put, List.getElem_toArray, List.getElem_cons_succ, List.getElem_cons_zero, List.setIfInBounds_toArray, List.set_cons_zero, List.set_cons_succ]
    refine wpAnyH_take (i := 8) (v := A17) rfl (by kernel_rfl) (by kernel_rfl) (by kernel_rfl) (fun _ _ _ h => h) (Or.inl ⟨by rfl, fun W _ => by go_simp⟩) hS17 ?_
    try simp only [Act.put, List.getElem_toArray, List.getElem_cons_succ, List.getElem_cons_zero, List.setIfInBounds_toArray, List.set_cons_zero, List.set_cons_succ]
    refine wpAnyH_done (by kernel_rfl) ?_ _
    have HO := Lib.hid O17
    clear O17
    go_wp2_with fail
    go_ret
    exact ⟨_, rfl, by unfold showP; simpa using HO.out⟩


set_option maxRecDepth 20000 in
set_option maxHeartbeats 6400000 in
theorem showEdge (w0 w : World) (A : Value) (l : List UInt8) (b : Bool) (n : Int) (t x : ByteArray) (p : Option Addr) (q : List Val) (cap : Nat) (hf : Fine n t x q.length) (h : OwnB w0 A l w) (hl : l.length ≤ 800000000) (hT0 : Tab w0) (hn0 : 0 ≤ n) :
    Calls Tryz.prog 40 #[A, .agg #[.int .i64 7, .bool b, .int .i64 n, .string t, .string x, .slice p q.length cap]] w (ShowPost w0 l (.mk 7 b n t x q)) := by
  obtain ⟨W0, hW0⟩ : ∃ W0, W0 = w.alloc (.cells #[.int .i64 7, .bool b, .int .i64 n, .string t, .string x, .slice p q.length cap] 28) := ⟨_, rfl⟩
  have S : Six W0 w.heap.size 7 b n t x p q.length cap := by rw [hW0]; exact six_new _ rfl
  have O : OwnB w0 A l W0 := by rw [hW0]; exact h.alloc _
  have hlo : w0.heap.size ≤ w.heap.size := h.lo
  have H0 := Lib.hid hW0
  have HF := Lib.hid hf
  have htz := hf.ht
  have hxz := hf.hx
  have hT := Lib.hid hT0
  have hi64 := hf.hi
  clear hT0
  clear hW0 h hf
  go_enter Tryz.func40, Tryz.ntmps40
  go_upto_region 17 with (first
    | (rw [← H0.out]; (with_reducible refine wpList_load6 (.tmp 3) w.heap.size S ?_ ?_ ?_ ?_); rfl; rfl; rfl)
    | (go_at_call 72; (with_reducible refine (kindOfAt 7 _ _ _ _ _ 84 rfl _).mono ?_); rintro e w2 ⟨rfl, hb2⟩; have O2 := O.after hb2; have S2 := S.below hb2; have f0 := S2.c0; have f1 := S2.c1; have f2 := S2.c2; have f3 := S2.c3; have f4 := S2.c4; have f5 := S2.c5; clear hb2 O S)
    | (simp only [ta84_80, ta84_81, ta84_82, ta84_83, ta84_84, ta84_85, ta84_87, ta84_88, ta84_89, ta84_90, ta84_91, Result.andThen_ok]))
  have HO2 := Lib.hid O2
  clear f0 f1 f2 f3 f4 f5
  refine wp_region_held_drew (S := fun W => Six W w.heap.size 7 b n t x p q.length cap) (by kernel_rfl) S2 (fun hHeld => ?_)
  have O3 : OwnB w0 A l w2.drew := HO2.out.drew
  clear HO2 O2 S2
  generalize w2.drew = Wd at hHeld O3 ⊢
  refine wpAnyH_take (i := 0) (v := A) rfl (by kernel_rfl) (by kernel_rfl) (by kernel_rfl) (fun _ _ _ h => h) (Or.inl ⟨by rfl, fun W _ => by go_simp⟩) hHeld ?_
  try simp only [Act.put, List.getElem_toArray, List.getElem_cons_succ, List.getElem_cons_zero, List.setIfInBounds_toArray, List.set_cons_zero, List.set_cons_succ]
  refine wpAnyH_take (i := 3) (v := (.pointer (some ⟨w.heap.size, 2, none⟩))) rfl (by kernel_rfl) (by kernel_rfl) (by kernel_rfl) (fun _ _ _ h => h) (Or.inl ⟨by rfl, fun W _ => by go_simp⟩) hHeld ?_
  try simp only [Act.put, List.getElem_toArray, List.getElem_cons_succ, List.getElem_cons_zero, List.setIfInBounds_toArray, List.set_cons_zero, List.set_cons_succ]
  refine wpAnyH_take (i := 4) (v := (.int .i64 n)) rfl (by kernel_rfl) (by kernel_rfl) (by kernel_rfl) (fun _ _ _ h => h) (Or.inl ⟨by rfl, fun W h => by have c0 := h.c2; go_simp⟩) hHeld ?_
  try simp only [Act.put, List.getElem_toArray, List.getElem_cons_succ, List.getElem_cons_zero, List.setIfInBounds_toArray, List.set_cons_zero, List.set_cons_succ]
  refine wpAnyH_ready (rs := [1, 6]) (by kernel_rfl) (by simp) ?_
  refine AllReadyH.cons rfl (fun K hK => ?_) (AllReadyH.cons rfl (fun K hK => ?_) AllReadyH.nil)
  · rw [if_pos (by rfl)]
    refine wpB_build (c := 91) rfl ?_
    intro W1 hW1
    have F1 := Fresh.new (c := 91) O3 hW1
    have O1 : OwnB w0 A (l) W1 := by rw [hW1]; exact O3.alloc _
    have T1 := hHeld.alloc (.cells #[.int .u8 (((91 : UInt8).toNat : Int))] 5)
    rw [← hW1] at T1
    clear hW1
    refine hK.out _ _ T1 (fun hS1 => ?_)
    clear hK K
    try simp only [Act.put, List.getElem_toArray, List.getElem_cons_succ, List.getElem_cons_zero, List.setIfInBounds_toArray, List.set_cons_zero, List.set_cons_succ]
    refine wpAnyH_ready (rs := [2, 6]) (by kernel_rfl) (by simp) ?_
    refine AllReadyH.cons rfl (fun K hK => ?_) (AllReadyH.cons rfl (fun K hK => ?_) AllReadyH.nil)
    · rw [if_pos (by rfl)]
      refine wpB_one (c := 91) (.tmp 74) (.tmp 75) rfl rfl rfl O1 F1.cell (by (try simp only [List.length_append, List.length_cons, List.length_nil, txtB_length]); omega) ?_
      intro A2 W2 O2 hg2 hat2
      refine hK.out _ _ (hS1.bx (O1.bx hg2)) (fun hS2 => ?_)
      clear hK K
      try simp only [Act.put, List.getElem_toArray, List.getElem_cons_succ, List.getElem_cons_zero, List.setIfInBounds_toArray, List.set_cons_zero, List.set_cons_succ]
      refine wpAnyH_ready (rs := [5, 6]) (by kernel_rfl) (by simp) ?_
      refine AllReadyH.cons rfl (fun K hK => ?_) (AllReadyH.cons rfl (fun K hK => ?_) AllReadyH.nil)
      · rw [if_pos (by rfl)]
        go_simp
        refine (appendNatAt w0 _ _ _ n hn0 hi64 O2 (hT.out.below O2.bel) (by (try simp only [List.length_append, List.length_cons, List.length_nil, txtB_length]); omega)).mono ?_
        rintro e W3 ⟨A3, rfl, O3, hg3⟩
        refine hK.out _ _ (hS2.bx (O2.bx hg3)) (fun hS3 => ?_)
        clear hK K
        try simp only [Act.put, List.getElem_toArray, List.getElem_cons_succ, List.getElem_cons_zero, List.setIfInBounds_toArray, List.set_cons_zero, List.set_cons_succ]
        refine wpAnyH_ready (rs := [6]) (by kernel_rfl) (by simp) ?_
        refine AllReadyH.cons rfl (fun K hK => ?_) AllReadyH.nil
        rw [if_pos (by rfl)]
        refine wpB_build (c := 93) rfl ?_
        intro W4 hW4
        have F4 := Fresh.new (c := 93) O3 hW4
        have O4 : OwnB w0 A3 (l ++ [91] ++ Lib.itoa n) W4 := by rw [hW4]; exact O3.alloc _
        have T4 := hS3.alloc (.cells #[.int .u8 (((93 : UInt8).toNat : Int))] 5)
        rw [← hW4] at T4
        clear hW4
        refine hK.out _ _ T4 (fun hS4 => ?_)
        clear hK K
        try simp only [Act.put, List.getElem_toArray, List.getElem_cons_succ, List.getElem_cons_zero, List.setIfInBounds_toArray, List.set_cons_zero, List.set_cons_succ]
        refine wpAnyH_ready (rs := [7]) (by kernel_rfl) (by simp) ?_
        refine AllReadyH.cons rfl (fun K hK => ?_) AllReadyH.nil
        rw [if_pos (by rfl)]
        refine wpB_one (c := 93) (.tmp 79) (.tmp 80) rfl rfl rfl O4 F4.cell (by have := Lib.itoa_length_le n (by omega) hi64; simp only [List.length_append, List.length_cons, List.length_nil]; omega) ?_
        intro A5 W5 O5 hg5 hat5
        refine hK.out _ _ (hS4.bx (O4.bx hg5)) (fun hS5 => ?_)
        clear hK K
        try simp only [Act.put, List.getElem_toArray, List.getElem_cons_succ, List.getElem_cons_zero, List.setIfInBounds_toArray, List.set_cons_zero, List.set_cons_succ]
        refine wpAnyH_take (i := 8) (v := A5) rfl (by kernel_rfl) (by kernel_rfl) (by kernel_rfl) (fun _ _ _ h => h) (Or.inl ⟨by rfl, fun W _ => by go_simp⟩) hS5 ?_
        try simp only [Act.put, List.getElem_toArray, List.getElem_cons_succ, List.getElem_cons_zero, List.setIfInBounds_toArray, List.set_cons_zero, List.set_cons_succ]
        refine wpAnyH_done (by kernel_rfl) ?_ _
        have HO := Lib.hid O5
        clear O5
        go_wp2_with fail
        go_ret
        exact ⟨_, rfl, by unfold showP; simpa using HO.out⟩
      · rw [if_pos (by rfl)]
        refine wpB_build (c := 93) rfl ?_
        intro W6 hW6
        have F6 := Fresh.new (c := 93) O2 hW6
        have O6 : OwnB w0 A2 (l ++ [91]) W6 := by rw [hW6]; exact O2.alloc _
        have T6 := hS2.alloc (.cells #[.int .u8 (((93 : UInt8).toNat : Int))] 5)
        rw [← hW6] at T6
        clear hW6
        refine hK.out _ _ T6 (fun hS6 => ?_)
        clear hK K
        try simp only [Act.put, List.getElem_toArray, List.getElem_cons_succ, List.getElem_cons_zero, List.setIfInBounds_toArray, List.set_cons_zero, List.set_cons_succ]
        refine wpAnyH_ready (rs := [5]) (by kernel_rfl) (by simp) ?_
        refine AllReadyH.cons rfl (fun K hK => ?_) AllReadyH.nil
        rw [if_pos (by rfl)]
        go_simp
        refine (appendNatAt w0 _ _ _ n hn0 hi64 O6 (hT.out.below O6.bel) (by (try simp only [List.length_append, List.length_cons, List.length_nil, txtB_length]); omega)).mono ?_
        rintro e W7 ⟨A7, rfl, O7, hg7⟩
        have c7 := F6.far hg7
        refine hK.out _ _ (hS6.bx (O6.bx hg7)) (fun hS7 => ?_)
        clear hK K
        try simp only [Act.put, List.getElem_toArray, List.getElem_cons_succ, List.getElem_cons_zero, List.setIfInBounds_toArray, List.set_cons_zero, List.set_cons_succ]
        refine wpAnyH_ready (rs := [7]) (by kernel_rfl) (by simp) ?_
        refine AllReadyH.cons rfl (fun K hK => ?_) AllReadyH.nil
        rw [if_pos (by rfl)]
        refine wpB_one (c := 93) (.tmp 79) (.tmp 80) rfl rfl rfl O7 c7 (by have := Lib.itoa_length_le n (by omega) hi64; simp only [List.length_append, List.length_cons, List.length_nil]; omega) ?_
        intro A8 W8 O8 hg8 hat8
        refine hK.out _ _ (hS7.bx (O7.bx hg8)) (fun hS8 => ?_)
        clear hK K
        try simp only [Act.put, List.getElem_toArray, List.getElem_cons_succ, List.getElem_cons_zero, List.setIfInBounds_toArray, List.set_cons_zero, List.set_cons_succ]
        refine wpAnyH_take (i := 8) (v := A8) rfl (by kernel_rfl) (by kernel_rfl) (by kernel_rfl) (fun _ _ _ h => h) (Or.inl ⟨by rfl, fun W _ => by go_simp⟩) hS8 ?_
        try simp only [Act.put, List.getElem_toArray, List.getElem_cons_succ, List.getElem_cons_zero, List.setIfInBounds_toArray, List.set_cons_zero, List.set_cons_succ]
        refine wpAnyH_done (by kernel_rfl) ?_ _
        have HO := Lib.hid O8
        clear O8
        go_wp2_with fail
        go_ret
        exact ⟨_, rfl, by unfold showP; simpa using HO.out⟩
    · rw [if_pos (by rfl)]
      refine wpB_build (c := 93) rfl ?_
      intro W9 hW9
      have F9 := Fresh.new (c := 93) O1 hW9
      have O9 : OwnB w0 A (l) W9 := by rw [hW9]; exact O1.alloc _
      have G9 := F1.alloc hW9
      have T9 := hS1.alloc (.cells #[.int .u8 (((93 : UInt8).toNat : Int))] 5)
      rw [← hW9] at T9
      clear hW9
      refine hK.out _ _ T9 (fun hS9 => ?_)
      clear hK K
      try simp only [Act.put, List.getElem_toArray, List.getElem_cons_succ, List.getElem_cons_zero, List.setIfInBounds_toArray, List.set_cons_zero, List.set_cons_succ]
      refine wpAnyH_ready (rs := [2]) (by kernel_rfl) (by simp) ?_
      refine AllReadyH.cons rfl (fun K hK => ?_) AllReadyH.nil
      rw [if_pos (by rfl)]
      refine wpB_one (c := 91) (.tmp 74) (.tmp 75) rfl rfl rfl O9 G9.cell (by (try simp only [List.length_append, List.length_cons, List.length_nil, txtB_length]); omega) ?_
      intro A10 W10 O10 hg10 hat10
      have G10 := F9.grown hg10 hat10
      refine hK.out _ _ (hS9.bx (O9.bx hg10)) (fun hS10 => ?_)
      clear hK K
      try simp only [Act.put, List.getElem_toArray, List.getElem_cons_succ, List.getElem_cons_zero, List.setIfInBounds_toArray, List.set_cons_zero, List.set_cons_succ]
      refine wpAnyH_ready (rs := [5]) (by kernel_rfl) (by simp) ?_
      refine AllReadyH.cons rfl (fun K hK => ?_) AllReadyH.nil
      rw [if_pos (by rfl)]
      go_simp
      refine (appendNatAt w0 _ _ _ n hn0 hi64 O10 (hT.out.below O10.bel) (by (try simp only [List.length_append, List.length_cons, List.length_nil, txtB_length]); omega)).mono ?_
      rintro e W11 ⟨A11, rfl, O11, hg11⟩
      have c11 := G10.far hg11
      refine hK.out _ _ (hS10.bx (O10.bx hg11)) (fun hS11 => ?_)
      clear hK K
      try simp only [Act.put, List.getElem_toArray, List.getElem_cons_succ, List.getElem_cons_zero, List.setIfInBounds_toArray, List.set_cons_zero, List.set_cons_succ]
      refine wpAnyH_ready (rs := [7]) (by kernel_rfl) (by simp) ?_
      refine AllReadyH.cons rfl (fun K hK => ?_) AllReadyH.nil
      rw [if_pos (by rfl)]
      refine wpB_one (c := 93) (.tmp 79) (.tmp 80) rfl rfl rfl O11 c11 (by have := Lib.itoa_length_le n (by omega) hi64; simp only [List.length_append, List.length_cons, List.length_nil]; omega) ?_
      intro A12 W12 O12 hg12 hat12
      refine hK.out _ _ (hS11.bx (O11.bx hg12)) (fun hS12 => ?_)
      clear hK K
      try simp only [Act.put, List.getElem_toArray, List.getElem_cons_succ, List.getElem_cons_zero, List.setIfInBounds_toArray, List.set_cons_zero, List.set_cons_succ]
      refine wpAnyH_take (i := 8) (v := A12) rfl (by kernel_rfl) (by kernel_rfl) (by kernel_rfl) (fun _ _ _ h => h) (Or.inl ⟨by rfl, fun W _ => by go_simp⟩) hS12 ?_
      try simp only [Act.put, List.getElem_toArray, List.getElem_cons_succ, List.getElem_cons_zero, List.setIfInBounds_toArray, List.set_cons_zero, List.set_cons_succ]
      refine wpAnyH_done (by kernel_rfl) ?_ _
      have HO := Lib.hid O12
      clear O12
      go_wp2_with fail
      go_ret
      exact ⟨_, rfl, by unfold showP; simpa using HO.out⟩
  · rw [if_pos (by rfl)]
    refine wpB_build (c := 93) rfl ?_
    intro W13 hW13
    have F13 := Fresh.new (c := 93) O3 hW13
    have O13 : OwnB w0 A (l) W13 := by rw [hW13]; exact O3.alloc _
    have T13 := hHeld.alloc (.cells #[.int .u8 (((93 : UInt8).toNat : Int))] 5)
    rw [← hW13] at T13
    clear hW13
    refine hK.out _ _ T13 (fun hS13 => ?_)
    clear hK K
    try simp only [Act.put, List.getElem_toArray, List.getElem_cons_succ, List.getElem_cons_zero, List.setIfInBounds_toArray, List.set_cons_zero, List.set_cons_succ]
    refine wpAnyH_ready (rs := [1]) (by kernel_rfl) (by simp) ?_
    refine AllReadyH.cons rfl (fun K hK => ?_) AllReadyH.nil
    rw [if_pos (by rfl)]
    refine wpB_build (c := 91) rfl ?_
    intro W14 hW14
    have F14 := Fresh.new (c := 91) O13 hW14
    have O14 : OwnB w0 A (l) W14 := by rw [hW14]; exact O13.alloc _
    have G14 := F13.alloc hW14
    have T14 := hS13.alloc (.cells #[.int .u8 (((91 : UInt8).toNat : Int))] 5)
    rw [← hW14] at T14
    clear hW14
    refine hK.out _ _ T14 (fun hS14 => ?_)
    clear hK K
    try simp only [Act.put, List.getElem_toArray, List.getElem_cons_succ, List.getElem_cons_zero, List.setIfInBounds_toArray, List.set_cons_zero, List.set_cons_succ]
    refine wpAnyH_ready (rs := [2]) (by kernel_rfl) (by simp) ?_
    refine AllReadyH.cons rfl (fun K hK => ?_) AllReadyH.nil
    rw [if_pos (by rfl)]
    refine wpB_one (c := 91) (.tmp 74) (.tmp 75) rfl rfl rfl O14 F14.cell (by (try simp only [List.length_append, List.length_cons, List.length_nil, txtB_length]); omega) ?_
    intro A15 W15 O15 hg15 hat15
    have G15 := G14.grown hg15 hat15
    refine hK.out _ _ (hS14.bx (O14.bx hg15)) (fun hS15 => ?_)
    clear hK K
    try simp only [Act.put, List.getElem_toArray, List.getElem_cons_succ, List.getElem_cons_zero, List.setIfInBounds_toArray, List.set_cons_zero, List.set_cons_succ]
    refine wpAnyH_ready (rs := [5]) (by kernel_rfl) (by simp) ?_
    refine AllReadyH.cons rfl (fun K hK => ?_) AllReadyH.nil
    rw [if_pos (by rfl)]
    go_simp
    refine (appendNatAt w0 _ _ _ n hn0 hi64 O15 (hT.out.below O15.bel) (by (try simp only [List.length_append, List.length_cons, List.length_nil, txtB_length]); omega)).mono ?_
    rintro e W16 ⟨A16, rfl, O16, hg16⟩
    have c16 := G15.far hg16
    refine hK.out _ _ (hS15.bx (O15.bx hg16)) (fun hS16 => ?_)
    clear hK K
    try simp only [Act.put, List.getElem_toArray, List.getElem_cons_succ, List.getElem_cons_zero, List.setIfInBounds_toArray, List.set_cons_zero, List.set_cons_succ]
    refine wpAnyH_ready (rs := [7]) (by kernel_rfl) (by simp) ?_
    refine AllReadyH.cons rfl (fun K hK => ?_) AllReadyH.nil
    rw [if_pos (by rfl)]
    refine wpB_one (c := 93) (.tmp 79) (.tmp 80) rfl rfl rfl O16 c16 (by have := Lib.itoa_length_le n (by omega) hi64; simp only [List.length_append, List.length_cons, List.length_nil]; omega) ?_
    intro A17 W17 O17 hg17 hat17
    refine hK.out _ _ (hS16.bx (O16.bx hg17)) (fun hS17 => ?_)
    clear hK K
    try simp only [Act.put, List.getElem_toArray, List.getElem_cons_succ, List.getElem_cons_zero, List.setIfInBounds_toArray, List.set_cons_zero, List.set_cons_succ]
    refine wpAnyH_take (i := 8) (v := A17) rfl (by kernel_rfl) (by kernel_rfl) (by kernel_rfl) (fun _ _ _ h => h) (Or.inl ⟨by rfl, fun W _ => by go_simp⟩) hS17 ?_
    try simp only [Act.put, List.getElem_toArray, List.getElem_cons_succ, List.getElem_cons_zero, List.setIfInBounds_toArray, List.set_cons_zero, List.set_cons_succ]
    refine wpAnyH_done (by kernel_rfl) ?_ _
    have HO := Lib.hid O17
    clear O17
    go_wp2_with fail
    go_ret
    exact ⟨_, rfl, by unfold showP; simpa using HO.out⟩


set_option maxRecDepth 20000 in
set_option maxHeartbeats 6400000 in
theorem showBlank (w0 w : World) (A : Value) (l : List UInt8) (b : Bool) (n : Int) (t x : ByteArray) (p : Option Addr) (q : List Val) (cap : Nat) (hf : Fine n t x q.length) (h : OwnB w0 A l w) (hl : l.length ≤ 800000000) :
    Calls Tryz.prog 40 #[A, .agg #[.int .i64 9, .bool b, .int .i64 n, .string t, .string x, .slice p q.length cap]] w (ShowPost w0 l (.mk 9 b n t x q)) := by
  obtain ⟨W0, hW0⟩ : ∃ W0, W0 = w.alloc (.cells #[.int .i64 9, .bool b, .int .i64 n, .string t, .string x, .slice p q.length cap] 28) := ⟨_, rfl⟩
  have S : Six W0 w.heap.size 9 b n t x p q.length cap := by rw [hW0]; exact six_new _ rfl
  have O : OwnB w0 A l W0 := by rw [hW0]; exact h.alloc _
  have hlo : w0.heap.size ≤ w.heap.size := h.lo
  have H0 := Lib.hid hW0
  have HF := Lib.hid hf
  have htz := hf.ht
  have hxz := hf.hx
  clear hW0 h hf
  go_enter Tryz.func40, Tryz.ntmps40
  go_upto_region 13 with (first
    | (rw [← H0.out]; (with_reducible refine wpList_load6 (.tmp 3) w.heap.size S ?_ ?_ ?_ ?_); rfl; rfl; rfl)
    | (go_at_call 72; (with_reducible refine (kindOfAt 9 _ _ _ _ _ 89 rfl _).mono ?_); rintro e w2 ⟨rfl, hb2⟩; have O2 := O.after hb2; have S2 := S.below hb2; have f0 := S2.c0; have f1 := S2.c1; have f2 := S2.c2; have f3 := S2.c3; have f4 := S2.c4; have f5 := S2.c5; clear hb2 O S)
    | (simp only [ta89_80, ta89_81, ta89_82, ta89_83, ta89_84, ta89_85, ta89_87, ta89_88, ta89_89, ta89_90, ta89_91, Result.andThen_ok]))
  have HO2 := Lib.hid O2
  clear f0 f1 f2 f3 f4 f5
  refine wp_region_held_drew (S := fun W => Six W w.heap.size 9 b n t x p q.length cap) (by kernel_rfl) S2 (fun hHeld => ?_)
  have O3 : OwnB w0 A l w2.drew := HO2.out.drew
  clear HO2 O2 S2
  generalize w2.drew = Wd at hHeld O3 ⊢
  refine wpAnyH_take (i := 0) (v := A) rfl (by kernel_rfl) (by kernel_rfl) (by kernel_rfl) (fun _ _ _ h => h) (Or.inl ⟨by rfl, fun W _ => by go_simp⟩) hHeld ?_
  try simp only [Act.put, List.getElem_toArray, List.getElem_cons_succ, List.getElem_cons_zero, List.setIfInBounds_toArray, List.set_cons_zero, List.set_cons_succ]
  refine wpAnyH_take (i := 2) (v := (.pointer (some ⟨w.heap.size, 3, none⟩))) rfl (by kernel_rfl) (by kernel_rfl) (by kernel_rfl) (fun _ _ _ h => h) (Or.inl ⟨by rfl, fun W _ => by go_simp⟩) hHeld ?_
  try simp only [Act.put, List.getElem_toArray, List.getElem_cons_succ, List.getElem_cons_zero, List.setIfInBounds_toArray, List.set_cons_zero, List.set_cons_succ]
  refine wpAnyH_take (i := 3) (v := (.string t)) rfl (by kernel_rfl) (by kernel_rfl) (by kernel_rfl) (fun _ _ _ h => h) (Or.inl ⟨by rfl, fun W h => by have c0 := h.c3; go_simp⟩) hHeld ?_
  try simp only [Act.put, List.getElem_toArray, List.getElem_cons_succ, List.getElem_cons_zero, List.setIfInBounds_toArray, List.set_cons_zero, List.set_cons_succ]
  refine wpAnyH_ready (rs := [1]) (by kernel_rfl) (by simp) ?_
  refine AllReadyH.cons rfl (fun K hK => ?_) AllReadyH.nil
  rw [if_pos (by rfl)]
  refine wpB_str (t := ⟨#[95, 58]⟩) (.tmp 55) _ rfl rfl rfl O3 (by (try simp only [List.length_append, List.length_cons, List.length_nil, txtB_length]); omega) (by decide) ?_
  intro A1 W1 O1 hg1
  refine hK.out _ _ (hHeld.bx (O3.bx hg1)) (fun hS1 => ?_)
  clear hK K
  try simp only [Act.put, List.getElem_toArray, List.getElem_cons_succ, List.getElem_cons_zero, List.setIfInBounds_toArray, List.set_cons_zero, List.set_cons_succ]
  refine wpAnyH_ready (rs := [4]) (by kernel_rfl) (by simp) ?_
  refine AllReadyH.cons rfl (fun K hK => ?_) AllReadyH.nil
  rw [if_pos (by rfl)]
  refine wpB_str (.tmp 56) (.tmp 58) rfl rfl rfl O1 (by have e2 : (txtB ⟨#[95, 58]⟩).length = 2 := rfl; simp only [List.length_append, e2]; omega) (by omega) ?_
  intro A2 W2 O2 hg2
  refine hK.out _ _ (hS1.bx (O1.bx hg2)) (fun hS2 => ?_)
  clear hK K
  try simp only [Act.put, List.getElem_toArray, List.getElem_cons_succ, List.getElem_cons_zero, List.setIfInBounds_toArray, List.set_cons_zero, List.set_cons_succ]
  refine wpAnyH_take (i := 5) (v := A2) rfl (by kernel_rfl) (by kernel_rfl) (by kernel_rfl) (fun _ _ _ h => h) (Or.inl ⟨by rfl, fun W _ => by go_simp⟩) hS2 ?_
  try simp only [Act.put, List.getElem_toArray, List.getElem_cons_succ, List.getElem_cons_zero, List.setIfInBounds_toArray, List.set_cons_zero, List.set_cons_succ]
  refine wpAnyH_done (by kernel_rfl) ?_ _
  have HO := Lib.hid O2
  clear O2
  go_wp2_with fail
  go_ret
  have e2 : txtB ⟨#[95, 58]⟩ = [95, 58] := rfl
  have HO2 := HO.out
  rw [e2] at HO2
  exact ⟨_, rfl, by unfold showP; simpa using HO2⟩

end Go.Proofs.YtoifjjgakblhhaaGreatDoor
