/- How two values of one rank stand; how any two values stand: Order. -/
import Derived.Test.YtoifjjgakblhhaaGreatDoorGt
import Derived.Test.YtoifjjgakblhhaaGreatDoorGt
import Derived.Test.YtoifjjgakblhhaaGreatDoorGt
import Derived.Test.YtoifjjgakblhhaaGreatDoorGt
import Derived.Test.YtoifjjgakblhhaaGreatDoorGt
import Derived.Test.YtoifjjgakblhhaaGreatDoorGt
namespace Go.Proofs.YtoifjjgakblhhaaGreatDoor
open Go.RowKit

/-- How two of one rank stand. -/
def withinI (lang : Int) : Val → Val → Int
  | .mk k b n t x l, .mk k2 b2 n2 t2 x2 l2 => if k = 5 then listI lang l l2 else innerI k n b t x k2 n2 b2 t2 x2
theorem withinI_mk (lang : Int) (k : Int) (b : Bool) (n : Int) (t x : ByteArray) (l : List Val) (k2 : Int) (b2 : Bool) (n2 : Int) (t2 x2 : ByteArray) (l2 : List Val) : withinI lang (.mk k b n t x l) (.mk k2 b2 n2 t2 x2 l2) = if k = 5 then listI lang l l2 else innerI k n b t x k2 n2 b2 t2 x2 := rfl
theorem innerT (k n : Int) (b : Bool) (t x : ByteArray) (k2 n2 : Int) (b2 : Bool) (t2 x2 : ByteArray) (h6 : ¬ k = 6) (h7 : ¬ k = 7) (h1 : ¬ k = 1) (h2 : ¬ k = 2) (h3 : ¬ k = 3) : innerI k n b t x k2 n2 b2 t2 x2 = lexI (bytesI t.toList t2.toList) (bytesI x.toList x2.toList) := by
  unfold innerI
  rw [if_neg (by omega), if_neg h1, if_neg (by omega)]

set_option maxRecDepth 20000 in
set_option maxHeartbeats 12800000 in
theorem withinAt (lang k : Int) (b : Bool) (n : Int) (t x : ByteArray) (q : List Val) (p : Option Addr) (cap : Nat) (k2 : Int) (b2 : Bool) (n2 : Int) (t2 x2 : ByteArray) (q2 : List Val) (p2 : Option Addr) (cap2 : Nat) (w : World) (hr : rankI lang k = rankI lang k2)
    (hG : Gd w) (hT : Tab w) (hf : Fine n t x q.length) (hf2 : Fine n2 t2 x2 q2.length) (hl : Held w (.slice p q.length cap) q) (hl2 : Held w (.slice p2 q2.length cap2) q2) (each : ∀ u ∈ q, OrdAt u) :
    Calls Tryz.prog 55 #[.int .i64 lang, .agg #[.int .i64 k, .bool b, .int .i64 n, .string t, .string x, .slice p q.length cap], .agg #[.int .i64 k2, .bool b2, .int .i64 n2, .string t2, .string x2, .slice p2 q2.length cap2]] w fun e w' => e = .returned (.int .i64 (withinI lang (.mk k b n t x q) (.mk k2 b2 n2 t2 x2 q2))) ∧ Below w.heap.size w w' := by
  obtain ⟨W0, hW0⟩ : ∃ W0, W0 = ((w.alloc (.cells #[.int .i64 lang] 3)).alloc (.cells #[.int .i64 k, .bool b, .int .i64 n, .string t, .string x, .slice p q.length cap] 28)).alloc (.cells #[.int .i64 k2, .bool b2, .int .i64 n2, .string t2, .string x2, .slice p2 q2.length cap2] 28) := ⟨_, rfl⟩
  have S4 : Six W0 (w.heap.size + 1) k b n t x p q.length cap := by rw [hW0]; exact (six_new _ (by simp)).alloc _
  have S5 : Six W0 (w.heap.size + 2) k2 b2 n2 t2 x2 p2 q2.length cap2 := by rw [hW0]; exact six_new _ (by simp)
  have b0 : Below w.heap.size w W0 := by rw [hW0]; exact below3 _ _ _ _
  have c0 : W0.cell? ⟨w.heap.size, 0, none⟩ = some (.int .i64 lang) := by
    rw [hW0]
    have e : (w.alloc (.cells #[.int .i64 lang] 3)).cell? ⟨w.heap.size, 0, none⟩ = some (.int .i64 lang) := cell_of (heap_new _ _ rfl) _ rfl
    exact ((below2 _ _ _).cell (p := ⟨w.heap.size, 0, none⟩) (by simp)).trans e
  have hcf := fun W (h : Below w.heap.size w W) (hc : W.cell? ⟨w.heap.size, 0, none⟩ = some (.int .i64 lang)) => cmpFuncAt lang w.heap.size q q2 p p2 cap cap2 W (hG.below h) (hT.below h) hc (Held.below q hl h) (Held.below q2 hl2 h) hf.hn hf2.hn each
  have hnum := fun (hk : k = 2 ∨ k = 3) (hk2 : k2 = 2 ∨ k2 = 3) W (h : Below w.heap.size w W) => ordNumsAt k b n t x p q.length cap k2 b2 n2 t2 x2 p2 q2.length cap2 W (hG.below h) (hT.below h) hf hf2 hk hk2
  have H0 := Lib.hid hW0
  clear hf hf2 hG hT hl hl2 each hW0
  rw [withinI_mk]
  have hcat := (rank_cat hr).2.2.2
  clear hr
  by_cases h5 : k = 5
  · subst h5
    rw [if_pos rfl]
    clear hnum hcat
    generalize listI lang q q2 = r at hcf ⊢
    go_enter Tryz.func55, Tryz.ntmps55
    go_wp2_with (first
      | (rw [← H0.out]; (with_reducible refine wpList_load6 (.tmp 4) (w.heap.size + 1) S4 ?_ ?_ ?_ ?_); rfl; rfl; rfl)
      | ((with_reducible refine wpList_load6 (.tmp 4) (w.heap.size + 1) S4 ?_ ?_ ?_ ?_); rfl; rfl; rfl)
      | ((with_reducible refine wpList_load6 (.tmp 5) (w.heap.size + 2) S5 ?_ ?_ ?_ ?_); rfl; rfl; rfl)
      | (go_at_call 72; (with_reducible refine (kindOfAt 5 b n t x _ 91 rfl _).mono ?_); rintro e w' ⟨rfl, hb⟩; replace S4 := S4.below hb; replace S5 := S5.below hb; replace c0 := (hb.cell (p := ⟨w.heap.size, 0, none⟩) (World.block_lt_of_cell? _ _ c0)).trans c0; replace b0 := below_any b0 hb b0.size; have f1 := S4.c1; have f2 := S4.c2; have f5 := S4.c5; have g1 := S5.c1; have g2 := S5.c2; have g5 := S5.c5; clear hb)
      | (simp only [ta91_91, ta91_83, ta91_84, ta91_81, ta91_82, ta91_85, Result.andThen_ok])
      | (go_at_call 93; (with_reducible refine (hcf _ b0 c0).mono ?_); rintro e w' ⟨rfl, hb⟩; replace b0 := below_any b0 hb b0.size; clear hb))
    go_ret
    exact ⟨rfl, b0⟩
  rw [if_neg h5]
  clear hcf
  by_cases h6 : k = 6
  · subst h6
    clear hnum hcat
    rw [show innerI 6 n b t x k2 n2 b2 t2 x2 = cmpZ n n2 from rfl]
    go_enter Tryz.func55, Tryz.ntmps55
    go_wp2_with (first
      | (rw [← H0.out]; (with_reducible refine wpList_load6 (.tmp 4) (w.heap.size + 1) S4 ?_ ?_ ?_ ?_); rfl; rfl; rfl)
      | ((with_reducible refine wpList_load6 (.tmp 4) (w.heap.size + 1) S4 ?_ ?_ ?_ ?_); rfl; rfl; rfl)
      | ((with_reducible refine wpList_load6 (.tmp 5) (w.heap.size + 2) S5 ?_ ?_ ?_ ?_); rfl; rfl; rfl)
      | (go_at_call 72; (with_reducible refine (kindOfAt 6 b n t x _ 83 rfl _).mono ?_); rintro e w' ⟨rfl, hb⟩; replace S4 := S4.below hb; replace S5 := S5.below hb; replace c0 := (hb.cell (p := ⟨w.heap.size, 0, none⟩) (World.block_lt_of_cell? _ _ c0)).trans c0; replace b0 := below_any b0 hb b0.size; have f1 := S4.c1; have f2 := S4.c2; have f5 := S4.c5; have g1 := S5.c1; have g2 := S5.c2; have g5 := S5.c5; clear hb)
      | (simp only [ta83_91, ta83_83, ta83_84, ta83_81, ta83_82, ta83_85, Result.andThen_ok])
      | (go_at_call 90; (with_reducible refine (cmpIntAt n n2 _).mono ?_); rintro e w' ⟨rfl, hb⟩; replace b0 := below_any b0 hb b0.size; clear hb))
    go_ret
    exact ⟨rfl, b0⟩
  by_cases h7 : k = 7
  · subst h7
    clear hnum hcat
    rw [show innerI 7 n b t x k2 n2 b2 t2 x2 = cmpZ n n2 from rfl]
    go_enter Tryz.func55, Tryz.ntmps55
    go_wp2_with (first
      | (rw [← H0.out]; (with_reducible refine wpList_load6 (.tmp 4) (w.heap.size + 1) S4 ?_ ?_ ?_ ?_); rfl; rfl; rfl)
      | ((with_reducible refine wpList_load6 (.tmp 4) (w.heap.size + 1) S4 ?_ ?_ ?_ ?_); rfl; rfl; rfl)
      | ((with_reducible refine wpList_load6 (.tmp 5) (w.heap.size + 2) S5 ?_ ?_ ?_ ?_); rfl; rfl; rfl)
      | (go_at_call 72; (with_reducible refine (kindOfAt 7 b n t x _ 84 rfl _).mono ?_); rintro e w' ⟨rfl, hb⟩; replace S4 := S4.below hb; replace S5 := S5.below hb; replace c0 := (hb.cell (p := ⟨w.heap.size, 0, none⟩) (World.block_lt_of_cell? _ _ c0)).trans c0; replace b0 := below_any b0 hb b0.size; have f1 := S4.c1; have f2 := S4.c2; have f5 := S4.c5; have g1 := S5.c1; have g2 := S5.c2; have g5 := S5.c5; clear hb)
      | (simp only [ta84_91, ta84_83, ta84_84, ta84_81, ta84_82, ta84_85, Result.andThen_ok])
      | (go_at_call 90; (with_reducible refine (cmpIntAt n n2 _).mono ?_); rintro e w' ⟨rfl, hb⟩; replace b0 := below_any b0 hb b0.size; clear hb))
    go_ret
    exact ⟨rfl, b0⟩
  by_cases h1 : k = 1
  · subst h1
    clear hnum hcat
    rw [show innerI 1 n b t x k2 n2 b2 t2 x2 = boolI b b2 from rfl]
    go_enter Tryz.func55, Tryz.ntmps55
    go_wp2_with (first
      | (rw [← H0.out]; (with_reducible refine wpList_load6 (.tmp 4) (w.heap.size + 1) S4 ?_ ?_ ?_ ?_); rfl; rfl; rfl)
      | ((with_reducible refine wpList_load6 (.tmp 4) (w.heap.size + 1) S4 ?_ ?_ ?_ ?_); rfl; rfl; rfl)
      | ((with_reducible refine wpList_load6 (.tmp 5) (w.heap.size + 2) S5 ?_ ?_ ?_ ?_); rfl; rfl; rfl)
      | (go_at_call 72; (with_reducible refine (kindOfAt 1 b n t x _ 81 rfl _).mono ?_); rintro e w' ⟨rfl, hb⟩; replace S4 := S4.below hb; replace S5 := S5.below hb; replace c0 := (hb.cell (p := ⟨w.heap.size, 0, none⟩) (World.block_lt_of_cell? _ _ c0)).trans c0; replace b0 := below_any b0 hb b0.size; have f1 := S4.c1; have f2 := S4.c2; have f5 := S4.c5; have g1 := S5.c1; have g2 := S5.c2; have g5 := S5.c5; clear hb)
      | (simp only [ta81_91, ta81_83, ta81_84, ta81_81, ta81_82, ta81_85, Result.andThen_ok])
      | (go_at_call 95; (with_reducible refine (orderBoolsAt b b2 _).mono ?_); rintro e w' ⟨rfl, rfl⟩))
    go_ret
    exact ⟨rfl, b0⟩
  by_cases h2 : k = 2
  · subst h2
    replace hnum := hnum (.inl rfl) (hcat.1 (.inl rfl))
    clear hcat
    rw [show innerI 2 n b t x k2 n2 b2 t2 x2 = lexI (cmpZ (numV 2 n t) (numV k2 n2 t2)) (lexI (cmpZ 2 k2) (if (2 : Int) = 3 then bytesI t.toList t2.toList else 0)) from rfl]
    generalize lexI (cmpZ (numV 2 n t) (numV k2 n2 t2)) (lexI (cmpZ 2 k2) (if (2 : Int) = 3 then bytesI t.toList t2.toList else 0)) = r at hnum ⊢
    go_enter Tryz.func55, Tryz.ntmps55
    go_wp2_with (first
      | (rw [← H0.out]; (with_reducible refine wpList_load6 (.tmp 4) (w.heap.size + 1) S4 ?_ ?_ ?_ ?_); rfl; rfl; rfl)
      | ((with_reducible refine wpList_load6 (.tmp 4) (w.heap.size + 1) S4 ?_ ?_ ?_ ?_); rfl; rfl; rfl)
      | ((with_reducible refine wpList_load6 (.tmp 5) (w.heap.size + 2) S5 ?_ ?_ ?_ ?_); rfl; rfl; rfl)
      | (go_at_call 72; (with_reducible refine (kindOfAt 2 b n t x _ 82 rfl _).mono ?_); rintro e w' ⟨rfl, hb⟩; replace S4 := S4.below hb; replace S5 := S5.below hb; replace c0 := (hb.cell (p := ⟨w.heap.size, 0, none⟩) (World.block_lt_of_cell? _ _ c0)).trans c0; replace b0 := below_any b0 hb b0.size; have f1 := S4.c1; have f2 := S4.c2; have f5 := S4.c5; have g1 := S5.c1; have g2 := S5.c2; have g5 := S5.c5; clear hb)
      | (simp only [ta82_91, ta82_83, ta82_84, ta82_81, ta82_82, ta82_85, Result.andThen_ok])
      | (go_at_call 96; (with_reducible refine (hnum _ b0).mono ?_); rintro e w' ⟨rfl, hb⟩; replace b0 := below_any b0 hb b0.size; clear hb))
    go_ret
    exact ⟨rfl, b0⟩
  by_cases h3 : k = 3
  · subst h3
    replace hnum := hnum (.inr rfl) (hcat.1 (.inr rfl))
    clear hcat
    rw [show innerI 3 n b t x k2 n2 b2 t2 x2 = lexI (cmpZ (numV 3 n t) (numV k2 n2 t2)) (lexI (cmpZ 3 k2) (if (3 : Int) = 3 then bytesI t.toList t2.toList else 0)) from rfl]
    generalize lexI (cmpZ (numV 3 n t) (numV k2 n2 t2)) (lexI (cmpZ 3 k2) (if (3 : Int) = 3 then bytesI t.toList t2.toList else 0)) = r at hnum ⊢
    go_enter Tryz.func55, Tryz.ntmps55
    go_wp2_with (first
      | (rw [← H0.out]; (with_reducible refine wpList_load6 (.tmp 4) (w.heap.size + 1) S4 ?_ ?_ ?_ ?_); rfl; rfl; rfl)
      | ((with_reducible refine wpList_load6 (.tmp 4) (w.heap.size + 1) S4 ?_ ?_ ?_ ?_); rfl; rfl; rfl)
      | ((with_reducible refine wpList_load6 (.tmp 5) (w.heap.size + 2) S5 ?_ ?_ ?_ ?_); rfl; rfl; rfl)
      | (go_at_call 72; (with_reducible refine (kindOfAt 3 b n t x _ 85 rfl _).mono ?_); rintro e w' ⟨rfl, hb⟩; replace S4 := S4.below hb; replace S5 := S5.below hb; replace c0 := (hb.cell (p := ⟨w.heap.size, 0, none⟩) (World.block_lt_of_cell? _ _ c0)).trans c0; replace b0 := below_any b0 hb b0.size; have f1 := S4.c1; have f2 := S4.c2; have f5 := S4.c5; have g1 := S5.c1; have g2 := S5.c2; have g5 := S5.c5; clear hb)
      | (simp only [ta85_91, ta85_83, ta85_84, ta85_81, ta85_82, ta85_85, Result.andThen_ok])
      | (go_at_call 96; (with_reducible refine (hnum _ b0).mono ?_); rintro e w' ⟨rfl, hb⟩; replace b0 := below_any b0 hb b0.size; clear hb))
    go_ret
    exact ⟨rfl, b0⟩
  rw [innerT k n b t x k2 n2 b2 t2 x2 h6 h7 h1 h2 h3]
  clear hnum hcat
  by_cases h0 : k = 0
  · exact withinText0 lang k b n t x q p cap k2 b2 n2 t2 x2 q2 p2 cap2 w h0
  by_cases h4 : k = 4
  · exact withinText4 lang k b n t x q p cap k2 b2 n2 t2 x2 q2 p2 cap2 w h4
  by_cases h8 : k = 8
  · exact withinText8 lang k b n t x q p cap k2 b2 n2 t2 x2 q2 p2 cap2 w h8
  by_cases h9 : k = 9
  · exact withinText9 lang k b n t x q p cap k2 b2 n2 t2 x2 q2 p2 cap2 w h9
  by_cases h10 : k = 10
  · exact withinText10 lang k b n t x q p cap k2 b2 n2 t2 x2 q2 p2 cap2 w h10
  exact withinText11 lang k b n t x q p cap k2 b2 n2 t2 x2 q2 p2 cap2 w (by unfold kindT; simp [h0, h1, h2, h3, h4, h5, h6, h7, h8, h9, h10])
end Go.Proofs.YtoifjjgakblhhaaGreatDoor
