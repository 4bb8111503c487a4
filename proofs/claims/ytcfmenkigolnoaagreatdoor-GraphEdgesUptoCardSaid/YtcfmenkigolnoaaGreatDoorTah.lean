/- Texts of one kind, one behind the other: each says ahead of itself what it shows. -/
import Derived.Test.YtcfmenkigolnoaaGreatDoorTag
/- graph's allHold: whether all elements of a slice hold what is asked; every instance, given what is told of one. -/
namespace Go.Proofs.YtcfmenkigolnoaaGreatDoor
open Go.RowKit

set_option maxHeartbeats 3200000 in
set_option maxRecDepth 20000 in
theorem hold72 (q : NodeL → Bool) (l : List NodeL) (v : Value) (w : World) (h : SliceE nodeE w (Old w) v l) (hn : l.length ≤ 2097152)
    (each : ∀ x ∈ l, ∀ W c, Below w.heap.size w W → nodeE.rel W (Old W) c x → Calls Tryz.prog 73 #[.agg c.toArray] W fun e w' => e = .returned (.bool (q x)) ∧ Below W.heap.size W w') :
    Calls Tryz.prog 72 #[v, .func (.func 73) #[] #[]] w fun e w' => e = .returned (.bool (l.all q)) ∧ Below w.heap.size w w' := by
  obtain ⟨n, hln⟩ : ∃ n, n = l.length := ⟨_, rfl⟩
  obtain ⟨p, cap, rfl⟩ := h.slice
  rw [← hln] at hn
  obtain ⟨ans, hans⟩ : ∃ ans, ans = l.all q := ⟨_, rfl⟩
  have HN := Lib.hid hans
  rw [← hans]
  have HL := Lib.hid hln
  have HH := Lib.hid h
  have HE := Lib.hid each
  rw [← hln]
  clear h hln each hans
  go_enter Tryz.func72, Tryz.ntmps72
  go_wp2_with fail
  go_loopg [9] n (fun gg s9 wr => ∃ j : Nat, j + gg = n ∧ s9 = .int .i64 j ∧ Hid (Below w.heap.size w wr) ∧ Hid (∀ i (h : i < l.length), i < j → q l[i] = true))
  case atStart => exact ⟨0, by omega, rfl, Lib.hid (Below.refl _ _), Lib.hid (fun i _ h => absurd h (by omega))⟩
  case round =>
    obtain ⟨j, hjg, rfl, HB, HA⟩ := hrel
    by_cases hlt : (j : Int) < n
    · have hj1 : j < l.length := by have := HL.out; omega
      have hbel := HB.out
      obtain ⟨g, off, cap', c, e0, hg, hrl, hra⟩ := (HH.out.stays (old_below hbel)).at_ j hj1
      injection e0 with e1 e2 e3
      subst e1
      replace hra : wr.rangeAt g (off + j * 3) c := hra
      have hlen : c.length = 3 := nodeE.len hrl
      have hbs := hbel.size
      obtain ⟨r, hr⟩ : ∃ r, r = q l[j] := ⟨_, rfl⟩
      have hone := nodeE.one hrl
      have HR := Lib.hid (And.intro hrl hra)
      clear hrl hra e2 e3 hbel
      go_upto_region 4 with (first
        | ((with_reducible refine wpList_loadE (.tmp 11) g (off + j * 3) 38 c 3 _ HR.out.2 hlen Tryz.underlying38 rfl size_nodeE ?_ ?_ ?_ ?_); rfl; rfl; rfl)
        | ((with_reducible refine wpList_storeE (.tmp 6) (.tmp 12) wr.heap.size 38 38 _ c 3 (heap_new _ _ rfl) hlen ?_ ?_ ?_ ?_ size_nodeE rfl hone ?_); rfl; rfl; rfl; rfl; intro wX oX hX))
      have bX : Below wr.heap.size wr wX := below_only (below1 wr _) oX (Nat.le_refl _) (by simp)
      have bWX : Below w.heap.size w wX := HB.out.trans (bX.mono hbs)
      have hcall := HE.out l[j] (List.getElem_mem hj1) wX c bWX (nodeE.stays (old_below bX) HR.out.1)
      rw [← hr] at hcall
      have HC := Lib.hid hcall
      have HR2 := Lib.hid hr
      have HX := Lib.hid (And.intro bWX hX)
      clear oX bX bWX hcall hr
      cases r with
      | true =>
        go_wp2_with (first
          | ((with_reducible refine wpList_loadRowE (.tmp 6) wr.heap.size 38 38 c 3 _ hX hlen Tryz.underlying38 rfl size_nodeE ?_ ?_ ?_ ?_); rfl; rfl; rfl)
          | (go_at_call 73; (with_reducible refine HC.out.mono ?_); rintro e w3 ⟨rfl, hb3⟩))
        have HB2 : Hid (Below w.heap.size w w3) := Lib.hid (HX.out.1.trans (hb3.mono HX.out.1.size))
        clear hb3
        go_wp2_with fail
        go_roundg (gk - 1)
        case measure => omega
        case rel =>
          refine ⟨j + 1, by omega, by go_num, HB2, Lib.hid fun i h hi => ?_⟩
          by_cases e : i = j
          · subst e; exact HR2.out.symm
          · exact HA.out i h (by omega)
      | false =>
        go_wp2_with (first
          | ((with_reducible refine wpList_loadRowE (.tmp 6) wr.heap.size 38 38 c 3 _ hX hlen Tryz.underlying38 rfl size_nodeE ?_ ?_ ?_ ?_); rfl; rfl; rfl)
          | (go_at_call 73; (with_reducible refine HC.out.mono ?_); rintro e w3 ⟨rfl, hb3⟩))
        have HB2 : Hid (Below w.heap.size w w3) := Lib.hid (HX.out.1.trans (hb3.mono HX.out.1.size))
        clear hb3
        go_wp2_with fail
        go_ret
        refine ⟨?_, HB2.out⟩
        have e : l.all q = false := List.all_eq_false.2 ⟨l[j], List.getElem_mem hj1, by rw [← HR2.out]; decide⟩
        rw [HN.out.trans e]
        try rfl
    · have e : l.all q = true := List.all_eq_true.2 fun x hx => by
        obtain ⟨i, hi, rfl⟩ := List.getElem_of_mem hx
        exact HA.out i hi (by have := HL.out; omega)
      have HQ := Lib.hid e
      clear e
      go_wp2_with fail
      go_ret
      refine ⟨?_, HB.out⟩
      rw [HN.out.trans HQ.out]
      try rfl
set_option maxHeartbeats 3200000 in
set_option maxRecDepth 20000 in
theorem hold74 (q : EdgeL → Bool) (l : List EdgeL) (v B : Value) (w : World) (h : SliceE edgeE w (Old w) v l) (hn : l.length ≤ 2097152)
    (each : ∀ x ∈ l, ∀ W c, Below w.heap.size w W → edgeE.rel W (Old W) c x → Calls Tryz.prog 75 #[.agg c.toArray, B] W fun e w' => e = .returned (.bool (q x)) ∧ Below W.heap.size W w') :
    Calls Tryz.prog 74 #[v, .func (.func 75) #[] #[B]] w fun e w' => e = .returned (.bool (l.all q)) ∧ Below w.heap.size w w' := by
  obtain ⟨n, hln⟩ : ∃ n, n = l.length := ⟨_, rfl⟩
  obtain ⟨p, cap, rfl⟩ := h.slice
  rw [← hln] at hn
  obtain ⟨ans, hans⟩ : ∃ ans, ans = l.all q := ⟨_, rfl⟩
  have HN := Lib.hid hans
  rw [← hans]
  have HL := Lib.hid hln
  have HH := Lib.hid h
  have HE := Lib.hid each
  rw [← hln]
  clear h hln each hans
  go_enter Tryz.func74, Tryz.ntmps74
  go_wp2_with fail
  go_loopg [9] n (fun gg s9 wr => ∃ j : Nat, j + gg = n ∧ s9 = .int .i64 j ∧ Hid (Below w.heap.size w wr) ∧ Hid (∀ i (h : i < l.length), i < j → q l[i] = true))
  case atStart => exact ⟨0, by omega, rfl, Lib.hid (Below.refl _ _), Lib.hid (fun i _ h => absurd h (by omega))⟩
  case round =>
    obtain ⟨j, hjg, rfl, HB, HA⟩ := hrel
    by_cases hlt : (j : Int) < n
    · have hj1 : j < l.length := by have := HL.out; omega
      have hbel := HB.out
      obtain ⟨g, off, cap', c, e0, hg, hrl, hra⟩ := (HH.out.stays (old_below hbel)).at_ j hj1
      injection e0 with e1 e2 e3
      subst e1
      replace hra : wr.rangeAt g (off + j * 5) c := hra
      have hlen : c.length = 5 := edgeE.len hrl
      have hbs := hbel.size
      obtain ⟨r, hr⟩ : ∃ r, r = q l[j] := ⟨_, rfl⟩
      have hone := edgeE.one hrl
      have HR := Lib.hid (And.intro hrl hra)
      clear hrl hra e2 e3 hbel
      go_upto_region 4 with (first
        | ((with_reducible refine wpList_loadE (.tmp 11) g (off + j * 5) 41 c 5 _ HR.out.2 hlen Tryz.underlying41 rfl size_edgeE ?_ ?_ ?_ ?_); rfl; rfl; rfl)
        | ((with_reducible refine wpList_storeE (.tmp 6) (.tmp 12) wr.heap.size 41 41 _ c 5 (heap_new _ _ rfl) hlen ?_ ?_ ?_ ?_ size_edgeE rfl hone ?_); rfl; rfl; rfl; rfl; intro wX oX hX))
      have bX : Below wr.heap.size wr wX := below_only (below1 wr _) oX (Nat.le_refl _) (by simp)
      have bWX : Below w.heap.size w wX := HB.out.trans (bX.mono hbs)
      have hcall := HE.out l[j] (List.getElem_mem hj1) wX c bWX (edgeE.stays (old_below bX) HR.out.1)
      rw [← hr] at hcall
      have HC := Lib.hid hcall
      have HR2 := Lib.hid hr
      have HX := Lib.hid (And.intro bWX hX)
      clear oX bX bWX hcall hr
      cases r with
      | true =>
        go_wp2_with (first
          | ((with_reducible refine wpList_loadRowE (.tmp 6) wr.heap.size 41 41 c 5 _ hX hlen Tryz.underlying41 rfl size_edgeE ?_ ?_ ?_ ?_); rfl; rfl; rfl)
          | (go_at_call 75; (with_reducible refine HC.out.mono ?_); rintro e w3 ⟨rfl, hb3⟩))
        have HB2 : Hid (Below w.heap.size w w3) := Lib.hid (HX.out.1.trans (hb3.mono HX.out.1.size))
        clear hb3
        go_wp2_with fail
        go_roundg (gk - 1)
        case measure => omega
        case rel =>
          refine ⟨j + 1, by omega, by go_num, HB2, Lib.hid fun i h hi => ?_⟩
          by_cases e : i = j
          · subst e; exact HR2.out.symm
          · exact HA.out i h (by omega)
      | false =>
        go_wp2_with (first
          | ((with_reducible refine wpList_loadRowE (.tmp 6) wr.heap.size 41 41 c 5 _ hX hlen Tryz.underlying41 rfl size_edgeE ?_ ?_ ?_ ?_); rfl; rfl; rfl)
          | (go_at_call 75; (with_reducible refine HC.out.mono ?_); rintro e w3 ⟨rfl, hb3⟩))
        have HB2 : Hid (Below w.heap.size w w3) := Lib.hid (HX.out.1.trans (hb3.mono HX.out.1.size))
        clear hb3
        go_wp2_with fail
        go_ret
        refine ⟨?_, HB2.out⟩
        have e : l.all q = false := List.all_eq_false.2 ⟨l[j], List.getElem_mem hj1, by rw [← HR2.out]; decide⟩
        rw [HN.out.trans e]
        try rfl
    · have e : l.all q = true := List.all_eq_true.2 fun x hx => by
        obtain ⟨i, hi, rfl⟩ := List.getElem_of_mem hx
        exact HA.out i hi (by have := HL.out; omega)
      have HQ := Lib.hid e
      clear e
      go_wp2_with fail
      go_ret
      refine ⟨?_, HB.out⟩
      rw [HN.out.trans HQ.out]
      try rfl
set_option maxHeartbeats 3200000 in
set_option maxRecDepth 20000 in
theorem hold116 (q : ByteArray → Bool) (l : List ByteArray) (v : Value) (w : World) (h : SliceE textE w (Old w) v l) (hn : l.length ≤ 2097152)
    (each : ∀ x ∈ l, ∀ W c, Below w.heap.size w W → textE.rel W (Old W) c x → Calls Tryz.prog 102 #[.string x] W fun e w' => e = .returned (.bool (q x)) ∧ Below W.heap.size W w') :
    Calls Tryz.prog 116 #[v, .func (.func 102) #[] #[]] w fun e w' => e = .returned (.bool (l.all q)) ∧ Below w.heap.size w w' := by
  obtain ⟨n, hln⟩ : ∃ n, n = l.length := ⟨_, rfl⟩
  obtain ⟨p, cap, rfl⟩ := h.slice
  rw [← hln] at hn
  obtain ⟨ans, hans⟩ : ∃ ans, ans = l.all q := ⟨_, rfl⟩
  have HN := Lib.hid hans
  rw [← hans]
  have HL := Lib.hid hln
  have HH := Lib.hid h
  have HE := Lib.hid each
  rw [← hln]
  clear h hln each hans
  go_enter Tryz.func116, Tryz.ntmps116
  go_wp2_with fail
  go_loopg [9] n (fun gg s9 wr => ∃ j : Nat, j + gg = n ∧ s9 = .int .i64 j ∧ Hid (Below w.heap.size w wr) ∧ Hid (∀ i (h : i < l.length), i < j → q l[i] = true))
  case atStart => exact ⟨0, by omega, rfl, Lib.hid (Below.refl _ _), Lib.hid (fun i _ h => absurd h (by omega))⟩
  case round =>
    obtain ⟨j, hjg, rfl, HB, HA⟩ := hrel
    by_cases hlt : (j : Int) < n
    · have hj1 : j < l.length := by have := HL.out; omega
      have hbel := HB.out
      obtain ⟨g, off, cap', c, e0, hg, hrl, hra⟩ := (HH.out.stays (old_below hbel)).at_ j hj1
      injection e0 with e1 e2 e3
      subst e1
      replace hra : wr.rangeAt g (off + j * 1) c := hra
      have hlen : c.length = 1 := textE.len hrl
      have hbs := hbel.size
      obtain ⟨r, hr⟩ : ∃ r, r = q l[j] := ⟨_, rfl⟩
      obtain ⟨rfl, hwf⟩ := hrl
      have c0 : wr.cell? ⟨g, off + j, none⟩ = some (.string l[j]) := by
        have := hra 0 _ rfl
        simpa using this
      have hcall := HE.out l[j] (List.getElem_mem hj1) wr _ hbel ⟨rfl, hwf⟩
      rw [← hr] at hcall
      have HC := Lib.hid hcall
      have HR2 := Lib.hid hr
      clear hcall hr hra e2 e3 hbel
      cases r with
      | true =>
        go_wp2_with (first
          | (go_at_call 102; (with_reducible refine HC.out.mono ?_); rintro e w3 ⟨rfl, hb3⟩))
        have HB2 : Hid (Below w.heap.size w w3) := Lib.hid (HB.out.trans (hb3.mono HB.out.size))
        clear hb3
        go_wp2_with fail
        go_roundg (gk - 1)
        case measure => omega
        case rel =>
          refine ⟨j + 1, by omega, by go_num, HB2, Lib.hid fun i h hi => ?_⟩
          by_cases e : i = j
          · subst e; exact HR2.out.symm
          · exact HA.out i h (by omega)
      | false =>
        go_wp2_with (first
          | (go_at_call 102; (with_reducible refine HC.out.mono ?_); rintro e w3 ⟨rfl, hb3⟩))
        have HB2 : Hid (Below w.heap.size w w3) := Lib.hid (HB.out.trans (hb3.mono HB.out.size))
        clear hb3
        go_wp2_with fail
        go_ret
        refine ⟨?_, HB2.out⟩
        have e : l.all q = false := List.all_eq_false.2 ⟨l[j], List.getElem_mem hj1, by rw [← HR2.out]; decide⟩
        rw [HN.out.trans e]
        try rfl
    · have e : l.all q = true := List.all_eq_true.2 fun x hx => by
        obtain ⟨i, hi, rfl⟩ := List.getElem_of_mem hx
        exact HA.out i hi (by have := HL.out; omega)
      have HQ := Lib.hid e
      clear e
      go_wp2_with fail
      go_ret
      refine ⟨?_, HB.out⟩
      rw [HN.out.trans HQ.out]
      try rfl
set_option maxHeartbeats 3200000 in
set_option maxRecDepth 20000 in
theorem hold120 (q : PairL → Bool) (l : List PairL) (v : Value) (w : World) (h : SliceE pairE w (Old w) v l) (hn : l.length ≤ 2097152)
    (each : ∀ x ∈ l, ∀ W c, Below w.heap.size w W → pairE.rel W (Old W) c x → Calls Tryz.prog 121 #[.agg c.toArray] W fun e w' => e = .returned (.bool (q x)) ∧ Below W.heap.size W w') :
    Calls Tryz.prog 120 #[v, .func (.func 121) #[] #[]] w fun e w' => e = .returned (.bool (l.all q)) ∧ Below w.heap.size w w' := by
  obtain ⟨n, hln⟩ : ∃ n, n = l.length := ⟨_, rfl⟩
  obtain ⟨p, cap, rfl⟩ := h.slice
  rw [← hln] at hn
  obtain ⟨ans, hans⟩ : ∃ ans, ans = l.all q := ⟨_, rfl⟩
  have HN := Lib.hid hans
  rw [← hans]
  have HL := Lib.hid hln
  have HH := Lib.hid h
  have HE := Lib.hid each
  rw [← hln]
  clear h hln each hans
  go_enter Tryz.func120, Tryz.ntmps120
  go_wp2_with fail
  go_loopg [9] n (fun gg s9 wr => ∃ j : Nat, j + gg = n ∧ s9 = .int .i64 j ∧ Hid (Below w.heap.size w wr) ∧ Hid (∀ i (h : i < l.length), i < j → q l[i] = true))
  case atStart => exact ⟨0, by omega, rfl, Lib.hid (Below.refl _ _), Lib.hid (fun i _ h => absurd h (by omega))⟩
  case round =>
    obtain ⟨j, hjg, rfl, HB, HA⟩ := hrel
    by_cases hlt : (j : Int) < n
    · have hj1 : j < l.length := by have := HL.out; omega
      have hbel := HB.out
      obtain ⟨g, off, cap', c, e0, hg, hrl, hra⟩ := (HH.out.stays (old_below hbel)).at_ j hj1
      injection e0 with e1 e2 e3
      subst e1
      replace hra : wr.rangeAt g (off + j * 7) c := hra
      have hlen : c.length = 7 := pairE.len hrl
      have hbs := hbel.size
      obtain ⟨r, hr⟩ : ∃ r, r = q l[j] := ⟨_, rfl⟩
      have hone := pairE.one hrl
      have HR := Lib.hid (And.intro hrl hra)
      clear hrl hra e2 e3 hbel
      go_upto_region 4 with (first
        | ((with_reducible refine wpList_loadE (.tmp 11) g (off + j * 7) 70 c 7 _ HR.out.2 hlen Tryz.underlying70 rfl size_pairE ?_ ?_ ?_ ?_); rfl; rfl; rfl)
        | ((with_reducible refine wpList_storeE (.tmp 6) (.tmp 12) wr.heap.size 70 70 _ c 7 (heap_new _ _ rfl) hlen ?_ ?_ ?_ ?_ size_pairE rfl hone ?_); rfl; rfl; rfl; rfl; intro wX oX hX))
      have bX : Below wr.heap.size wr wX := below_only (below1 wr _) oX (Nat.le_refl _) (by simp)
      have bWX : Below w.heap.size w wX := HB.out.trans (bX.mono hbs)
      have hcall := HE.out l[j] (List.getElem_mem hj1) wX c bWX (pairE.stays (old_below bX) HR.out.1)
      rw [← hr] at hcall
      have HC := Lib.hid hcall
      have HR2 := Lib.hid hr
      have HX := Lib.hid (And.intro bWX hX)
      clear oX bX bWX hcall hr
      cases r with
      | true =>
        go_wp2_with (first
          | ((with_reducible refine wpList_loadRowE (.tmp 6) wr.heap.size 70 70 c 7 _ hX hlen Tryz.underlying70 rfl size_pairE ?_ ?_ ?_ ?_); rfl; rfl; rfl)
          | (go_at_call 121; (with_reducible refine HC.out.mono ?_); rintro e w3 ⟨rfl, hb3⟩))
        have HB2 : Hid (Below w.heap.size w w3) := Lib.hid (HX.out.1.trans (hb3.mono HX.out.1.size))
        clear hb3
        go_wp2_with fail
        go_roundg (gk - 1)
        case measure => omega
        case rel =>
          refine ⟨j + 1, by omega, by go_num, HB2, Lib.hid fun i h hi => ?_⟩
          by_cases e : i = j
          · subst e; exact HR2.out.symm
          · exact HA.out i h (by omega)
      | false =>
        go_wp2_with (first
          | ((with_reducible refine wpList_loadRowE (.tmp 6) wr.heap.size 70 70 c 7 _ hX hlen Tryz.underlying70 rfl size_pairE ?_ ?_ ?_ ?_); rfl; rfl; rfl)
          | (go_at_call 121; (with_reducible refine HC.out.mono ?_); rintro e w3 ⟨rfl, hb3⟩))
        have HB2 : Hid (Below w.heap.size w w3) := Lib.hid (HX.out.1.trans (hb3.mono HX.out.1.size))
        clear hb3
        go_wp2_with fail
        go_ret
        refine ⟨?_, HB2.out⟩
        have e : l.all q = false := List.all_eq_false.2 ⟨l[j], List.getElem_mem hj1, by rw [← HR2.out]; decide⟩
        rw [HN.out.trans e]
        try rfl
    · have e : l.all q = true := List.all_eq_true.2 fun x hx => by
        obtain ⟨i, hi, rfl⟩ := List.getElem_of_mem hx
        exact HA.out i hi (by have := HL.out; omega)
      have HQ := Lib.hid e
      clear e
      go_wp2_with fail
      go_ret
      refine ⟨?_, HB.out⟩
      rw [HN.out.trans HQ.out]
      try rfl
set_option maxHeartbeats 3200000 in
set_option maxRecDepth 20000 in
theorem hold149 (q : Val → Bool) (l : List Val) (v : Value) (w : World) (h : SliceE valE w (Old w) v l) (hn : l.length ≤ 2097152)
    (each : ∀ x ∈ l, ∀ W c, Below w.heap.size w W → valE.rel W (Old W) c x → Calls Tryz.prog 148 #[.agg c.toArray] W fun e w' => e = .returned (.bool (q x)) ∧ Below W.heap.size W w') :
    Calls Tryz.prog 149 #[v, .func (.func 148) #[] #[]] w fun e w' => e = .returned (.bool (l.all q)) ∧ Below w.heap.size w w' := by
  obtain ⟨n, hln⟩ : ∃ n, n = l.length := ⟨_, rfl⟩
  obtain ⟨p, cap, rfl⟩ := h.slice
  rw [← hln] at hn
  obtain ⟨ans, hans⟩ : ∃ ans, ans = l.all q := ⟨_, rfl⟩
  have HN := Lib.hid hans
  rw [← hans]
  have HL := Lib.hid hln
  have HH := Lib.hid h
  have HE := Lib.hid each
  rw [← hln]
  clear h hln each hans
  go_enter Tryz.func149, Tryz.ntmps149
  go_wp2_with fail
  go_loopg [9] n (fun gg s9 wr => ∃ j : Nat, j + gg = n ∧ s9 = .int .i64 j ∧ Hid (Below w.heap.size w wr) ∧ Hid (∀ i (h : i < l.length), i < j → q l[i] = true))
  case atStart => exact ⟨0, by omega, rfl, Lib.hid (Below.refl _ _), Lib.hid (fun i _ h => absurd h (by omega))⟩
  case round =>
    obtain ⟨j, hjg, rfl, HB, HA⟩ := hrel
    by_cases hlt : (j : Int) < n
    · have hj1 : j < l.length := by have := HL.out; omega
      have hbel := HB.out
      obtain ⟨g, off, cap', c, e0, hg, hrl, hra⟩ := (HH.out.stays (old_below hbel)).at_ j hj1
      injection e0 with e1 e2 e3
      subst e1
      replace hra : wr.rangeAt g (off + j * 6) c := hra
      have hlen : c.length = 6 := valE.len hrl
      have hbs := hbel.size
      obtain ⟨r, hr⟩ : ∃ r, r = q l[j] := ⟨_, rfl⟩
      have hone := valE.one hrl
      have HR := Lib.hid (And.intro hrl hra)
      clear hrl hra e2 e3 hbel
      go_upto_region 4 with (first
        | ((with_reducible refine wpList_loadE (.tmp 11) g (off + j * 6) 60 c 6 _ HR.out.2 hlen Tryz.underlying60 rfl size_valE ?_ ?_ ?_ ?_); rfl; rfl; rfl)
        | ((with_reducible refine wpList_storeE (.tmp 6) (.tmp 12) wr.heap.size 60 60 _ c 6 (heap_new _ _ rfl) hlen ?_ ?_ ?_ ?_ size_valE rfl hone ?_); rfl; rfl; rfl; rfl; intro wX oX hX))
      have bX : Below wr.heap.size wr wX := below_only (below1 wr _) oX (Nat.le_refl _) (by simp)
      have bWX : Below w.heap.size w wX := HB.out.trans (bX.mono hbs)
      have hcall := HE.out l[j] (List.getElem_mem hj1) wX c bWX (valE.stays (old_below bX) HR.out.1)
      rw [← hr] at hcall
      have HC := Lib.hid hcall
      have HR2 := Lib.hid hr
      have HX := Lib.hid (And.intro bWX hX)
      clear oX bX bWX hcall hr
      cases r with
      | true =>
        go_wp2_with (first
          | ((with_reducible refine wpList_loadRowE (.tmp 6) wr.heap.size 60 60 c 6 _ hX hlen Tryz.underlying60 rfl size_valE ?_ ?_ ?_ ?_); rfl; rfl; rfl)
          | (go_at_call 148; (with_reducible refine HC.out.mono ?_); rintro e w3 ⟨rfl, hb3⟩))
        have HB2 : Hid (Below w.heap.size w w3) := Lib.hid (HX.out.1.trans (hb3.mono HX.out.1.size))
        clear hb3
        go_wp2_with fail
        go_roundg (gk - 1)
        case measure => omega
        case rel =>
          refine ⟨j + 1, by omega, by go_num, HB2, Lib.hid fun i h hi => ?_⟩
          by_cases e : i = j
          · subst e; exact HR2.out.symm
          · exact HA.out i h (by omega)
      | false =>
        go_wp2_with (first
          | ((with_reducible refine wpList_loadRowE (.tmp 6) wr.heap.size 60 60 c 6 _ hX hlen Tryz.underlying60 rfl size_valE ?_ ?_ ?_ ?_); rfl; rfl; rfl)
          | (go_at_call 148; (with_reducible refine HC.out.mono ?_); rintro e w3 ⟨rfl, hb3⟩))
        have HB2 : Hid (Below w.heap.size w w3) := Lib.hid (HX.out.1.trans (hb3.mono HX.out.1.size))
        clear hb3
        go_wp2_with fail
        go_ret
        refine ⟨?_, HB2.out⟩
        have e : l.all q = false := List.all_eq_false.2 ⟨l[j], List.getElem_mem hj1, by rw [← HR2.out]; decide⟩
        rw [HN.out.trans e]
        try rfl
    · have e : l.all q = true := List.all_eq_true.2 fun x hx => by
        obtain ⟨i, hi, rfl⟩ := List.getElem_of_mem hx
        exact HA.out i hi (by have := HL.out; omega)
      have HQ := Lib.hid e
      clear e
      go_wp2_with fail
      go_ret
      refine ⟨?_, HB.out⟩
      rw [HN.out.trans HQ.out]
      try rfl
end Go.Proofs.YtcfmenkigolnoaaGreatDoor

/- The copies that the document's own text makes of values. -/
namespace Go.Proofs.YtcfmenkigolnoaaGreatDoor
open Go.RowKit

theorem results_sixA {fn : Func} {p : Tmp} (h : fn.results = #[.cell p 60]) (tmps : Array Value) {w : World} {g : Nat} {k : Int} {b : Bool} {n : Int} {t x : ByteArray} {pp : Option Addr} {len cap : Nat}
    (hp : tmps.getD p undef = .pointer (some ⟨g, 0, none⟩)) (hg : Six w g k b n t x pp len cap) : (results fn tmps).run Tryz.prog w = .ok (.agg #[.int .i64 k, .bool b, .int .i64 n, .string t, .string x, .slice pp len cap]) w := by
  have hp' : tmps[p]?.getD undef = .pointer (some ⟨g, 0, none⟩) := by simpa using hp
  have hl := run_loadVar_row (P := Tryz.prog) w g 60 60 _ (0, 0) _ hg Tryz.underlying60 rfl info28
  simp [results, h, hp', asAddr, hl]
end Go.Proofs.YtcfmenkigolnoaaGreatDoor
