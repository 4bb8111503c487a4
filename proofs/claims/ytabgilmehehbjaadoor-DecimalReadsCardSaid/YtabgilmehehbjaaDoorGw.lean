/- Texts of one kind, one behind the other: each says ahead of itself what it shows. -/
import Derived.Test.YtabgilmehehbjaaDoorGv
import Derived.Deep.CutBlock
import Derived.Deep.RegionHeld3
import Derived.Deep.RegionWith
/- The document's numbers written as texts. -/
namespace Go.Proofs.YtabgilmehehbjaaDoor
open Go.RowKit

/-- What Form has written so far, and what it goes by. -/
structure FormSt (w : World) (neg : Bool) (v : Value) (sc : Nat) (s6 : Value) (l : List UInt8) (wr : World) : Prop where
  own : wr.ownsRow (w.heap.size + 1) 5 1 s6 l.length (vals l)
  rc : Rec wr w.heap.size neg v sc
  bel : Below w.heap.size w wr
theorem FormSt.app {w wr w1 : World} {neg : Bool} {v s6 v' : Value} {sc n : Nat} {l : List UInt8} {o : Obj} {c : UInt8} {x : Int} (h : FormSt w neg v sc s6 l wr) (hx : (c.toNat : Int) = x)
    (hown : w1.ownsRow (w.heap.size + 1) 5 1 v' n (vals l ++ [.int .u8 x])) (hn : n = l.length + 1) (hg : (wr.alloc o).grownBy w1 s6.ownBlock) : FormSt w neg v sc v' (l ++ [c]) w1 := by
  have hne : some w.heap.size ≠ s6.ownBlock := fun e => by have := (h.own.lt _ e.symm).1; omega
  have hb : Below w.heap.size w w1 := (h.bel.alloc h.bel.size o).grown hg (by have := h.bel.size; simp; omega) (fun k hk => by have := (h.own.lt k hk).1; omega)
  refine ⟨?_, (hg.block _ (lt_of_heap (h.rc.alloc o)) hne).trans (h.rc.alloc o), hb⟩
  subst hx hn
  rw [List.length_append]
  unfold vals at hown ⊢
  simpa using hown

theorem FormSt.conv {w wr : World} {neg : Bool} {v s6 : Value} {sc : Nat} {l : List UInt8} (h : FormSt w neg v sc s6 l wr) (hne : l ≠ []) :
    ∃ g cap, s6 = .slice (some ⟨g, 0, none⟩) l.length cap ∧ (convert 55 9 (.slice (some ⟨g, 0, none⟩) l.length cap)).run Tryd.prog wr = .ok (.string (bs l)) wr := by
  have hl : 0 < l.length := List.length_pos_iff.2 hne
  rcases h.own.2 with ⟨e, h0⟩ | ⟨g, cap, cur, e, _, _⟩
  · exact absurd (List.length_eq_zero_iff.1 h0) hne
  · refine ⟨g, cap, e, ?_⟩
    have hown := h.own
    subst e
    exact run_convert_bytes_back (P := Tryd.prog) wr 55 9 5 ⟨g, 0, none⟩ cap l Tryd.underlying55 Tryd.underlying5 Tryd.underlying9 (fun j hj => by
      rw [Addr.add_mid, Nat.zero_add, hown.cellAt j (by omega)]
      unfold vals
      rw [List.getElem?_map, List.getElem?_eq_getElem hj]
      rfl)

set_option maxRecDepth 20000 in
set_option maxHeartbeats 3200000 in
theorem refForm (neg : Bool) (v : Value) (ds : List Nat) (sc : Nat) (w : World) (h : Ints w v ds) (hs : Small ds) (l1 : sc ≤ 1000000000) (l2 : ds.length ≤ 1000000000) :
    Calls Tryd.prog 38 #[numV neg v sc] w fun e w' => e = .returned (said (formP neg ds sc)) ∧ Below w.heap.size w w' := by
  unfold numV
  obtain ⟨i0, hi, hz0, hz1, hz2⟩ := info_parts info5
  obtain ⟨t, er, hv0⟩ := said_form (formP neg ds sc)
  rw [hv0]
  have HV0 := Lib.hid hv0
  have HI := Lib.hid h
  have HS := Lib.hid hs
  have HF := h.form
  obtain ⟨p, cap, rfl⟩ := HF
  obtain ⟨n, hn⟩ : ∃ n, n = ds.length := ⟨_, rfl⟩
  rw [← hn] at l2 ⊢
  have HN := Lib.hid hn
  have k0 : Rec (w.alloc (.cells #[.bool neg, .slice p ds.length cap, .int .i64 sc] 44)) w.heap.size neg (.slice p ds.length cap) sc := heap_new _ _ rfl
  have hb0 : Below w.heap.size w (w.alloc (.cells #[.bool neg, .slice p ds.length cap, .int .i64 sc] 44)) := (Below.refl _ _).alloc (Nat.le_refl _) _
  rw [← hn] at k0 hb0
  have K0 := Lib.hid (And.intro k0 hb0)
  clear h hs hv0 hn k0 hb0
  go_enter Tryd.func38, Tryd.ntmps38
  go_upto_block 0 with fail
  go_cut [4] (fun s4 wx => ∃ low : Nat, s4 = .int .i64 low ∧ wx = w.alloc (.cells #[.bool neg, .slice p n cap, .int .i64 sc] 44) ∧ low ≤ sc ∧ Aside ((∀ j, j < low → dig ds j = 0) ∧ (low = sc ∨ dig ds low ≠ 0)))
  case first =>
    go_wp2_with fail
    go_loopg [4] sc (fun gg s4 wr => ∃ low : Nat, low + gg = sc ∧ s4 = .int .i64 low ∧ wr = w.alloc (.cells #[.bool neg, .slice p n cap, .int .i64 sc] 44) ∧ Aside (∀ j, j < low → dig ds j = 0))
    case atStart => exact ⟨0, by omega, rfl, rfl, fun j hj => absurd hj (Nat.not_lt_zero j)⟩
    case round =>
      obtain ⟨low, hl, rfl, rfl, hz⟩ := hrel
      have HZ := Lib.hid hz.out
      clear hz
      by_cases h1 : (low : Int) < sc
      · obtain ⟨x, hx⟩ : ∃ x, x = dig ds low := ⟨_, rfl⟩
        have K1 := Lib.hid hx
        have IW : Hid (Ints (w.alloc (.cells #[.bool neg, .slice p n cap, .int .i64 sc] 44)) (.slice p n cap) ds) := Lib.hid (by have := HI.out; rw [← HN.out] at this; exact this.below K0.out.2)
        by_cases h2 : (x : Int) = 0
        · have hz2 : ∀ j, j < low + 1 → dig ds j = 0 := fun j hj => by
            rcases Nat.lt_or_ge j low with h3 | h3
            · exact HZ.out j h3
            · rw [show j = low by omega, ← hx]; omega
          have HZ2 := Lib.hid hz2
          clear hz2 hx HZ
          go_wp2_with (go_at_call 65; (with_reducible refine (refAtB _ ds low x _ IW.out K1).mono ?_); rintro e w' ⟨rfl, rfl⟩)
          go_roundg (gk - 1)
          case measure => omega
          case rel => exact ⟨low + 1, by omega, by go_num, rfl, HZ2.out⟩
        · have hx2 : dig ds low ≠ 0 := by rw [← hx]; omega
          have HX2 := Lib.hid hx2
          have h2b : ((x : Int) == 0) = false := by simpa using h2
          clear hx hx2
          go_wp2_with (go_at_call 65; (with_reducible refine (refAtB _ ds low x _ IW.out K1).mono ?_); rintro e w' ⟨rfl, rfl⟩)
          go_meet
          case rel => exact ⟨low, rfl, rfl, by omega, HZ.out, .inr HX2.out⟩
      · go_wp2_with fail
        go_meet
        case rel => exact ⟨low, rfl, rfl, by omega, HZ.out, .inl (by omega)⟩
  case rest =>
    obtain ⟨low, rfl, rfl, hlow, hz⟩ := hcut
    have HL := Lib.hid hz.out
    clear hz
    go_upto_block 2 with fail
    go_cut [5] (fun s5 wx => ∃ high : Nat, s5 = .int .i64 high ∧ wx = w.alloc (.cells #[.bool neg, .slice p n cap, .int .i64 sc] 44) ∧ high ≤ n ∧ Aside ((∀ j, high ≤ j → dig ds j = 0) ∧ (high ≤ sc + 1 ∨ dig ds (high - 1) ≠ 0)))
    case first =>
      go_wp2_with fail
      go_loopg [5] n (fun gg s5 wr => ∃ high : Nat, high = gg ∧ s5 = .int .i64 high ∧ wr = w.alloc (.cells #[.bool neg, .slice p n cap, .int .i64 sc] 44) ∧ high ≤ n ∧ Aside (∀ j, high ≤ j → dig ds j = 0))
      case atStart => exact ⟨n, rfl, rfl, rfl, Nat.le_refl _, fun j hj => dig_out (by rw [← HN.out]; exact hj)⟩
      case round =>
        obtain ⟨high, rfl, rfl, rfl, hh, hz⟩ := hrel
        have HZ := Lib.hid hz.out
        clear hz
        by_cases h1 : (high : Int) > sc + 1
        · obtain ⟨k, hk⟩ : ∃ k : Nat, (high : Int) - 1 = k := ⟨high - 1, by omega⟩
          have hk2 : high = k + 1 := by omega
          have HK := Lib.hid hk2
          clear hk2
          have hcell : ∃ b off, p = some ⟨b, off, none⟩ ∧ w.cell? ⟨b, off + k, none⟩ = some (.int .i64 (dig ds k)) := by
            rcases HI.out with ⟨e, e2⟩ | ⟨b, off, cap2, e, hc, _⟩
            · have := HN.out; rw [e2] at this; simp at this; omega
            · injection e with e1 e2 e3
              exact ⟨b, off, e1, hc k (by rw [← HN.out]; omega)⟩
          obtain ⟨b, off, rfl, hc⟩ := hcell
          have c1 := (K0.out.2.cell (p := ⟨b, off + k, none⟩) (World.block_lt_of_cell? w _ hc)).trans hc
          obtain ⟨x, hx⟩ : ∃ x, x = dig ds k := ⟨_, rfl⟩
          rw [← hx] at c1
          clear hc
          by_cases h2 : (x : Int) = 0
          · have hz2 : ∀ j, k ≤ j → dig ds j = 0 := fun j hj => by
              rcases Nat.lt_or_ge k j with h3 | h3
              · exact HZ.out j (by omega)
              · rw [show j = k by omega, ← hx]; omega
            have HZ2 := Lib.hid hz2
            clear hz2 hx HZ
            rw [h2] at c1
            go_wp2_with fail
            go_roundg k
            case measure => omega
            case rel => exact ⟨k, rfl, rfl, rfl, by omega, HZ2.out⟩
          · have hx2 : dig ds k ≠ 0 := by rw [← hx]; omega
            have HX2 := Lib.hid hx2
            have h2b : ((x : Int) == 0) = false := by simpa using h2
            clear hx hx2
            go_wp2_with fail
            go_meet
            case rel => exact ⟨high, rfl, rfl, by omega, HZ.out, .inr (by rw [show high - 1 = k by omega]; exact HX2.out)⟩
        · go_wp2_with fail
          go_meet
          case rel => exact ⟨high, rfl, rfl, by omega, HZ.out, .inl (by omega)⟩
    case rest =>
      obtain ⟨h0, rfl, rfl, hh0, hz⟩ := hcut
      have HH := Lib.hid hz.out
      clear hz
      go_upto_if 44 with fail
      go_cut [5] (fun s5 wx => ∃ high : Nat, s5 = .int .i64 high ∧ wx = w.alloc (.cells #[.bool neg, .slice p n cap, .int .i64 sc] 44) ∧ high ≤ 2000000001 ∧ sc + 1 ≤ high ∧ Hid (Ends ds sc low high))
      case first =>
        by_cases h1 : (h0 : Int) ≤ sc
        · have HE : Hid (Ends ds sc low (sc + 1)) := Lib.hid ⟨hlow, HL.out.1, HL.out.2, Nat.le_refl _, fun j hj => HH.out.1 j (by omega), .inl rfl⟩
          go_wp2_with fail
          go_meet
          case rel => exact ⟨sc + 1, by go_num, rfl, by omega, Nat.le_refl _, HE⟩
        · have HE : Hid (Ends ds sc low h0) := Lib.hid ⟨hlow, HL.out.1, HL.out.2, by omega, HH.out.1, by rcases HH.out.2 with k | k; left; omega; exact .inr k⟩
          go_wp2_with fail
          go_meet
          case rel => exact ⟨h0, rfl, rfl, by omega, by omega, HE⟩
      case rest =>
        clear HL HH hh0
        obtain ⟨high, rfl, rfl, hh, hsc, HE⟩ := hcut
        have hform := HE.out.form HS.out neg
        by_cases hov : high - sc > 40 ∨ sc - low > 20
        · rw [if_pos hov] at hform
          have hr : t = bs [] ∧ er = 2 := by
            have := HV0.out
            rw [hform] at this
            simp [said] at this
            exact ⟨this.1.symm, this.2.symm⟩
          obtain ⟨rfl, rfl⟩ := hr
          clear hform
          by_cases hov1 : (high : Int) - sc > 40
          · clear hov
            go_wp2_with fail
            go_ret2
            exact ⟨rfl, K0.out.2⟩
          · have hov2 : (sc : Int) - low > 20 := by omega
            clear hov
            go_wp2_with fail
            go_ret2
            exact ⟨rfl, K0.out.2⟩
        · rw [if_neg hov] at hform
          obtain ⟨T, hT⟩ : ∃ T, T = ((if (neg && !decide (val10 ds = 0)) = true then [45] else []) ++ (dn ds sc (high - sc) ++ 46 :: (if low = sc then [48] else dn ds low (sc - low)))) := ⟨_, rfl⟩
          rw [← hT] at hform
          have hr : t = bs T ∧ er = 0 := by
            have := HV0.out
            rw [hform] at this
            simp [said] at this
            exact ⟨this.1.symm, this.2.symm⟩
          obtain ⟨rfl, rfl⟩ := hr
          have HT := Lib.hid hT
          clear hform hT HV0
          have o1 : (high : Int) - sc ≤ 40 := by omega
          have o2 : (sc : Int) - low ≤ 20 := by omega
          clear hov
          obtain ⟨d, hd⟩ : ∃ d : Bool, d = decide (val10 ds = 0) := ⟨_, rfl⟩
          obtain ⟨S, hS⟩ : ∃ S : List UInt8, S = if (neg && !d) = true then [45] else [] := ⟨_, rfl⟩
          have HD := Lib.hid hd
          have HSS := Lib.hid hS
          have hsd : S = if (neg && !decide (val10 ds = 0)) = true then [45] else [] := by rw [hS, hd]
          have HSD := Lib.hid hsd
          clear hsd
          have hS1 : S.length ≤ 1 := by rw [hS]; split <;> simp
          clear hd hS
          go_upto_region 12 with fail
          go_cut [67] (fun s67 wx => s67 = .bool (neg && !d) ∧ wx = w.alloc (.cells #[.bool neg, .slice p n cap, .int .i64 sc] 44))
          case first =>
            have IW : Hid (Ints (w.alloc (.cells #[.bool neg, .slice p n cap, .int .i64 sc] 44)) (.slice p n cap) ds) := Lib.hid (by have := HI.out; rw [← HN.out] at this; exact this.below K0.out.2)
            have hn63 : ds.length ≤ 9223372036854775807 := by have := HN.out; omega
            have HN63 := Lib.hid hn63
            clear hn63
            cases neg with
            | false =>
              go_wp2_with fail
              go_meet
              case rel => exact ⟨rfl, rfl⟩
            | true =>
              cases d with
              | false =>
                go_wp2_with (go_at_call 46; (with_reducible refine (refZero _ ds _ IW.out HN63.out false HD.out).mono ?_); rintro e w' ⟨rfl, rfl⟩)
                go_meet
                case rel => exact ⟨rfl, rfl⟩
              | true =>
                go_wp2_with (go_at_call 46; (with_reducible refine (refZero _ ds _ IW.out HN63.out true HD.out).mono ?_); rintro e w' ⟨rfl, rfl⟩)
                go_meet
                case rel => exact ⟨rfl, rfl⟩
          case rest =>
            obtain ⟨rfl, rfl⟩ := hcut
            obtain ⟨m, hm⟩ : ∃ m : Bool, m = (neg && !d) := ⟨_, rfl⟩
            rw [← hm] at HSS ⊢
            have HM := Lib.hid hm
            clear hm
            go_upto_if 67 with fail
            go_cut [6] (fun s6 wx => FormSt w neg (.slice p n cap) sc s6 S wx)
            case first =>
              have F0 : FormSt w neg (.slice p n cap) sc (.slice none 0 0) [] (w.alloc (.cells #[.bool neg, .slice p n cap, .int .i64 sc] 44)) := ⟨World.ownsRow_nil _ _ _ _, K0.out.1, K0.out.2⟩
              have FH := Lib.hid F0
              clear F0
              cases m with
              | false =>
                have e : S = [] := by rw [HSS.out]; rfl
                go_wp2_with fail
                go_meet
                case rel => rw [e]; exact FH.out
              | true =>
                have e : S = [45] := by rw [HSS.out]; rfl
                have hown := FH.out.own
                have HE1 := Lib.hid e
                clear e
                go_wp2_with (at_builtin; refine wpList_append_own _ rfl _ _ 55 rfl (w.heap.size + 1) 5 i0 (.int .u8 0) 1 1 Tryd.underlying55 hi hz0 hz1 hz2 rfl (by decide) _ _ _ rfl (hown.alloc _) ⟨w.heap.size + 1, 0, none⟩ 1 1 [.int .u8 45] rfl rfl ?_ ?_ ?_ ?_ ?_ ?_)
                all_goals (try (first | rfl | (unfold maxLen; omega) | omega | (have := FH.out.bel.size; simp; omega) | (intro j u hj; match j, hj with | 0, hj => (simp at hj; subst hj; simp [Addr.add])) | (intro u hu; simp at hu; subst hu; rfl)))
                · intro v' w1 hown' hgrow _
                  have F1 := FH.out.app (c := 45) rfl hown' rfl hgrow
                  clear hown' hgrow hown
                  go_wp2_with fail
                  go_meet
                  case rel => rw [HE1.out]; exact F1
            case rest =>
              obtain ⟨G, hG⟩ : ∃ G : List UInt8, G = S ++ dn ds sc (high - sc) := ⟨_, rfl⟩
              have HG := Lib.hid hG
              have hGl : G.length ≤ 41 := by rw [hG, List.length_append, dn_len]; omega
              have HGL := Lib.hid hGl
              have HX := HS.out
              have HSX := Lib.hid HX
              clear hG hGl HX HSS HD HM K0
              rename_i s6
              have FC := Lib.hid hcut
              clear hcut
              go_wp2_with fail
              go_loopg [6, 7] (high - sc) (fun gg s6 s7 wr => ∃ (l : List UInt8) (i : Int), i + 1 = sc + gg ∧ s7 = .int .i64 i ∧ l.length + gg ≤ 41 ∧ FormSt w neg (.slice p n cap) sc s6 l wr ∧ Hid (l ++ dn ds sc gg = G))
              case atStart => exact ⟨S, _, by omega, rfl, by omega, FC.out, Lib.hid HG.out.symm⟩
              case round =>
                clear FC
                obtain ⟨l, i, hig, rfl, hlen, F, HL⟩ := hrel
                have c1 := F.rc.c1
                have c2 := F.rc.c2
                by_cases h1 : i ≥ sc
                · obtain ⟨j, rfl⟩ := Int.eq_ofNat_of_zero_le (show 0 ≤ i by omega)
                  obtain ⟨x, hx⟩ : ∃ x, x = dig ds j := ⟨_, rfl⟩
                  have hx9 := HSX.out j
                  rw [← hx] at hx9
                  have hcx : ((bAt ds j).toNat : Int) = 48 + x := by rw [bAt_toNat HSX.out, ← hx]; omega
                  have hlist : l ++ [bAt ds j] ++ dn ds sc (gk - 1) = G := by
                    have := HL.out
                    rw [show gk = gk - 1 + 1 by omega] at this
                    rw [← this, List.append_assoc]
                    show l ++ (bAt ds j :: dn ds sc (gk - 1)) = l ++ (bAt ds (sc + (gk - 1)) :: dn ds sc (gk - 1))
                    rw [show sc + (gk - 1) = j by omega]
                  have HC := Lib.hid (And.intro hcx hlist)
                  have K1 := Lib.hid hx
                  have hw1 : IntKind.u8.wrap (48 + (x : Int)) = 48 + x := by unfold IntKind.wrap; simp [IntKind.bits, IntKind.signed]; omega
                  have IW : Hid (Ints wr (.slice p n cap) ds) := Lib.hid (by have := HI.out; rw [← HN.out] at this; exact this.below F.bel)
                  have hown := F.own
                  have hsz := F.bel.size
                  have hgt := F.rc.lt
                  clear hcx hlist hx
                  go_wp2_with (first
                    | (go_at_call 65; (with_reducible refine (refAtB _ ds j x _ IW.out K1).mono ?_); rintro e w' ⟨rfl, rfl⟩)
                    | (at_builtin; refine wpList_append_own _ rfl _ _ 55 rfl (w.heap.size + 1) 5 i0 (.int .u8 0) 1 1 Tryd.underlying55 hi hz0 hz1 hz2 rfl (by decide) _ _ _ rfl (hown.alloc _) ⟨wr.heap.size, 0, none⟩ 1 1 [.int .u8 (48 + (x : Int))] rfl rfl ?_ ?_ ?_ ?_ ?_ ?_))
                  all_goals (try (first | rfl | (unfold maxLen; omega) | omega | (have := F.bel.size; simp; omega) | (intro j u hj; match j, hj with | 0, hj => (simp at hj; subst hj; simp [Addr.add])) | (intro u hu; simp at hu; subst hu; rfl)))
                  · intro v' w1 hown' hgrow _
                    have F1 := F.app HC.out.1 hown' rfl hgrow
                    clear hown' hgrow hown c1 c2 hw1
                    go_wp2_with fail
                    go_roundg (gk - 1)
                    case measure => omega
                    case rel => exact ⟨l ++ [bAt ds j], (j : Int) - 1, by omega, by go_num, by simp; omega, F1, Lib.hid HC.out.2⟩
                · have hl : l = G := by
                    have := HL.out
                    rw [show gk = 0 by omega] at this
                    rw [← this]; exact (List.append_nil l).symm
                  have HLG := Lib.hid hl
                  have hown := F.own
                  have hsz := F.bel.size
                  have hgt := F.rc.lt
                  clear hl
                  go_wp2_with (at_builtin; refine wpList_append_own _ rfl _ _ 55 rfl (w.heap.size + 1) 5 i0 (.int .u8 0) 1 1 Tryd.underlying55 hi hz0 hz1 hz2 rfl (by decide) _ _ _ rfl (hown.alloc _) ⟨wr.heap.size, 0, none⟩ 1 1 [.int .u8 46] rfl rfl ?_ ?_ ?_ ?_ ?_ ?_)
                  all_goals (try (first | rfl | (unfold maxLen; omega) | omega | (have := F.bel.size; simp; omega) | (intro j u hj; match j, hj with | 0, hj => (simp at hj; subst hj; simp [Addr.add])) | (intro u hu; simp at hu; subst hu; rfl)))
                  · intro v' w1 hown' hgrow _
                    have F1 := F.app (c := 46) rfl hown' rfl hgrow
                    have FC := Lib.hid F1
                    have d2 := F1.rc.c2
                    obtain ⟨G2, hG2⟩ : ∃ G2 : List UInt8, G2 = l ++ [46] ++ dn ds low (sc - low) := ⟨_, rfl⟩
                    have HG2 := Lib.hid hG2
                    have hlb : (l ++ [46]).length ≤ 42 := by rw [List.length_append, HLG.out]; have := HGL.out; simp; omega
                    have HLB := Lib.hid hlb
                    clear hlb hG2 F1 hown' hgrow hown c1 c2 F HL hlen hig
                    go_wp2_with fail
                    clear d2
                    go_loopg [6, 8] (sc - low) (fun gg s6 s8 wq => ∃ (l2 : List UInt8) (i2 : Int), i2 + 1 = low + gg ∧ s8 = .int .i64 i2 ∧ l2.length + gg ≤ 62 ∧ FormSt w neg (.slice p n cap) sc s6 l2 wq ∧ Hid (l2 ++ dn ds low gg = G2))
                    case atStart => exact ⟨l ++ [46], _, by omega, rfl, by have := HLB.out; omega, FC.out, Lib.hid HG2.out.symm⟩
                    case round =>
                      clear FC
                      obtain ⟨l2, i2, hig2, rfl, hlen2, F2, HL2⟩ := hrel
                      have c1 := F2.rc.c1
                      have c2 := F2.rc.c2
                      by_cases h2 : i2 ≥ low
                      · obtain ⟨j, rfl⟩ := Int.eq_ofNat_of_zero_le (show 0 ≤ i2 by omega)
                        obtain ⟨x, hx⟩ : ∃ x, x = dig ds j := ⟨_, rfl⟩
                        have hx9 := HSX.out j
                        rw [← hx] at hx9
                        have hcx : ((bAt ds j).toNat : Int) = 48 + x := by rw [bAt_toNat HSX.out, ← hx]; omega
                        have hlist : l2 ++ [bAt ds j] ++ dn ds low (gk - 1) = G2 := by
                          have := HL2.out
                          rw [show gk = gk - 1 + 1 by omega] at this
                          rw [← this, List.append_assoc]
                          show l2 ++ (bAt ds j :: dn ds low (gk - 1)) = l2 ++ (bAt ds (low + (gk - 1)) :: dn ds low (gk - 1))
                          rw [show low + (gk - 1) = j by omega]
                        have HC := Lib.hid (And.intro hcx hlist)
                        have K1 := Lib.hid hx
                        have hw1 : IntKind.u8.wrap (48 + (x : Int)) = 48 + x := by unfold IntKind.wrap; simp [IntKind.bits, IntKind.signed]; omega
                        have IW : Hid (Ints wr (.slice p n cap) ds) := Lib.hid (by have := HI.out; rw [← HN.out] at this; exact this.below F2.bel)
                        have hown := F2.own
                        have hsz := F2.bel.size
                        have hgt := F2.rc.lt
                        clear hcx hlist hx
                        go_wp2_with (first
                          | (go_at_call 65; (with_reducible refine (refAtB _ ds j x _ IW.out K1).mono ?_); rintro e w' ⟨rfl, rfl⟩)
                          | (at_builtin; refine wpList_append_own _ rfl _ _ 55 rfl (w.heap.size + 1) 5 i0 (.int .u8 0) 1 1 Tryd.underlying55 hi hz0 hz1 hz2 rfl (by decide) _ _ _ rfl (hown.alloc _) ⟨wr.heap.size, 0, none⟩ 1 1 [.int .u8 (48 + (x : Int))] rfl rfl ?_ ?_ ?_ ?_ ?_ ?_))
                        all_goals (try (first | rfl | (unfold maxLen; omega) | omega | (have := F2.bel.size; simp; omega) | (intro j u hj; match j, hj with | 0, hj => (simp at hj; subst hj; simp [Addr.add])) | (intro u hu; simp at hu; subst hu; rfl)))
                        · intro v' w1 hown' hgrow _
                          have F1 := F2.app HC.out.1 hown' rfl hgrow
                          clear hown' hgrow hown c1 c2 hw1
                          go_wp2_with fail
                          go_roundg (gk - 1)
                          case measure => omega
                          case rel => exact ⟨l2 ++ [bAt ds j], (j : Int) - 1, by omega, by go_num, by simp; omega, F1, Lib.hid HC.out.2⟩
                      · have hl2 : l2 = G2 := by
                          have := HL2.out
                          rw [show gk = 0 by omega] at this
                          rw [← this]; exact (List.append_nil l2).symm
                        have HLG2 := Lib.hid hl2
                        clear hl2
                        by_cases hls : (low : Int) = sc
                        · have hT : l2 ++ [48] = T := by
                            rw [HLG2.out, HG2.out, HLG.out, HG.out, HT.out, if_pos (show low = sc by omega), show sc - low = 0 by omega]
                            show S ++ _ ++ [46] ++ [] ++ [48] = _
                            rw [HSD.out]; simp
                          have HTT := Lib.hid hT
                          have hown := F2.own
                          have hsz := F2.bel.size
                          have hgt := F2.rc.lt
                          clear hT
                          go_wp2_with (at_builtin; refine wpList_append_own _ rfl _ _ 55 rfl (w.heap.size + 1) 5 i0 (.int .u8 0) 1 1 Tryd.underlying55 hi hz0 hz1 hz2 rfl (by decide) _ _ _ rfl (hown.alloc _) ⟨wr.heap.size, 0, none⟩ 1 1 [.int .u8 48] rfl rfl ?_ ?_ ?_ ?_ ?_ ?_)
                          all_goals (try (first | rfl | (unfold maxLen; omega) | omega | (have := F2.bel.size; simp; omega) | (intro j u hj; match j, hj with | 0, hj => (simp at hj; subst hj; simp [Addr.add])) | (intro u hu; simp at hu; subst hu; rfl)))
                          · intro v' w1 hown' hgrow _
                            have F1 := F2.app (c := 48) rfl hown' rfl hgrow
                            obtain ⟨g, cap3, rfl, hcv⟩ := F1.conv (by simp)
                            obtain ⟨X, hX⟩ : ∃ X, X = bs (l2 ++ [48]) := ⟨_, rfl⟩
                            rw [← hX] at hcv
                            have HXX := Lib.hid hX
                            have hbf := F1.bel
                            clear hX F1 hown' hgrow hown c1 c2
                            generalize (l2 ++ [48]).length = L at *
                            go_wp2_with fail
                            go_ret2
                            exact ⟨by rw [HXX.out, HTT.out]; rfl, hbf⟩
                        · have hT : l2 = T := by
                            rw [HLG2.out, HG2.out, HLG.out, HG.out, HT.out, if_neg (show ¬ low = sc by omega), HSD.out]; simp
                          have HTT := Lib.hid hT
                          have hne : l2 ≠ [] := by rw [HLG2.out, HG2.out]; simp
                          obtain ⟨g, cap3, rfl, hcv⟩ := F2.conv hne
                          obtain ⟨X, hX⟩ : ∃ X, X = bs l2 := ⟨_, rfl⟩
                          rw [← hX] at hcv
                          have HXX := Lib.hid hX
                          have hbf := F2.bel
                          clear hX F2 hT hne c1
                          generalize l2.length = L at *
                          have hlsb : ((low : Int) == (sc : Int)) = false := by simpa using hls
                          go_wp2_with fail
                          go_ret2
                          exact ⟨by rw [HXX.out, HTT.out]; rfl, hbf⟩
end Go.Proofs.YtabgilmehehbjaaDoor

/- The document's reading of texts, and which are decimals. -/
namespace Go.Proofs.YtabgilmehehbjaaDoor
open Go.RowKit

/-- What reading tells. -/
def readSaid (l : List UInt8) : Value := readV (readP l)
theorem small_nil : Small [] := fun j => by simp [dig]
theorem okP_all {r : List UInt8} (h : okP r = true) : (Lib.cut r [46]).1.all isDig = true ∧ (Lib.cut r [46]).2.1.all isDig = true := by
  unfold okP at h
  rw [Bool.and_eq_true] at h
  refine ⟨by have := h.1; unfold digs at this; rw [Bool.and_eq_true] at this; exact this.2, ?_⟩
  cases hf : (Lib.cut r [46]).2.2 with
  | true =>
    have := h.2
    rw [hf] at this
    simp only [Bool.not_true, Bool.false_or] at this
    unfold digs at this
    rw [Bool.and_eq_true] at this
    exact this.2
  | false =>
    have : (Lib.cut r [46]).2.1 = [] := by
      by_cases hi : 0 ≤ Lib.index r [46]
      · unfold Lib.cut at hf; rw [if_pos hi] at hf; cases hf
      · unfold Lib.cut; rw [if_neg hi]
    rw [this]; rfl
theorem cut_sum (r : List UInt8) : (Lib.cut r [46]).1.length + (Lib.cut r [46]).2.1.length ≤ r.length := by
  unfold Lib.cut
  split
  · simp; omega
  · simp
/-- A number of the document's that is none. -/
theorem refParsedNo (s : ByteArray) (w : World) (hs : s.size ≤ 1000000000) (h : okP (sgn s.data.toList).2 = false) :
    Calls Tryd.prog 37 #[.string s] w fun e w' => e = .returned (.tuple #[.agg #[.bool false, .slice none 0 0, .int .i64 0], .bool false]) ∧ Below w.heap.size w w' :=
  (refParsed s w hs).mono fun _ _ ⟨hb, h1, _⟩ => ⟨h1 h, hb⟩
theorem ints_one {w : World} {v : Value} {ds : List Nat} (h : Ints w v ds) : v.oneCell' = true := by
  rcases h with ⟨rfl, _⟩ | ⟨_, _, _, rfl, _, _⟩ <;> rfl
/-- A number of the document's, parsed. -/
theorem refParsedYes (s : ByteArray) (w : World) (hs : s.size ≤ 1000000000) (h : okP (sgn s.data.toList).2 = true) (N : Bool) (ds : List Nat) (sc : Nat) (hN : Hid (N = (sgn s.data.toList).1)) (hd : Hid (ds = revD ((Lib.cut (sgn s.data.toList).2 [46]).1 ++ (Lib.cut (sgn s.data.toList).2 [46]).2.1)))
    (hsc : Hid (sc = (Lib.cut (sgn s.data.toList).2 [46]).2.1.length)) :
    Calls Tryd.prog 37 #[.string s] w fun e w' => ∃ v, e = .returned (.tuple #[.agg #[.bool N, v, .int .i64 sc], .bool true]) ∧ Ints w' v ds ∧ Below w.heap.size w w' :=
  (refParsed s w hs).mono fun _ _ ⟨hb, _, h2⟩ => by
    obtain ⟨v, e, hi⟩ := h2 h
    exact ⟨v, by rw [e, hN.out, hsc.out]; rfl, by rw [hd.out]; exact hi, hb⟩

theorem refFormS (N : Bool) (v : Value) (ds : List Nat) (sc : Nat) (w : World) (h : Ints w v ds) (hs : Small ds) (l1 : sc ≤ 1000000000) (l2 : ds.length ≤ 1000000000) (t : ByteArray) (er : Int) (hv : Hid (said (formP N ds sc) = .tuple #[.string t, .int .i64 er])) :
    Calls Tryd.prog 38 #[.agg #[.bool N, v, .int .i64 sc]] w fun e w' => e = .returned (.tuple #[.string t, .int .i64 er]) ∧ Below w.heap.size w w' := by
  have := refForm N v ds sc w h hs l1 l2
  rw [hv.out] at this
  exact this

set_option maxRecDepth 20000 in
set_option maxHeartbeats 1600000 in
theorem refRead (s : ByteArray) (w : World) (hs : s.size ≤ 1000000000) :
    Calls Tryd.prog 12 #[.string s] w fun e w' => e = .returned (readSaid s.data.toList) ∧ Below w.heap.size w w' := by
  have hrp : readSaid s.data.toList = if okP (sgn s.data.toList).2 = true then said (wr (sgn s.data.toList).1 (Lib.cut (sgn s.data.toList).2 [46]).1 (Lib.cut (sgn s.data.toList).2 [46]).2.1) else .tuple #[.string ⟨#[]⟩, .int .i64 6] := by
    unfold readSaid readP
    rw [splitP_ok]
    by_cases h : okP (sgn s.data.toList).2 = true
    · rw [if_pos h, if_pos h]; rfl
    · rw [if_neg h, if_neg h]; rfl
  rw [hrp]
  clear hrp
  have k0 : ∀ W : World, Rec (W.alloc (.cells #[.bool false, .slice none 0 0, .int .i64 0] 44)) W.heap.size false (.slice none 0 0) 0 := fun W => heap_new _ _ rfl
  have K0 := Lib.hid k0
  clear k0
  by_cases hok : okP (sgn s.data.toList).2 = true
  · rw [if_pos hok]
    obtain ⟨ha, hb⟩ := okP_all hok
    obtain ⟨N, hN⟩ : ∃ N, N = (sgn s.data.toList).1 := ⟨_, rfl⟩
    obtain ⟨sc, hsc⟩ : ∃ sc, sc = (Lib.cut (sgn s.data.toList).2 [46]).2.1.length := ⟨_, rfl⟩
    obtain ⟨ds, hds⟩ : ∃ ds, ds = revD ((Lib.cut (sgn s.data.toList).2 [46]).1 ++ (Lib.cut (sgn s.data.toList).2 [46]).2.1) := ⟨_, rfl⟩
    have hfr := form_read N _ _ ha hb
    rw [← hds, ← hsc] at hfr
    rw [← hN, ← hfr]
    have hsm : Small ds := by rw [hds]; exact small_rev _ (by rw [List.all_append, ha, hb]; rfl)
    have hlen : sc ≤ 1000000000 ∧ ds.length ≤ 1000000000 := by
      have h1 := cut_sum (sgn s.data.toList).2
      have h2 := sgn_len s.data.toList
      have h3 : s.data.toList.length = s.size := Array.length_toList
      rw [hsc, hds, revD_len, List.length_append]; omega
    have HC : Hid (∀ W, Calls Tryd.prog 37 #[.string s] W fun e w' => ∃ v, e = .returned (.tuple #[.agg #[.bool N, v, .int .i64 sc], .bool true]) ∧ Ints w' v ds ∧ Below W.heap.size W w') :=
      Lib.hid fun W => refParsedYes s W hs hok N ds sc (Lib.hid hN) (Lib.hid hds) (Lib.hid hsc)
    obtain ⟨t, er, hv0⟩ := said_form (formP N ds sc)
    rw [hv0]
    have HV0 := Lib.hid hv0
    have HL := Lib.hid hlen
    have HS := Lib.hid hsm
    clear hlen hsm hv0 hfr hN hsc hds ha hb hok
    go_enter Tryd.func12, Tryd.ntmps12
    go_wp2_with (first
      | (go_at_call 37; (with_reducible refine (HC.out _).mono ?_); rintro e w1 ⟨v, rfl, hi, hb1⟩; have HI := Lib.hid (And.intro hi hb1); have k1 := K0.out w1; clear hi hb1)
      | ((with_reducible refine wpList_store44 (m := N) (u := v) (sd := sc) (.tmp 4) (.tmp 9) w1.heap.size k1 (ints_one HI.out.1) ?_ ?_ ?_ ?_ ?_); rfl; rfl; rfl; rfl; intro w2 ho p1; have hb2 := below_only ((Below.refl w1.heap.size w1).alloc (Nat.le_refl _) _) ho (Nat.le_refl _) (Nat.le_of_lt k1.lt); have HI2 := Lib.hid (HI.out.1.below hb2); have HB2 := Lib.hid (below_any HI.out.2 hb2 HI.out.2.size); clear hb2 ho)
      | ((with_reducible refine wpList_load44 (.tmp 4) w1.heap.size p1 ?_ ?_ ?_ ?_); rfl; rfl; rfl)
      | (go_at_call 38; (with_reducible refine (refFormS N v ds sc w2 HI2.out HS.out HL.out.1 HL.out.2 t er HV0).mono ?_); rintro e w3 ⟨rfl, hb3⟩; have HB3 := Lib.hid (below_any HB2.out hb3 HB2.out.size); clear hb3))
    go_ret2
    exact ⟨rfl, HB3.out⟩
  · rw [if_neg hok]
    have HC : Hid (∀ W, Calls Tryd.prog 37 #[.string s] W fun e w' => e = .returned (.tuple #[.agg #[.bool false, .slice none 0 0, .int .i64 0], .bool false]) ∧ Below W.heap.size W w') :=
      Lib.hid fun W => refParsedNo s W hs (by simpa using hok)
    clear hok
    go_enter Tryd.func12, Tryd.ntmps12
    go_wp2_with (first
      | (go_at_call 37; (with_reducible refine (HC.out _).mono ?_); rintro e w1 ⟨rfl, hb1⟩; have HB := Lib.hid hb1; have k1 := K0.out w1; clear hb1)
      | ((with_reducible refine wpList_store44 (m := false) (u := .slice none 0 0) (sd := 0) (.tmp 4) (.tmp 9) w1.heap.size k1 rfl ?_ ?_ ?_ ?_ ?_); rfl; rfl; rfl; rfl; intro w2 ho p1; have hb2 := below_only ((Below.refl w1.heap.size w1).alloc (Nat.le_refl _) _) ho (Nat.le_refl _) (Nat.le_of_lt k1.lt); have HB2 := Lib.hid (below_any HB.out hb2 HB.out.size); clear hb2 ho))
    go_ret2
    exact ⟨rfl, HB2.out⟩

set_option maxRecDepth 20000 in
theorem refCheck (s : ByteArray) (w : World) (hs : s.size ≤ 1000000000) :
    Calls Tryd.prog 16 #[.string s] w fun e w' => e = .returned (.bool (chk s.data.toList)) ∧ Below w.heap.size w w' := by
  obtain ⟨t, k, hv, hk, ht⟩ := readV_form (readP s.data.toList)
  have hc : ∀ W, Calls Tryd.prog 12 #[.string s] W fun e w' => e = .returned (.tuple #[.string t, .int .i64 k]) ∧ Below W.heap.size W w' := fun W => by
    have := refRead s W hs
    unfold readSaid at this
    rwa [hv] at this
  have HC := Lib.hid hc
  clear hc hv
  by_cases h : chk s.data.toList = true
  · have hr : readP s.data.toList = some (some s.data.toList) := by simpa [chk] using h
    obtain rfl : k = 0 := hk.2 ⟨_, hr⟩
    obtain rfl : t = s := by rw [ht _ hr]
    rw [h]
    have HH := Lib.hid h
    clear h hr hk ht
    go_enter Tryd.func16, Tryd.ntmps16
    go_wp2_with (go_at_call 12; (with_reducible refine (HC.out _).mono ?_); rintro e w1 ⟨rfl, hb⟩)
    go_ret
    exact ⟨rfl, hb⟩
  · have hf : chk s.data.toList = false := by simpa using h
    rw [hf]
    by_cases h0 : k = 0
    · subst h0
      obtain ⟨l, hl⟩ := hk.1 rfl
      have hne : ¬ t = s := by
        rw [ht _ hl]
        intro e
        apply h
        unfold chk
        rw [hl, ← e]
        simp
      have e2 : (t.toList == s.toList) = false := beq_eq_false_iff_ne.2 (fun e => hne (bytes_ext (by rw [← ByteArray.toList_eq, ← ByteArray.toList_eq]; exact e)))
      clear h hf hk ht hl hne
      go_enter Tryd.func16, Tryd.ntmps16
      go_wp2_with (go_at_call 12; (with_reducible refine (HC.out _).mono ?_); rintro e w1 ⟨rfl, hb⟩)
      go_ret
      exact ⟨rfl, hb⟩
    · have e0 : (k == 0) = false := by simpa using h0
      clear h hf hk ht
      go_enter Tryd.func16, Tryd.ntmps16
      go_wp2_with (go_at_call 12; (with_reducible refine (HC.out _).mono ?_); rintro e w1 ⟨rfl, hb⟩)
      go_ret
      exact ⟨rfl, hb⟩
theorem refCheckB (s : ByteArray) (d : Bool) (w : World) (hs : s.size ≤ 1000000000) (hd : Hid (d = chk s.data.toList)) :
    Calls Tryd.prog 16 #[.string s] w fun e w' => e = .returned (.bool d) ∧ Below w.heap.size w w' := by
  rw [hd.out]; exact refCheck s w hs
end Go.Proofs.YtabgilmehehbjaaDoor

/- Both texts as numbers of the document's, and whether they are decimals. -/
namespace Go.Proofs.YtabgilmehehbjaaDoor
open Go.RowKit

theorem yieldsIf_load44 {ops : Array Oper} {S : World → Prop} {op : Oper} {a : Act} (hw : Region.wanted op (yielded ops a.tmps) = true) (x : Operand) (ho : op.op = .load 44 x)
    (g : Nat) (hx : a.eval x = .pointer (some ⟨g, 0, none⟩)) (n : Bool) (v : Value) (sc : Int) (hS : ∀ w, S w → Rec w g n v sc) : YieldsIf Tryd.prog ops S op (.agg #[.bool n, v, .int .i64 sc]) a :=
  .inl ⟨hw, fun w hw' => by
    unfold execOp
    simp only [ho, hx, Instr.loadAt, Instr.sureAddr, Sem.run_bind, Sem.run_pure, Result.andThen_ok, run_loadVar_row (P := Tryd.prog) w g 44 44 _ (0, 0) _ (hS w hw') Tryd.underlying44 rfl (by exact info44)]⟩
theorem wp_store44 {op : Oper} {a : Act} {w : World} {K : Act → World → Prop} {Q : Exit → Act → World → Prop} {n m : Bool} {v u : Value} {sc sd : Int} (x y : Operand) (ho : op.op = .store 44 x y) (g : Nat)
    (hx : a.eval x = .pointer (some ⟨g, 0, none⟩)) (hy : a.eval y = .agg #[.bool m, u, .int .i64 sd]) (hg : Rec w g n v sc) (h1 : u.oneCell' = true) (h : ∀ w', Only g w w' → Rec w' g m u sd → K (a.put op.dst undef) w') : op.wp Tryd.prog a w K Q := by
  unfold Oper.wp execOp
  simp only [ho, hx, hy, Instr.storeAt, Instr.sureAddr, Sem.run_bind, Sem.run_pure, Result.andThen_ok, run_storeVar_row (P := Tryd.prog) w g 44 44 _ #[.bool m, u, .int .i64 sd] hg (by exact info44) rfl (by simp [h1]; exact ⟨rfl, rfl⟩)]
  exact h _ (Only.setRow w _) (heap_setRow hg)
theorem Ints.rec {w w' : World} {v z : Value} {ds : List Nat} {g : Nat} {n : Bool} {k : Int} (h : Ints w v ds) (ho : Only g w w') (hg : Rec w g n z k) : Ints w' v ds := h.only ho hg (by decide)
theorem rec_new (W : World) {g : Nat} (e : W.heap.size = g) : Rec (W.alloc (.cells #[.bool false, .slice none 0 0, .int .i64 0] 44)) g false (.slice none 0 0) 0 := heap_new _ _ e

/-- What is known within the last statement of 'two'. -/
structure TwoS (w : World) (g7 g9 : Nat) (N1 : Bool) (u : Value) (s1 : Int) (d1 : List Nat) (N2 : Bool) (v : Value) (s2 : Int) (d2 : List Nat) (w' : World) : Prop where
  r7 : Rec w' g7 N1 u s1
  r9 : Rec w' g9 N2 v s2
  r4 : ∃ n z k, Rec w' w.heap.size n z k
  r5 : ∃ n z k, Rec w' (w.heap.size + 1) n z k
  i1 : Ints w' u d1
  i2 : Ints w' v d2
  bel : Below w.heap.size w w'
  n7 : w.heap.size + 2 ≤ g7
  n9 : w.heap.size + 2 ≤ g9
theorem TwoS.below {w w' w2 : World} {g7 g9 : Nat} {N1 N2 : Bool} {u v : Value} {s1 s2 : Int} {d1 d2 : List Nat} (h : TwoS w g7 g9 N1 u s1 d1 N2 v s2 d2 w') (k : Below w'.heap.size w' w2) : TwoS w g7 g9 N1 u s1 d1 N2 v s2 d2 w2 := by
  obtain ⟨n4, z4, k4, r4⟩ := h.r4
  obtain ⟨n5, z5, k5, r5⟩ := h.r5
  exact ⟨h.r7.below k, h.r9.below k, ⟨_, _, _, r4.below k⟩, ⟨_, _, _, r5.below k⟩, h.i1.below k, h.i2.below k, below_any h.bel k (Nat.le_of_lt r4.lt), h.n7, h.n9⟩
theorem TwoS.set4 {w w' w2 : World} {g7 g9 : Nat} {N1 N2 n : Bool} {u v z : Value} {s1 s2 k : Int} {d1 d2 : List Nat} (h : TwoS w g7 g9 N1 u s1 d1 N2 v s2 d2 w') (ho : Only w.heap.size w' w2) (hr : Rec w2 w.heap.size n z k) : TwoS w g7 g9 N1 u s1 d1 N2 v s2 d2 w2 := by
  obtain ⟨n4, z4, k4, r4⟩ := h.r4
  obtain ⟨n5, z5, k5, r5⟩ := h.r5
  have a := h.n7
  have b := h.n9
  exact ⟨h.r7.only ho (by omega), h.r9.only ho (by omega), ⟨_, _, _, hr⟩, ⟨_, _, _, r5.only ho (by omega)⟩, h.i1.rec ho r4, h.i2.rec ho r4, below_only h.bel ho (Nat.le_refl _) (Nat.le_of_lt r4.lt), h.n7, h.n9⟩
theorem TwoS.set5 {w w' w2 : World} {g7 g9 : Nat} {N1 N2 n : Bool} {u v z : Value} {s1 s2 k : Int} {d1 d2 : List Nat} (h : TwoS w g7 g9 N1 u s1 d1 N2 v s2 d2 w') (ho : Only (w.heap.size + 1) w' w2) (hr : Rec w2 (w.heap.size + 1) n z k) : TwoS w g7 g9 N1 u s1 d1 N2 v s2 d2 w2 := by
  obtain ⟨n4, z4, k4, r4⟩ := h.r4
  obtain ⟨n5, z5, k5, r5⟩ := h.r5
  have a := h.n7
  have b := h.n9
  exact ⟨h.r7.only ho (by omega), h.r9.only ho (by omega), ⟨_, _, _, r4.only ho (by omega)⟩, ⟨_, _, _, hr⟩, h.i1.rec ho r5, h.i2.rec ho r5, below_only h.bel ho (by omega) (Nat.le_of_lt r4.lt), h.n7, h.n9⟩
/-- The result of 'two'. -/
theorem results442 {fn : Func} {p p2 q : Tmp} (h : fn.results = #[.cell p 44, .cell p2 44, .tmp q]) (tmps : Array Value) {w : World} {g g2 : Nat} {n n2 : Bool} {v v2 : Value} {sc sc2 : Int} (x : Value)
    (hp : tmps.getD p undef = .pointer (some ⟨g, 0, none⟩)) (hp2 : tmps.getD p2 undef = .pointer (some ⟨g2, 0, none⟩)) (hq : tmps.getD q undef = x) (hg : Rec w g n v sc) (hg2 : Rec w g2 n2 v2 sc2) : (results fn tmps).run Tryd.prog w = .ok (.tuple #[.agg #[.bool n, v, .int .i64 sc], .agg #[.bool n2, v2, .int .i64 sc2], x]) w := by
  have hp' : tmps[p]?.getD undef = .pointer (some ⟨g, 0, none⟩) := by simpa using hp
  have hp2' : tmps[p2]?.getD undef = .pointer (some ⟨g2, 0, none⟩) := by simpa using hp2
  have hq' : tmps[q]?.getD undef = x := by simpa using hq
  have hl := run_loadVar_row (P := Tryd.prog) w g 44 44 _ (0, 0) _ hg Tryd.underlying44 rfl (by exact info44)
  have hl2 := run_loadVar_row (P := Tryd.prog) w g2 44 44 _ (0, 0) _ hg2 Tryd.underlying44 rfl (by exact info44)
  simp [results, h, hp', hp2', hq', asAddr, hl, hl2]
def ParsedAs (s : ByteArray) (N : Bool) (sc : Int) (ds : List Nat) (o : Bool) : Prop :=
  ∀ W, Calls Tryd.prog 37 #[.string s] W fun e w' => ∃ u, e = .returned (.tuple #[.agg #[.bool N, u, .int .i64 sc], .bool o]) ∧ Ints w' u ds ∧ Below W.heap.size W w'
theorem ParsedAs.at {s : ByteArray} {N : Bool} {sc : Int} {ds : List Nat} {o : Bool} (h : ParsedAs s N sc ds o) (W : World) : Calls Tryd.prog 37 #[.string s] W fun e w' => ∃ u, e = .returned (.tuple #[.agg #[.bool N, u, .int .i64 sc], .bool o]) ∧ Ints w' u ds ∧ Below W.heap.size W w' := h W
def CheckedAs (s : ByteArray) (c : Bool) : Prop := ∀ W, Calls Tryd.prog 16 #[.string s] W fun e w' => e = .returned (.bool c) ∧ Below W.heap.size W w'
theorem CheckedAs.at {s : ByteArray} {c : Bool} (h : CheckedAs s c) (W : World) : Calls Tryd.prog 16 #[.string s] W fun e w' => e = .returned (.bool c) ∧ Below W.heap.size W w' := h W
end Go.Proofs.YtabgilmehehbjaaDoor

/- The sum of two numbers of the document's. -/
namespace Go.Proofs.YtabgilmehehbjaaDoor
open Go.RowKit

theorem wp_store44n {op : Oper} {a : Act} {w : World} {K : Act → World → Prop} {Q : Exit → Act → World → Prop} {n m : Bool} {v u : Value} {sc sd : Int} (x y : Operand) (ho : op.op = .store 44 x y) (hd : op.dst = none) (g : Nat)
    (hx : a.eval x = .pointer (some ⟨g, 0, none⟩)) (hy : a.eval y = .agg #[.bool m, u, .int .i64 sd]) (hg : Rec w g n v sc) (h1 : u.oneCell' = true) (h : ∀ w', Only g w w' → Rec w' g m u sd → K a w') : op.wp Tryd.prog a w K Q :=
  wp_store44 x y ho g hx hy hg h1 fun w' h1 h2 => by rw [hd]; exact h w' h1 h2
theorem refScaledA (neg : Bool) (v : Value) (ds : List Nat) (sc scale : Nat) (w : World) (h : Ints w v ds) (hs : sc ≤ scale) (l1 : scale ≤ 1000000000) (l2 : ds.length ≤ 1000000000) (xs : List Nat) (hx : Hid (xs = List.replicate (scale - sc) 0 ++ ds)) :
    Calls Tryd.prog 71 #[.agg #[.bool neg, v, .int .i64 sc], .int .i64 scale] w fun e w' => ∃ z, e = .returned z ∧ Ints w' z xs ∧ Below w.heap.size w w' := by
  rw [hx.out]; exact refScaled neg v ds sc scale w h hs l1 l2
/-- What is known within the last statements of 'plus'. -/
structure PlusS (w : World) (N1 : Bool) (u : Value) (s1 : Int) (N2 : Bool) (v : Value) (s2 : Int) (x : Value) (dx : List Nat) (y : Value) (dy : List Nat) (w' : World) : Prop where
  r2 : Rec w' w.heap.size N1 u s1
  r3 : Rec w' (w.heap.size + 1) N2 v s2
  r4 : ∃ n z k, Rec w' (w.heap.size + 2) n z k
  i1 : Ints w' x dx
  i2 : Ints w' y dy
  bel : Below w.heap.size w w'
theorem PlusS.below {w w' w2 : World} {N1 N2 : Bool} {u v x y : Value} {s1 s2 : Int} {dx dy : List Nat} (h : PlusS w N1 u s1 N2 v s2 x dx y dy w') (k : Below w'.heap.size w' w2) : PlusS w N1 u s1 N2 v s2 x dx y dy w2 :=
  ⟨h.r2.below k, h.r3.below k, (have ⟨n, z, q, r⟩ := h.r4; ⟨n, z, q, r.below k⟩), h.i1.below k, h.i2.below k, below_any h.bel k (Nat.le_of_lt h.r2.lt)⟩
/-- What plus tells: its sign, its digits. -/
def PlusPost (w : World) (V : Int) (L : Nat) (S : Int) (e : Ending) (w' : World) : Prop :=
  ∃ n z zs, e = .returned (.agg #[.bool n, z, .int .i64 S]) ∧ Ints w' z zs ∧ Small zs ∧ sv n (val10 zs) = V ∧ zs.length ≤ L ∧ Below w.heap.size w w'

theorem sv_sum (n : Bool) {a b c : Nat} (h : c = a + b) : sv n c = sv n a + sv n b := by
  unfold sv; cases n <;> simp <;> omega
theorem sv_diff1 {n m : Bool} {a b c : Nat} (hn : n ≠ m) (h : c + b = a) : sv n c = sv n a + sv m b := by
  unfold sv; cases n <;> cases m <;> simp at hn ⊢ <;> omega
theorem sv_diff2 {n m : Bool} {a b c : Nat} (hn : n ≠ m) (h : c + a = b) : sv m c = sv n a + sv m b := by
  unfold sv; cases n <;> cases m <;> simp at hn ⊢ <;> omega
theorem pad_small {k : Nat} {ds : List Nat} (h : Small ds) : Small (List.replicate k 0 ++ ds) := small_pad h

set_option maxRecDepth 20000 in
set_option maxHeartbeats 3200000 in
theorem refPlus (N1 N2 : Bool) (u v : Value) (d1 d2 : List Nat) (s1 s2 S : Nat) (w : World) (I1 : Ints w u d1) (I2 : Ints w v d2) (sm1 : Small d1) (sm2 : Small d2) (h1 : s1 ≤ S) (h2 : s2 ≤ S) (h3 : S = s1 ∨ S = s2) (b1 : S ≤ 1000000) (l1 : d1.length ≤ 100000000) (l2 : d2.length ≤ 100000000) :
    Calls Tryd.prog 45 #[.agg #[.bool N1, u, .int .i64 s1], .agg #[.bool N2, v, .int .i64 s2]] w (PlusPost w (sv N1 (val10 d1 * 10 ^ (S - s1)) + sv N2 (val10 d2 * 10 ^ (S - s2))) (d1.length + d2.length + 2 * S + 1) S) := by
  obtain ⟨dx, hdx⟩ : ∃ dx, dx = List.replicate (S - s1) 0 ++ d1 := ⟨_, rfl⟩
  obtain ⟨dy, hdy⟩ : ∃ dy, dy = List.replicate (S - s2) 0 ++ d2 := ⟨_, rfl⟩
  have hvx : val10 d1 * 10 ^ (S - s1) = val10 dx := by rw [hdx, val10_shift]
  have hvy : val10 d2 * 10 ^ (S - s2) = val10 dy := by rw [hdy, val10_shift]
  have hlx : dx.length = S - s1 + d1.length := by rw [hdx, pad_len]
  have hly : dy.length = S - s2 + d2.length := by rw [hdy, pad_len]
  rw [hvx, hvy]
  have HDX := Lib.hid hdx
  have HDY := Lib.hid hdy
  have hlim : dx.length ≤ 1000000000 ∧ dy.length ≤ 1000000000 ∧ dx.length + dy.length + 1 ≤ d1.length + d2.length + 2 * S + 1 := by omega
  have HLX := Lib.hid hlim
  have hsm : Small dx ∧ Small dy ∧ True := by rw [hdx, hdy]; exact ⟨small_pad sm1, small_pad sm2, trivial⟩
  have HD := Lib.hid hsm
  have HL0 := Lib.hid (And.intro l1 l2)
  have HS3 := Lib.hid h3
  generalize d1.length + d2.length + 2 * S + 1 = L at *
  obtain ⟨V, hV⟩ : ∃ V, V = sv N1 (val10 dx) + sv N2 (val10 dy) := ⟨_, rfl⟩
  rw [← hV]
  have HVS := Lib.hid hV.symm
  have o1 := ints_one I1
  have o2 := ints_one I2
  obtain ⟨W0, hW0⟩ : ∃ W0, W0 = ((w.alloc (.cells #[.bool N1, u, .int .i64 s1] 44)).alloc (.cells #[.bool N2, v, .int .i64 s2] 44)).alloc (.cells #[.bool false, .slice none 0 0, .int .i64 0] 44) := ⟨_, rfl⟩
  have R2 : Rec W0 w.heap.size N1 u s1 := by rw [hW0]; exact heap_old _ (heap_old _ (heap_new _ _ rfl))
  have R3 : Rec W0 (w.heap.size + 1) N2 v s2 := by rw [hW0]; exact heap_old _ (heap_new _ _ (by simp))
  have R4 : Rec W0 (w.heap.size + 2) false (.slice none 0 0) 0 := by rw [hW0]; exact heap_new _ _ (by simp)
  have hb0 : Below w.heap.size w W0 := by rw [hW0]; exact (((Below.refl _ _).alloc (Nat.le_refl _) _).alloc (by simp) _).alloc (by simp; omega) _
  have HR := Lib.hid (And.intro R2 (And.intro R3 (And.intro R4 hb0)))
  have HI1 := Lib.hid (I1.below hb0)
  have HI2 := Lib.hid (I2.below hb0)
  have HW0 := Lib.hid hW0
  clear hvx hvy hlx hly hdx hdy hlim hsm sm1 sm2 I1 I2 l1 l2 h3 hV R2 R3 R4 hb0 hW0
  go_enter Tryd.func45, Tryd.ntmps45
  go_upto_if 13 with fail
  go_cut [5] (fun s5 wx => s5 = .int .i64 S ∧ wx = W0)
  case first =>
    by_cases hs : (s2 : Int) > s1
    · obtain rfl : S = s2 := by have := HS3.out; omega
      go_wp2_with fail
      go_meet
      case rel => exact ⟨rfl, HW0.out.symm⟩
    · obtain rfl : S = s1 := by have := HS3.out; omega
      go_wp2_with fail
      go_meet
      case rel => exact ⟨rfl, HW0.out.symm⟩
  case rest =>
    obtain ⟨rfl, rfl⟩ := hcut
    have r2 := HR.out.1
    have r3 := HR.out.2.1
    go_upto_region 6 with (first
      | ((with_reducible refine wpList_load44 (.tmp 2) w.heap.size r2 ?_ ?_ ?_ ?_); rfl; rfl; rfl)
      | (go_at_call 71; (with_reducible refine (refScaledA N1 u d1 s1 S _ HI1.out h1 (by omega) (by have := HL0.out; omega) dx HDX).mono ?_); rintro e wa ⟨x, rfl, hx, hba⟩; have r3a := r3.below hba; have HA := Lib.hid (And.intro hx hba); clear hx hba r2)
      | ((with_reducible refine wpList_load44 (.tmp 3) (w.heap.size + 1) r3a ?_ ?_ ?_ ?_); rfl; rfl; rfl)
      | (go_at_call 71; (with_reducible refine (refScaledA N2 v d2 s2 S _ (HI2.out.below HA.out.2) h2 (by omega) (by have := HL0.out; omega) dy HDY).mono ?_); rintro e wb ⟨y, rfl, hy, hbb⟩; have HB := Lib.hid (And.intro hy hbb); clear hy hbb r3a r3))
    have HS : Hid (PlusS w N1 u s1 N2 v s2 x dx y dy wb) := Lib.hid ⟨(HR.out.1.below HA.out.2).below HB.out.2, (HR.out.2.1.below HA.out.2).below HB.out.2, ⟨_, _, _, (HR.out.2.2.1.below HA.out.2).below HB.out.2⟩, HA.out.1.below HB.out.2, HB.out.1, below_any (below_any HR.out.2.2.2 HA.out.2 HR.out.2.2.2.size) HB.out.2 (Nat.le_trans HR.out.2.2.2.size HA.out.2.size)⟩
    clear HR HA HB HI1 HI2 HL0 HS3 HDX HDY
    have c2 := HS.out.r2.c0
    have c3 := HS.out.r3.c0
    by_cases hN : N1 = N2
    · subst hN
      have HV : Hid (V = sv N1 (val10 dx + val10 dy)) := Lib.hid (by rw [← HVS.out]; exact (sv_sum N1 rfl).symm)
      go_wp2_with fail
      clear c2 c3
      refine wp_region_held_drew (S := PlusS w N1 u s1 N1 v s2 x dx y dy) (by kernel_rfl) (by have h := HS.out; exact ⟨h.r2, h.r3, h.r4, h.i1, h.i2, h.bel.drew⟩) (fun hHeld => ?_)
      refine wpAnyH_take (i := 0) (v := .pointer (some ⟨w.heap.size, 0, none⟩)) rfl (by kernel_rfl) (by kernel_rfl) (by kernel_rfl) (fun _ _ _ h => h) (Or.inl ⟨by rfl, fun W _ => by go_simp⟩) hHeld ?_
      try simp only [Act.put, List.getElem_toArray, List.getElem_cons_succ, List.getElem_cons_zero, List.setIfInBounds_toArray, List.set_cons_zero, List.set_cons_succ]
      refine wpAnyH_take (i := 1) (v := .bool N1) rfl (by kernel_rfl) (by kernel_rfl) (by kernel_rfl) (fun _ _ _ h => h) (Or.inl ⟨by rfl, fun W h => by have c0 := h.r2.c0; go_simp⟩) hHeld ?_
      try simp only [Act.put, List.getElem_toArray, List.getElem_cons_succ, List.getElem_cons_zero, List.setIfInBounds_toArray, List.set_cons_zero, List.set_cons_succ]
      refine wpAnyH_take (i := 2) (v := x) rfl (by kernel_rfl) (by kernel_rfl) (by kernel_rfl) (fun _ _ _ h => h) (Or.inl ⟨by rfl, fun W _ => by go_simp⟩) hHeld ?_
      try simp only [Act.put, List.getElem_toArray, List.getElem_cons_succ, List.getElem_cons_zero, List.setIfInBounds_toArray, List.set_cons_zero, List.set_cons_succ]
      refine wpAnyH_take (i := 3) (v := y) rfl (by kernel_rfl) (by kernel_rfl) (by kernel_rfl) (fun _ _ _ h => h) (Or.inl ⟨by rfl, fun W _ => by go_simp⟩) hHeld ?_
      try simp only [Act.put, List.getElem_toArray, List.getElem_cons_succ, List.getElem_cons_zero, List.setIfInBounds_toArray, List.set_cons_zero, List.set_cons_succ]
      refine wpAnyH_take (i := 5) (v := .int .i64 S) rfl (by kernel_rfl) (by kernel_rfl) (by kernel_rfl) (fun _ _ _ h => h) (Or.inl ⟨by rfl, fun W _ => by go_simp⟩) hHeld ?_
      try simp only [Act.put, List.getElem_toArray, List.getElem_cons_succ, List.getElem_cons_zero, List.setIfInBounds_toArray, List.set_cons_zero, List.set_cons_succ]
      refine wpAnyH_ready (rs := [4]) (by kernel_rfl) (by simp) ?_
      refine AllReadyH.cons rfl (fun K hK => ?_) AllReadyH.nil
      go_simp
      refine (refAdd x y dx dy _ hHeld.i1 hHeld.i2 HD.out.1 HD.out.2.1 HLX.out.1 HLX.out.2.1).mono ?_
      rintro e wc ⟨z, zs, rfl, hz, hzs, hv, hl, hbc⟩
      obtain ⟨pz, capz, rfl⟩ := hz.form
      have HVZ := Lib.hid hv.out
      have HLZ := Lib.hid hl
      clear hv hl
      refine hK.out _ _ (hHeld.below hbc) (fun hHeld2 => ?_)
      clear hK K hbc hHeld
      have hHeld := hHeld2
      clear hHeld2
      try simp only [Act.put, List.getElem_toArray, List.getElem_cons_succ, List.getElem_cons_zero, List.setIfInBounds_toArray, List.set_cons_zero, List.set_cons_succ]
      refine wpAnyH_take (i := 6) (v := .agg #[.bool N1, .slice pz zs.length capz, .int .i64 S]) rfl (by kernel_rfl) (by kernel_rfl) (by kernel_rfl) (fun _ _ _ h => h) (Or.inl ⟨by rfl, fun W _ => by go_simp⟩) hHeld ?_
      try simp only [Act.put, List.getElem_toArray, List.getElem_cons_succ, List.getElem_cons_zero, List.setIfInBounds_toArray, List.set_cons_zero, List.set_cons_succ]
      obtain ⟨n4, z4, k4, r4⟩ := hHeld.r4
      have hlt := hHeld.r2.lt
      have hzone := ints_one hz
      refine wpAnyH_ready (rs := [7]) (by kernel_rfl) (by simp) ?_
      refine AllReadyH.cons rfl (fun K hK => ?_) AllReadyH.nil
      rw [if_pos (by rfl)]
      refine wp_store44n (.tmp 4) (.tmp 33) rfl rfl (w.heap.size + 2) rfl rfl r4 hzone (fun w5 ho5 x4 => ?_)
      have hz5 := hz.rec ho5 r4
      have hb5 := below_only hHeld.bel ho5 (by omega) (Nat.le_of_lt hlt)
      refine hK.out _ _ ⟨hHeld.r2.only ho5 (by omega), hHeld.r3.only ho5 (by omega), ⟨_, _, _, x4⟩, hHeld.i1.rec ho5 r4, hHeld.i2.rec ho5 r4, hb5⟩ (fun hHeld2 => ?_)
      have HZ5 := Lib.hid (And.intro hz5 (And.intro hzs hb5))
      clear hK K ho5 hz hz5 hzs hb5 r4 hHeld hHeld2
      try simp only [Act.put, List.getElem_toArray, List.getElem_cons_succ, List.getElem_cons_zero, List.setIfInBounds_toArray, List.set_cons_zero, List.set_cons_succ]
      refine wpAnyH_done (by kernel_rfl) ?_ _
      go_wp2_with fail
      exact bodyPost_ret (v := .agg #[.bool N1, .slice pz zs.length capz, .int .i64 S]) (results44one (p := 4) Tryd.results45 _ rfl x4) rfl ⟨N1, _, zs, rfl, HZ5.out.1, HZ5.out.2.1, by rw [HVZ.out]; exact HV.out.symm, by have := HLZ.out; have := HLX.out; omega, HZ5.out.2.2⟩
    · have HNE := Lib.hid hN
      have hNb : (N1 == N2) = false := by simpa using hN
      have J1 := Lib.hid HS.out.i1
      have J2 := Lib.hid HS.out.i2
      obtain ⟨r, hr⟩ : ∃ r, r = cmpZ (val10 dx) (val10 dy) := ⟨_, rfl⟩
      have HRR := Lib.hid hr
      clear hN hr
      by_cases hlt0 : val10 dx < val10 dy
      · have HLE := Lib.hid hlt0
        obtain rfl : r = -1 := by rw [HRR.out]; unfold cmpZ; rw [if_pos (by omega)]
        clear hlt0
        go_wp2_with (go_at_call 73; (with_reducible refine (refCompare x y dx dy _ J1.out J2.out HD.out.1 HD.out.2.1 (by have := HLX.out; omega) (by have := HLX.out; omega) _ HRR.out).mono ?_); rintro e w' ⟨rfl, rfl⟩)
        clear c2 c3
        refine wp_region_held_drew (S := PlusS w N1 u s1 N2 v s2 x dx y dy) (by kernel_rfl) (by have h := HS.out; exact ⟨h.r2, h.r3, h.r4, h.i1, h.i2, h.bel.drew⟩) (fun hHeld => ?_)
        refine wpAnyH_take (i := 0) (v := .pointer (some ⟨w.heap.size + 1, 0, none⟩)) rfl (by kernel_rfl) (by kernel_rfl) (by kernel_rfl) (fun _ _ _ h => h) (Or.inl ⟨by rfl, fun W _ => by go_simp⟩) hHeld ?_
        try simp only [Act.put, List.getElem_toArray, List.getElem_cons_succ, List.getElem_cons_zero, List.setIfInBounds_toArray, List.set_cons_zero, List.set_cons_succ]
        refine wpAnyH_take (i := 1) (v := .bool N2) rfl (by kernel_rfl) (by kernel_rfl) (by kernel_rfl) (fun _ _ _ h => h) (Or.inl ⟨by rfl, fun W h => by have c0 := h.r3.c0; go_simp⟩) hHeld ?_
        try simp only [Act.put, List.getElem_toArray, List.getElem_cons_succ, List.getElem_cons_zero, List.setIfInBounds_toArray, List.set_cons_zero, List.set_cons_succ]
        refine wpAnyH_take (i := 2) (v := y) rfl (by kernel_rfl) (by kernel_rfl) (by kernel_rfl) (fun _ _ _ h => h) (Or.inl ⟨by rfl, fun W _ => by go_simp⟩) hHeld ?_
        try simp only [Act.put, List.getElem_toArray, List.getElem_cons_succ, List.getElem_cons_zero, List.setIfInBounds_toArray, List.set_cons_zero, List.set_cons_succ]
        refine wpAnyH_take (i := 3) (v := x) rfl (by kernel_rfl) (by kernel_rfl) (by kernel_rfl) (fun _ _ _ h => h) (Or.inl ⟨by rfl, fun W _ => by go_simp⟩) hHeld ?_
        try simp only [Act.put, List.getElem_toArray, List.getElem_cons_succ, List.getElem_cons_zero, List.setIfInBounds_toArray, List.set_cons_zero, List.set_cons_succ]
        refine wpAnyH_take (i := 5) (v := .int .i64 S) rfl (by kernel_rfl) (by kernel_rfl) (by kernel_rfl) (fun _ _ _ h => h) (Or.inl ⟨by rfl, fun W _ => by go_simp⟩) hHeld ?_
        try simp only [Act.put, List.getElem_toArray, List.getElem_cons_succ, List.getElem_cons_zero, List.setIfInBounds_toArray, List.set_cons_zero, List.set_cons_succ]
        refine wpAnyH_ready (rs := [4]) (by kernel_rfl) (by simp) ?_
        refine AllReadyH.cons rfl (fun K hK => ?_) AllReadyH.nil
        go_simp
        refine (refSub y x dy dx _ hHeld.i2 hHeld.i1 HD.out.2.1 HD.out.1 (by have := HLE.out; omega) HLX.out.2.1).mono ?_
        rintro e wc ⟨z, zs, rfl, hz, hzs, hv, hl, hbc⟩
        obtain ⟨pz, capz, rfl⟩ := hz.form
        have HVZ := Lib.hid hv.out
        have HLZ := Lib.hid hl
        clear hv hl
        refine hK.out _ _ (hHeld.below hbc) (fun hHeld2 => ?_)
        clear hK K hbc hHeld
        have hHeld := hHeld2
        clear hHeld2
        try simp only [Act.put, List.getElem_toArray, List.getElem_cons_succ, List.getElem_cons_zero, List.setIfInBounds_toArray, List.set_cons_zero, List.set_cons_succ]
        refine wpAnyH_take (i := 6) (v := .agg #[.bool N2, .slice pz zs.length capz, .int .i64 S]) rfl (by kernel_rfl) (by kernel_rfl) (by kernel_rfl) (fun _ _ _ h => h) (Or.inl ⟨by rfl, fun W _ => by go_simp⟩) hHeld ?_
        try simp only [Act.put, List.getElem_toArray, List.getElem_cons_succ, List.getElem_cons_zero, List.setIfInBounds_toArray, List.set_cons_zero, List.set_cons_succ]
        obtain ⟨n4, z4, k4, r4⟩ := hHeld.r4
        have hlt := hHeld.r2.lt
        have hzone := ints_one hz
        refine wpAnyH_ready (rs := [7]) (by kernel_rfl) (by simp) ?_
        refine AllReadyH.cons rfl (fun K hK => ?_) AllReadyH.nil
        rw [if_pos (by rfl)]
        refine wp_store44n (.tmp 4) (.tmp 44) rfl rfl (w.heap.size + 2) rfl rfl r4 hzone (fun w5 ho5 x4 => ?_)
        have hz5 := hz.rec ho5 r4
        have hb5 := below_only hHeld.bel ho5 (by omega) (Nat.le_of_lt hlt)
        refine hK.out _ _ ⟨hHeld.r2.only ho5 (by omega), hHeld.r3.only ho5 (by omega), ⟨_, _, _, x4⟩, hHeld.i1.rec ho5 r4, hHeld.i2.rec ho5 r4, hb5⟩ (fun hHeld2 => ?_)
        have HZ5 := Lib.hid (And.intro hz5 (And.intro hzs hb5))
        clear hK K ho5 hz hz5 hzs hb5 r4 hHeld hHeld2
        try simp only [Act.put, List.getElem_toArray, List.getElem_cons_succ, List.getElem_cons_zero, List.setIfInBounds_toArray, List.set_cons_zero, List.set_cons_succ]
        refine wpAnyH_done (by kernel_rfl) ?_ _
        go_wp2_with fail
        exact bodyPost_ret (v := .agg #[.bool N2, .slice pz zs.length capz, .int .i64 S]) (results44one (p := 4) Tryd.results45 _ rfl x4) rfl ⟨N2, _, zs, rfl, HZ5.out.1, HZ5.out.2.1, by rw [← HVS.out]; exact sv_diff2 HNE.out HVZ.out, by have := HLZ.out; have := HLX.out; omega, HZ5.out.2.2⟩
      · have HLE := Lib.hid hlt0
        have hrn : ¬ r < 0 := by rw [HRR.out]; unfold cmpZ; rw [if_neg (by omega)]; split <;> omega
        clear hlt0
        go_wp2_with (go_at_call 73; (with_reducible refine (refCompare x y dx dy _ J1.out J2.out HD.out.1 HD.out.2.1 (by have := HLX.out; omega) (by have := HLX.out; omega) _ HRR.out).mono ?_); rintro e w' ⟨rfl, rfl⟩)
        clear c2 c3
        refine wp_region_held_drew (S := PlusS w N1 u s1 N2 v s2 x dx y dy) (by kernel_rfl) (by have h := HS.out; exact ⟨h.r2, h.r3, h.r4, h.i1, h.i2, h.bel.drew⟩) (fun hHeld => ?_)
        refine wpAnyH_take (i := 0) (v := .pointer (some ⟨w.heap.size, 0, none⟩)) rfl (by kernel_rfl) (by kernel_rfl) (by kernel_rfl) (fun _ _ _ h => h) (Or.inl ⟨by rfl, fun W _ => by go_simp⟩) hHeld ?_
        try simp only [Act.put, List.getElem_toArray, List.getElem_cons_succ, List.getElem_cons_zero, List.setIfInBounds_toArray, List.set_cons_zero, List.set_cons_succ]
        refine wpAnyH_take (i := 1) (v := .bool N1) rfl (by kernel_rfl) (by kernel_rfl) (by kernel_rfl) (fun _ _ _ h => h) (Or.inl ⟨by rfl, fun W h => by have c0 := h.r2.c0; go_simp⟩) hHeld ?_
        try simp only [Act.put, List.getElem_toArray, List.getElem_cons_succ, List.getElem_cons_zero, List.setIfInBounds_toArray, List.set_cons_zero, List.set_cons_succ]
        refine wpAnyH_take (i := 2) (v := x) rfl (by kernel_rfl) (by kernel_rfl) (by kernel_rfl) (fun _ _ _ h => h) (Or.inl ⟨by rfl, fun W _ => by go_simp⟩) hHeld ?_
        try simp only [Act.put, List.getElem_toArray, List.getElem_cons_succ, List.getElem_cons_zero, List.setIfInBounds_toArray, List.set_cons_zero, List.set_cons_succ]
        refine wpAnyH_take (i := 3) (v := y) rfl (by kernel_rfl) (by kernel_rfl) (by kernel_rfl) (fun _ _ _ h => h) (Or.inl ⟨by rfl, fun W _ => by go_simp⟩) hHeld ?_
        try simp only [Act.put, List.getElem_toArray, List.getElem_cons_succ, List.getElem_cons_zero, List.setIfInBounds_toArray, List.set_cons_zero, List.set_cons_succ]
        refine wpAnyH_take (i := 5) (v := .int .i64 S) rfl (by kernel_rfl) (by kernel_rfl) (by kernel_rfl) (fun _ _ _ h => h) (Or.inl ⟨by rfl, fun W _ => by go_simp⟩) hHeld ?_
        try simp only [Act.put, List.getElem_toArray, List.getElem_cons_succ, List.getElem_cons_zero, List.setIfInBounds_toArray, List.set_cons_zero, List.set_cons_succ]
        refine wpAnyH_ready (rs := [4]) (by kernel_rfl) (by simp) ?_
        refine AllReadyH.cons rfl (fun K hK => ?_) AllReadyH.nil
        go_simp
        refine (refSub x y dx dy _ hHeld.i1 hHeld.i2 HD.out.1 HD.out.2.1 (by have := HLE.out; omega) HLX.out.1).mono ?_
        rintro e wc ⟨z, zs, rfl, hz, hzs, hv, hl, hbc⟩
        obtain ⟨pz, capz, rfl⟩ := hz.form
        have HVZ := Lib.hid hv.out
        have HLZ := Lib.hid hl
        clear hv hl
        refine hK.out _ _ (hHeld.below hbc) (fun hHeld2 => ?_)
        clear hK K hbc hHeld
        have hHeld := hHeld2
        clear hHeld2
        try simp only [Act.put, List.getElem_toArray, List.getElem_cons_succ, List.getElem_cons_zero, List.setIfInBounds_toArray, List.set_cons_zero, List.set_cons_succ]
        refine wpAnyH_take (i := 6) (v := .agg #[.bool N1, .slice pz zs.length capz, .int .i64 S]) rfl (by kernel_rfl) (by kernel_rfl) (by kernel_rfl) (fun _ _ _ h => h) (Or.inl ⟨by rfl, fun W _ => by go_simp⟩) hHeld ?_
        try simp only [Act.put, List.getElem_toArray, List.getElem_cons_succ, List.getElem_cons_zero, List.setIfInBounds_toArray, List.set_cons_zero, List.set_cons_succ]
        obtain ⟨n4, z4, k4, r4⟩ := hHeld.r4
        have hlt := hHeld.r2.lt
        have hzone := ints_one hz
        refine wpAnyH_ready (rs := [7]) (by kernel_rfl) (by simp) ?_
        refine AllReadyH.cons rfl (fun K hK => ?_) AllReadyH.nil
        rw [if_pos (by rfl)]
        refine wp_store44n (.tmp 4) (.tmp 51) rfl rfl (w.heap.size + 2) rfl rfl r4 hzone (fun w5 ho5 x4 => ?_)
        have hz5 := hz.rec ho5 r4
        have hb5 := below_only hHeld.bel ho5 (by omega) (Nat.le_of_lt hlt)
        refine hK.out _ _ ⟨hHeld.r2.only ho5 (by omega), hHeld.r3.only ho5 (by omega), ⟨_, _, _, x4⟩, hHeld.i1.rec ho5 r4, hHeld.i2.rec ho5 r4, hb5⟩ (fun hHeld2 => ?_)
        have HZ5 := Lib.hid (And.intro hz5 (And.intro hzs hb5))
        clear hK K ho5 hz hz5 hzs hb5 r4 hHeld hHeld2
        try simp only [Act.put, List.getElem_toArray, List.getElem_cons_succ, List.getElem_cons_zero, List.setIfInBounds_toArray, List.set_cons_zero, List.set_cons_succ]
        refine wpAnyH_done (by kernel_rfl) ?_ _
        go_wp2_with fail
        exact bodyPost_ret (v := .agg #[.bool N1, .slice pz zs.length capz, .int .i64 S]) (results44one (p := 4) Tryd.results45 _ rfl x4) rfl ⟨N1, _, zs, rfl, HZ5.out.1, HZ5.out.2.1, by rw [← HVS.out]; exact sv_diff1 HNE.out HVZ.out, by have := HLZ.out; have := HLX.out; omega, HZ5.out.2.2⟩
end Go.Proofs.YtabgilmehehbjaaDoor

/- Both texts as numbers: four ways. -/
namespace Go.Proofs.YtabgilmehehbjaaDoor
open Go.RowKit

set_option maxRecDepth 20000 in
set_option maxHeartbeats 3200000 in
theorem two_ttt (s t : ByteArray) (N1 N2 : Bool) (s1 s2 : Int) (d1 d2 : List Nat) (c2 : Bool) (w : World) (P1 : Hid (ParsedAs s N1 s1 d1 true)) (P2 : Hid (ParsedAs t N2 s2 d2 true)) (C1 : Hid (CheckedAs s true)) (C2 : Hid (CheckedAs t c2)) :
    Calls Tryd.prog 44 #[.string s, .string t] w fun e w' => ∃ u v, e = .returned (.tuple #[.agg #[.bool N1, u, .int .i64 s1], .agg #[.bool N2, v, .int .i64 s2], .bool c2]) ∧ Ints w' u d1 ∧ Ints w' v d2 ∧ Below w.heap.size w w' := by
  have q4 : Rec ((w.alloc (.cells #[.bool false, .slice none 0 0, .int .i64 0] 44)).alloc (.cells #[.bool false, .slice none 0 0, .int .i64 0] 44)) w.heap.size false (.slice none 0 0) 0 := (rec_new w rfl).alloc _
  have q5 : Rec ((w.alloc (.cells #[.bool false, .slice none 0 0, .int .i64 0] 44)).alloc (.cells #[.bool false, .slice none 0 0, .int .i64 0] 44)) (w.heap.size + 1) false (.slice none 0 0) 0 := rec_new _ (by simp)
  have hb0 : Below w.heap.size w ((w.alloc (.cells #[.bool false, .slice none 0 0, .int .i64 0] 44)).alloc (.cells #[.bool false, .slice none 0 0, .int .i64 0] 44)) := ((Below.refl _ _).alloc (Nat.le_refl _) _).alloc (by simp) _
  have Q4 := Lib.hid q4
  have Q5 := Lib.hid q5
  have HB0 := Lib.hid hb0
  clear q4 q5 hb0
  go_enter Tryd.func44, Tryd.ntmps44
  go_wp2_with (first
    | (go_at_call 37; (with_reducible refine (P1.out.at _).mono ?_); rintro e w1 ⟨u, rfl, hi, hb⟩; have z7 := rec_new w1 rfl; have A4 := Lib.hid ((Q4.out.below hb).alloc (.cells #[.bool false, .slice none 0 0, .int .i64 0] 44)); have A5 := Lib.hid ((Q5.out.below hb).alloc (.cells #[.bool false, .slice none 0 0, .int .i64 0] 44)); have hs7 : w.heap.size + 2 ≤ w1.heap.size := by have := hb.size; simp at this; omega
       have AB := Lib.hid ((below_any HB0.out hb HB0.out.size).alloc (by omega) (.cells #[.bool false, .slice none 0 0, .int .i64 0] 44)); have AI := Lib.hid (hi.below ((Below.refl w1.heap.size w1).alloc (Nat.le_refl _) (.cells #[.bool false, .slice none 0 0, .int .i64 0] 44))); have HO := Lib.hid (ints_one hi); clear hb hi)
    | ((with_reducible refine wpList_store44 (m := N1) (u := u) (sd := s1) (.tmp 7) (.tmp 14) w1.heap.size z7 HO.out ?_ ?_ ?_ ?_ ?_); rfl; rfl; rfl; rfl; intro w2 ho p7; have B4 := Lib.hid (A4.out.only ho (by omega)); have B5 := Lib.hid (A5.out.only ho (by omega)); have BI := Lib.hid (AI.out.rec ho z7); have BB := Lib.hid (below_only AB.out ho (by omega) (Nat.le_of_lt A4.out.lt)); clear ho AB AI z7)
    | (go_at_call 37; (with_reducible refine (P2.out.at _).mono ?_); rintro e w3 ⟨v, rfl, hi, hb⟩; have z9 := rec_new w3 rfl; have hs9 : w1.heap.size + 1 ≤ w3.heap.size := by have := hb.size; have := p7.lt; omega
       have D4 := Lib.hid ((B4.out.below hb).alloc (.cells #[.bool false, .slice none 0 0, .int .i64 0] 44)); have D5 := Lib.hid ((B5.out.below hb).alloc (.cells #[.bool false, .slice none 0 0, .int .i64 0] 44)); have D7 := Lib.hid ((p7.below hb).alloc (.cells #[.bool false, .slice none 0 0, .int .i64 0] 44)); have DB := Lib.hid ((below_any BB.out hb BB.out.size).alloc (by omega) (.cells #[.bool false, .slice none 0 0, .int .i64 0] 44)); have DI := Lib.hid ((BI.out.below hb).below ((Below.refl w3.heap.size w3).alloc (Nat.le_refl _) (.cells #[.bool false, .slice none 0 0, .int .i64 0] 44))); have DJ := Lib.hid (hi.below ((Below.refl w3.heap.size w3).alloc (Nat.le_refl _) (.cells #[.bool false, .slice none 0 0, .int .i64 0] 44))); have HO2 := Lib.hid (ints_one hi); clear hb hi)
    | ((with_reducible refine wpList_store44 (m := N2) (u := v) (sd := s2) (.tmp 9) (.tmp 19) w3.heap.size z9 HO2.out ?_ ?_ ?_ ?_ ?_); rfl; rfl; rfl; rfl; intro w4 ho p9; have HT0 : Hid (TwoS w w1.heap.size w3.heap.size N1 u s1 d1 N2 v s2 d2 w4) := Lib.hid ⟨D7.out.only ho (by omega), p9, ⟨_, _, _, D4.out.only ho (by omega)⟩, ⟨_, _, _, D5.out.only ho (by omega)⟩, DI.out.rec ho z9, DJ.out.rec ho z9, below_only DB.out ho (by omega) (Nat.le_of_lt D4.out.lt), by omega, by omega⟩; clear ho z9 DB DI DJ p7 p9))
  refine wp_region_held_drew (S := TwoS w w1.heap.size w3.heap.size N1 u s1 d1 N2 v s2 d2) (by kernel_rfl) (by have h := HT0.out; exact ⟨h.r7, h.r9, h.r4, h.r5, h.i1, h.i2, h.bel.drew, h.n7, h.n9⟩) (fun hHeld => ?_)
  refine wpAnyH_take (i := 0) rfl (by kernel_rfl) (by kernel_rfl) (by kernel_rfl) (fun _ _ _ h => h) (yieldsIf_load44 (by rfl) (.tmp 7) rfl w1.heap.size rfl N1 u s1 (fun _ h => h.r7)) hHeld ?_
  try simp only [Act.put, List.getElem_toArray, List.getElem_cons_succ, List.getElem_cons_zero, List.setIfInBounds_toArray, List.set_cons_zero, List.set_cons_succ]
  refine wpAnyH_take (i := 1) rfl (by kernel_rfl) (by kernel_rfl) (by kernel_rfl) (fun _ _ _ h => h) (yieldsIf_load44 (by rfl) (.tmp 9) rfl w3.heap.size rfl N2 v s2 (fun _ h => h.r9)) hHeld ?_
  try simp only [Act.put, List.getElem_toArray, List.getElem_cons_succ, List.getElem_cons_zero, List.setIfInBounds_toArray, List.set_cons_zero, List.set_cons_succ]
  refine wpAnyH_take (i := 2) (v := .bool true) rfl (by kernel_rfl) (by kernel_rfl) (by kernel_rfl) (fun _ _ _ h => h) (Or.inl ⟨by rfl, fun W _ => by go_simp⟩) hHeld ?_
  try simp only [Act.put, List.getElem_toArray, List.getElem_cons_succ, List.getElem_cons_zero, List.setIfInBounds_toArray, List.set_cons_zero, List.set_cons_succ]
  refine wpAnyH_take (i := 3) (v := .bool true) rfl (by kernel_rfl) (by kernel_rfl) (by kernel_rfl) (fun _ _ _ h => h) (Or.inl ⟨by rfl, fun W _ => by go_simp⟩) hHeld ?_
  try simp only [Act.put, List.getElem_toArray, List.getElem_cons_succ, List.getElem_cons_zero, List.setIfInBounds_toArray, List.set_cons_zero, List.set_cons_succ]
  refine wpAnyH_take (i := 4) (v := .bool true) rfl (by kernel_rfl) (by kernel_rfl) (by kernel_rfl) (fun _ _ _ h => h) (Or.inl ⟨by rfl, fun W _ => by go_simp⟩) hHeld ?_
  try simp only [Act.put, List.getElem_toArray, List.getElem_cons_succ, List.getElem_cons_zero, List.setIfInBounds_toArray, List.set_cons_zero, List.set_cons_succ]
  refine wpAnyH_take (i := 5) (v := .bool true) rfl (by kernel_rfl) (by kernel_rfl) (by kernel_rfl) (fun _ _ _ h => h) (Or.inl ⟨by rfl, fun W _ => by go_simp⟩) hHeld ?_
  try simp only [Act.put, List.getElem_toArray, List.getElem_cons_succ, List.getElem_cons_zero, List.setIfInBounds_toArray, List.set_cons_zero, List.set_cons_succ]
  refine wpAnyH_take (i := 6) (v := .bool true) rfl (by kernel_rfl) (by kernel_rfl) (by kernel_rfl) (fun _ _ _ h => h) (Or.inl ⟨by rfl, fun W _ => by go_simp⟩) hHeld ?_
  try simp only [Act.put, List.getElem_toArray, List.getElem_cons_succ, List.getElem_cons_zero, List.setIfInBounds_toArray, List.set_cons_zero, List.set_cons_succ]
  refine wpAnyH_take (i := 7) (v := .string s) rfl (by kernel_rfl) (by kernel_rfl) (by kernel_rfl) (fun _ _ _ h => h) (Or.inl ⟨by rfl, fun W _ => by go_simp⟩) hHeld ?_
  try simp only [Act.put, List.getElem_toArray, List.getElem_cons_succ, List.getElem_cons_zero, List.setIfInBounds_toArray, List.set_cons_zero, List.set_cons_succ]
  refine wpAnyH_ready (rs := [8]) (by kernel_rfl) (by simp) ?_
  refine AllReadyH.cons rfl (fun K hK => ?_) AllReadyH.nil
  go_simp
  refine (C1.out.at _).mono ?_
  rintro e wc8 ⟨rfl, hbc⟩
  refine hK.out _ _ (hHeld.below hbc) (fun hHeld2 => ?_)
  clear hK K hbc hHeld
  have hHeld := hHeld2
  clear hHeld2
  try simp only [Act.put, List.getElem_toArray, List.getElem_cons_succ, List.getElem_cons_zero, List.setIfInBounds_toArray, List.set_cons_zero, List.set_cons_succ]
  refine wpAnyH_take (i := 9) (v := .bool true) rfl (by kernel_rfl) (by kernel_rfl) (by kernel_rfl) (fun _ _ _ h => h) (Or.inl ⟨by rfl, fun W _ => by go_simp⟩) hHeld ?_
  try simp only [Act.put, List.getElem_toArray, List.getElem_cons_succ, List.getElem_cons_zero, List.setIfInBounds_toArray, List.set_cons_zero, List.set_cons_succ]
  refine wpAnyH_take (i := 10) (v := .bool true) rfl (by kernel_rfl) (by kernel_rfl) (by kernel_rfl) (fun _ _ _ h => h) (Or.inl ⟨by rfl, fun W _ => by go_simp⟩) hHeld ?_
  try simp only [Act.put, List.getElem_toArray, List.getElem_cons_succ, List.getElem_cons_zero, List.setIfInBounds_toArray, List.set_cons_zero, List.set_cons_succ]
  refine wpAnyH_take (i := 11) (v := .string t) rfl (by kernel_rfl) (by kernel_rfl) (by kernel_rfl) (fun _ _ _ h => h) (Or.inl ⟨by rfl, fun W _ => by go_simp⟩) hHeld ?_
  try simp only [Act.put, List.getElem_toArray, List.getElem_cons_succ, List.getElem_cons_zero, List.setIfInBounds_toArray, List.set_cons_zero, List.set_cons_succ]
  refine wpAnyH_ready (rs := [12]) (by kernel_rfl) (by simp) ?_
  refine AllReadyH.cons rfl (fun K hK => ?_) AllReadyH.nil
  go_simp
  refine (C2.out.at _).mono ?_
  rintro e wc12 ⟨rfl, hbc⟩
  refine hK.out _ _ (hHeld.below hbc) (fun hHeld2 => ?_)
  clear hK K hbc hHeld
  have hHeld := hHeld2
  clear hHeld2
  try simp only [Act.put, List.getElem_toArray, List.getElem_cons_succ, List.getElem_cons_zero, List.setIfInBounds_toArray, List.set_cons_zero, List.set_cons_succ]
  refine wpAnyH_take (i := 13) (v := .bool c2) rfl (by kernel_rfl) (by kernel_rfl) (by kernel_rfl) (fun _ _ _ h => h) (Or.inl ⟨by rfl, fun W _ => by go_simp⟩) hHeld ?_
  try simp only [Act.put, List.getElem_toArray, List.getElem_cons_succ, List.getElem_cons_zero, List.setIfInBounds_toArray, List.set_cons_zero, List.set_cons_succ]
  obtain ⟨n4, z4, k4, e4⟩ := hHeld.r4
  have one1 := HO.out
  have one2 := HO2.out
  refine wpAnyH_ready (rs := [14]) (by kernel_rfl) (by simp) ?_
  refine AllReadyH.cons rfl (fun K hK => ?_) AllReadyH.nil
  rw [if_pos (by rfl)]
  refine wp_store44 (.tmp 4) (.tmp 21) rfl w.heap.size rfl rfl e4 one1 (fun w5 ho5 x4 => ?_)
  refine hK.out _ _ (hHeld.set4 ho5 x4) (fun hHeld2 => ?_)
  clear hK K ho5 e4 hHeld
  have hHeld := hHeld2
  clear hHeld2
  try simp only [Act.put, List.getElem_toArray, List.getElem_cons_succ, List.getElem_cons_zero, List.setIfInBounds_toArray, List.set_cons_zero, List.set_cons_succ]
  obtain ⟨n5, z5, k5, e5⟩ := hHeld.r5
  refine wpAnyH_ready (rs := [15]) (by kernel_rfl) (by simp) ?_
  refine AllReadyH.cons rfl (fun K hK => ?_) AllReadyH.nil
  rw [if_pos (by rfl)]
  refine wp_store44 (.tmp 5) (.tmp 22) rfl (w.heap.size + 1) rfl rfl e5 one2 (fun w6 ho6 x5 => ?_)
  have y4 := x4.only ho6 (by omega)
  refine hK.out _ _ (hHeld.set5 ho6 x5) (fun hHeld2 => ?_)
  clear hK K ho6 e5 hHeld
  have hHeld := hHeld2
  clear hHeld2
  try simp only [Act.put, List.getElem_toArray, List.getElem_cons_succ, List.getElem_cons_zero, List.setIfInBounds_toArray, List.set_cons_zero, List.set_cons_succ]
  refine wpAnyH_ready (rs := [16]) (by kernel_rfl) (by simp) ?_
  refine AllReadyH.cons rfl (fun K hK => ?_) AllReadyH.nil
  go_simp
  refine hK.out _ _ hHeld (fun hHeld2 => ?_)
  have HF := Lib.hid hHeld
  clear hK K hHeld2 hHeld
  try simp only [Act.put, List.getElem_toArray, List.getElem_cons_succ, List.getElem_cons_zero, List.setIfInBounds_toArray, List.set_cons_zero, List.set_cons_succ]
  refine wpAnyH_done (by kernel_rfl) ?_ _
  go_wp2_with fail
  exact bodyPost_ret (v := .tuple #[.agg #[.bool N1, u, .int .i64 s1], .agg #[.bool N2, v, .int .i64 s2], .bool c2]) (results442 (p := 4) (p2 := 5) (q := 6) Tryd.results44 _ (.bool c2) rfl rfl rfl y4 x5) rfl ⟨u, v, rfl, HF.out.i1, HF.out.i2, HF.out.bel⟩

set_option maxRecDepth 20000 in
set_option maxHeartbeats 3200000 in
theorem two_f (s t : ByteArray) (N1 N2 : Bool) (s1 s2 : Int) (d1 d2 : List Nat) (o2 c1 c2 : Bool) (w : World) (P1 : Hid (ParsedAs s N1 s1 d1 false)) (P2 : Hid (ParsedAs t N2 s2 d2 o2)) (C1 : Hid (CheckedAs s c1)) (C2 : Hid (CheckedAs t c2)) :
    Calls Tryd.prog 44 #[.string s, .string t] w fun e w' => ∃ u v, e = .returned (.tuple #[.agg #[.bool N1, u, .int .i64 s1], .agg #[.bool N2, v, .int .i64 s2], .bool false]) ∧ Ints w' u d1 ∧ Ints w' v d2 ∧ Below w.heap.size w w' := by
  have q4 : Rec ((w.alloc (.cells #[.bool false, .slice none 0 0, .int .i64 0] 44)).alloc (.cells #[.bool false, .slice none 0 0, .int .i64 0] 44)) w.heap.size false (.slice none 0 0) 0 := (rec_new w rfl).alloc _
  have q5 : Rec ((w.alloc (.cells #[.bool false, .slice none 0 0, .int .i64 0] 44)).alloc (.cells #[.bool false, .slice none 0 0, .int .i64 0] 44)) (w.heap.size + 1) false (.slice none 0 0) 0 := rec_new _ (by simp)
  have hb0 : Below w.heap.size w ((w.alloc (.cells #[.bool false, .slice none 0 0, .int .i64 0] 44)).alloc (.cells #[.bool false, .slice none 0 0, .int .i64 0] 44)) := ((Below.refl _ _).alloc (Nat.le_refl _) _).alloc (by simp) _
  have Q4 := Lib.hid q4
  have Q5 := Lib.hid q5
  have HB0 := Lib.hid hb0
  clear q4 q5 hb0
  go_enter Tryd.func44, Tryd.ntmps44
  go_wp2_with (first
    | (go_at_call 37; (with_reducible refine (P1.out.at _).mono ?_); rintro e w1 ⟨u, rfl, hi, hb⟩; have z7 := rec_new w1 rfl; have A4 := Lib.hid ((Q4.out.below hb).alloc (.cells #[.bool false, .slice none 0 0, .int .i64 0] 44)); have A5 := Lib.hid ((Q5.out.below hb).alloc (.cells #[.bool false, .slice none 0 0, .int .i64 0] 44)); have hs7 : w.heap.size + 2 ≤ w1.heap.size := by have := hb.size; simp at this; omega
       have AB := Lib.hid ((below_any HB0.out hb HB0.out.size).alloc (by omega) (.cells #[.bool false, .slice none 0 0, .int .i64 0] 44)); have AI := Lib.hid (hi.below ((Below.refl w1.heap.size w1).alloc (Nat.le_refl _) (.cells #[.bool false, .slice none 0 0, .int .i64 0] 44))); have HO := Lib.hid (ints_one hi); clear hb hi)
    | ((with_reducible refine wpList_store44 (m := N1) (u := u) (sd := s1) (.tmp 7) (.tmp 14) w1.heap.size z7 HO.out ?_ ?_ ?_ ?_ ?_); rfl; rfl; rfl; rfl; intro w2 ho p7; have B4 := Lib.hid (A4.out.only ho (by omega)); have B5 := Lib.hid (A5.out.only ho (by omega)); have BI := Lib.hid (AI.out.rec ho z7); have BB := Lib.hid (below_only AB.out ho (by omega) (Nat.le_of_lt A4.out.lt)); clear ho AB AI z7)
    | (go_at_call 37; (with_reducible refine (P2.out.at _).mono ?_); rintro e w3 ⟨v, rfl, hi, hb⟩; have z9 := rec_new w3 rfl; have hs9 : w1.heap.size + 1 ≤ w3.heap.size := by have := hb.size; have := p7.lt; omega
       have D4 := Lib.hid ((B4.out.below hb).alloc (.cells #[.bool false, .slice none 0 0, .int .i64 0] 44)); have D5 := Lib.hid ((B5.out.below hb).alloc (.cells #[.bool false, .slice none 0 0, .int .i64 0] 44)); have D7 := Lib.hid ((p7.below hb).alloc (.cells #[.bool false, .slice none 0 0, .int .i64 0] 44)); have DB := Lib.hid ((below_any BB.out hb BB.out.size).alloc (by omega) (.cells #[.bool false, .slice none 0 0, .int .i64 0] 44)); have DI := Lib.hid ((BI.out.below hb).below ((Below.refl w3.heap.size w3).alloc (Nat.le_refl _) (.cells #[.bool false, .slice none 0 0, .int .i64 0] 44))); have DJ := Lib.hid (hi.below ((Below.refl w3.heap.size w3).alloc (Nat.le_refl _) (.cells #[.bool false, .slice none 0 0, .int .i64 0] 44))); have HO2 := Lib.hid (ints_one hi); clear hb hi)
    | ((with_reducible refine wpList_store44 (m := N2) (u := v) (sd := s2) (.tmp 9) (.tmp 19) w3.heap.size z9 HO2.out ?_ ?_ ?_ ?_ ?_); rfl; rfl; rfl; rfl; intro w4 ho p9; have HT0 : Hid (TwoS w w1.heap.size w3.heap.size N1 u s1 d1 N2 v s2 d2 w4) := Lib.hid ⟨D7.out.only ho (by omega), p9, ⟨_, _, _, D4.out.only ho (by omega)⟩, ⟨_, _, _, D5.out.only ho (by omega)⟩, DI.out.rec ho z9, DJ.out.rec ho z9, below_only DB.out ho (by omega) (Nat.le_of_lt D4.out.lt), by omega, by omega⟩; clear ho z9 DB DI DJ p7 p9))
  refine wp_region_held_drew (S := TwoS w w1.heap.size w3.heap.size N1 u s1 d1 N2 v s2 d2) (by kernel_rfl) (by have h := HT0.out; exact ⟨h.r7, h.r9, h.r4, h.r5, h.i1, h.i2, h.bel.drew, h.n7, h.n9⟩) (fun hHeld => ?_)
  refine wpAnyH_take (i := 0) rfl (by kernel_rfl) (by kernel_rfl) (by kernel_rfl) (fun _ _ _ h => h) (yieldsIf_load44 (by rfl) (.tmp 7) rfl w1.heap.size rfl N1 u s1 (fun _ h => h.r7)) hHeld ?_
  try simp only [Act.put, List.getElem_toArray, List.getElem_cons_succ, List.getElem_cons_zero, List.setIfInBounds_toArray, List.set_cons_zero, List.set_cons_succ]
  refine wpAnyH_take (i := 1) rfl (by kernel_rfl) (by kernel_rfl) (by kernel_rfl) (fun _ _ _ h => h) (yieldsIf_load44 (by rfl) (.tmp 9) rfl w3.heap.size rfl N2 v s2 (fun _ h => h.r9)) hHeld ?_
  try simp only [Act.put, List.getElem_toArray, List.getElem_cons_succ, List.getElem_cons_zero, List.setIfInBounds_toArray, List.set_cons_zero, List.set_cons_succ]
  refine wpAnyH_take (i := 2) (v := .bool false) rfl (by kernel_rfl) (by kernel_rfl) (by kernel_rfl) (fun _ _ _ h => h) (Or.inl ⟨by rfl, fun W _ => by go_simp⟩) hHeld ?_
  try simp only [Act.put, List.getElem_toArray, List.getElem_cons_succ, List.getElem_cons_zero, List.setIfInBounds_toArray, List.set_cons_zero, List.set_cons_succ]
  refine wpAnyH_take (i := 3) (v := .bool false) rfl (by kernel_rfl) (by kernel_rfl) (by kernel_rfl) (fun _ _ _ h => h) (Or.inl ⟨by rfl, fun W _ => by go_simp⟩) hHeld ?_
  try simp only [Act.put, List.getElem_toArray, List.getElem_cons_succ, List.getElem_cons_zero, List.setIfInBounds_toArray, List.set_cons_zero, List.set_cons_succ]
  refine wpAnyH_take (i := 4) (v := undef) rfl (by kernel_rfl) (by kernel_rfl) (by kernel_rfl) (fun _ _ _ h => h) (Or.inr ⟨by rfl, rfl⟩) hHeld ?_
  try simp only [Act.put, List.getElem_toArray, List.getElem_cons_succ, List.getElem_cons_zero, List.setIfInBounds_toArray, List.set_cons_zero, List.set_cons_succ]
  refine wpAnyH_take (i := 5) (v := .bool false) rfl (by kernel_rfl) (by kernel_rfl) (by kernel_rfl) (fun _ _ _ h => h) (Or.inl ⟨by rfl, fun W _ => by go_simp⟩) hHeld ?_
  try simp only [Act.put, List.getElem_toArray, List.getElem_cons_succ, List.getElem_cons_zero, List.setIfInBounds_toArray, List.set_cons_zero, List.set_cons_succ]
  refine wpAnyH_take (i := 6) (v := .bool false) rfl (by kernel_rfl) (by kernel_rfl) (by kernel_rfl) (fun _ _ _ h => h) (Or.inl ⟨by rfl, fun W _ => by go_simp⟩) hHeld ?_
  try simp only [Act.put, List.getElem_toArray, List.getElem_cons_succ, List.getElem_cons_zero, List.setIfInBounds_toArray, List.set_cons_zero, List.set_cons_succ]
  refine wpAnyH_take (i := 7) (v := undef) rfl (by kernel_rfl) (by kernel_rfl) (by kernel_rfl) (fun _ _ _ h => h) (Or.inr ⟨by rfl, rfl⟩) hHeld ?_
  try simp only [Act.put, List.getElem_toArray, List.getElem_cons_succ, List.getElem_cons_zero, List.setIfInBounds_toArray, List.set_cons_zero, List.set_cons_succ]
  refine wpAnyH_take (i := 8) (v := undef) rfl (by kernel_rfl) (by kernel_rfl) (by kernel_rfl) (fun _ _ _ h => h) (Or.inr ⟨by rfl, rfl⟩) hHeld ?_
  try simp only [Act.put, List.getElem_toArray, List.getElem_cons_succ, List.getElem_cons_zero, List.setIfInBounds_toArray, List.set_cons_zero, List.set_cons_succ]
  refine wpAnyH_take (i := 9) (v := .bool false) rfl (by kernel_rfl) (by kernel_rfl) (by kernel_rfl) (fun _ _ _ h => h) (Or.inl ⟨by rfl, fun W _ => by go_simp⟩) hHeld ?_
  try simp only [Act.put, List.getElem_toArray, List.getElem_cons_succ, List.getElem_cons_zero, List.setIfInBounds_toArray, List.set_cons_zero, List.set_cons_succ]
  refine wpAnyH_take (i := 10) (v := .bool false) rfl (by kernel_rfl) (by kernel_rfl) (by kernel_rfl) (fun _ _ _ h => h) (Or.inl ⟨by rfl, fun W _ => by go_simp⟩) hHeld ?_
  try simp only [Act.put, List.getElem_toArray, List.getElem_cons_succ, List.getElem_cons_zero, List.setIfInBounds_toArray, List.set_cons_zero, List.set_cons_succ]
  refine wpAnyH_take (i := 11) (v := undef) rfl (by kernel_rfl) (by kernel_rfl) (by kernel_rfl) (fun _ _ _ h => h) (Or.inr ⟨by rfl, rfl⟩) hHeld ?_
  try simp only [Act.put, List.getElem_toArray, List.getElem_cons_succ, List.getElem_cons_zero, List.setIfInBounds_toArray, List.set_cons_zero, List.set_cons_succ]
  refine wpAnyH_take (i := 12) (v := undef) rfl (by kernel_rfl) (by kernel_rfl) (by kernel_rfl) (fun _ _ _ h => h) (Or.inr ⟨by rfl, rfl⟩) hHeld ?_
  try simp only [Act.put, List.getElem_toArray, List.getElem_cons_succ, List.getElem_cons_zero, List.setIfInBounds_toArray, List.set_cons_zero, List.set_cons_succ]
  refine wpAnyH_take (i := 13) (v := .bool false) rfl (by kernel_rfl) (by kernel_rfl) (by kernel_rfl) (fun _ _ _ h => h) (Or.inl ⟨by rfl, fun W _ => by go_simp⟩) hHeld ?_
  try simp only [Act.put, List.getElem_toArray, List.getElem_cons_succ, List.getElem_cons_zero, List.setIfInBounds_toArray, List.set_cons_zero, List.set_cons_succ]
  obtain ⟨n4, z4, k4, e4⟩ := hHeld.r4
  have one1 := HO.out
  have one2 := HO2.out
  refine wpAnyH_ready (rs := [14]) (by kernel_rfl) (by simp) ?_
  refine AllReadyH.cons rfl (fun K hK => ?_) AllReadyH.nil
  rw [if_pos (by rfl)]
  refine wp_store44 (.tmp 4) (.tmp 21) rfl w.heap.size rfl rfl e4 one1 (fun w5 ho5 x4 => ?_)
  refine hK.out _ _ (hHeld.set4 ho5 x4) (fun hHeld2 => ?_)
  clear hK K ho5 e4 hHeld
  have hHeld := hHeld2
  clear hHeld2
  try simp only [Act.put, List.getElem_toArray, List.getElem_cons_succ, List.getElem_cons_zero, List.setIfInBounds_toArray, List.set_cons_zero, List.set_cons_succ]
  obtain ⟨n5, z5, k5, e5⟩ := hHeld.r5
  refine wpAnyH_ready (rs := [15]) (by kernel_rfl) (by simp) ?_
  refine AllReadyH.cons rfl (fun K hK => ?_) AllReadyH.nil
  rw [if_pos (by rfl)]
  refine wp_store44 (.tmp 5) (.tmp 22) rfl (w.heap.size + 1) rfl rfl e5 one2 (fun w6 ho6 x5 => ?_)
  have y4 := x4.only ho6 (by omega)
  refine hK.out _ _ (hHeld.set5 ho6 x5) (fun hHeld2 => ?_)
  clear hK K ho6 e5 hHeld
  have hHeld := hHeld2
  clear hHeld2
  try simp only [Act.put, List.getElem_toArray, List.getElem_cons_succ, List.getElem_cons_zero, List.setIfInBounds_toArray, List.set_cons_zero, List.set_cons_succ]
  refine wpAnyH_ready (rs := [16]) (by kernel_rfl) (by simp) ?_
  refine AllReadyH.cons rfl (fun K hK => ?_) AllReadyH.nil
  go_simp
  refine hK.out _ _ hHeld (fun hHeld2 => ?_)
  have HF := Lib.hid hHeld
  clear hK K hHeld2 hHeld
  try simp only [Act.put, List.getElem_toArray, List.getElem_cons_succ, List.getElem_cons_zero, List.setIfInBounds_toArray, List.set_cons_zero, List.set_cons_succ]
  refine wpAnyH_done (by kernel_rfl) ?_ _
  go_wp2_with fail
  exact bodyPost_ret (v := .tuple #[.agg #[.bool N1, u, .int .i64 s1], .agg #[.bool N2, v, .int .i64 s2], .bool false]) (results442 (p := 4) (p2 := 5) (q := 6) Tryd.results44 _ (.bool false) rfl rfl rfl y4 x5) rfl ⟨u, v, rfl, HF.out.i1, HF.out.i2, HF.out.bel⟩

set_option maxRecDepth 20000 in
set_option maxHeartbeats 3200000 in
theorem two_tf (s t : ByteArray) (N1 N2 : Bool) (s1 s2 : Int) (d1 d2 : List Nat) (c1 c2 : Bool) (w : World) (P1 : Hid (ParsedAs s N1 s1 d1 true)) (P2 : Hid (ParsedAs t N2 s2 d2 false)) (C1 : Hid (CheckedAs s c1)) (C2 : Hid (CheckedAs t c2)) :
    Calls Tryd.prog 44 #[.string s, .string t] w fun e w' => ∃ u v, e = .returned (.tuple #[.agg #[.bool N1, u, .int .i64 s1], .agg #[.bool N2, v, .int .i64 s2], .bool false]) ∧ Ints w' u d1 ∧ Ints w' v d2 ∧ Below w.heap.size w w' := by
  have q4 : Rec ((w.alloc (.cells #[.bool false, .slice none 0 0, .int .i64 0] 44)).alloc (.cells #[.bool false, .slice none 0 0, .int .i64 0] 44)) w.heap.size false (.slice none 0 0) 0 := (rec_new w rfl).alloc _
  have q5 : Rec ((w.alloc (.cells #[.bool false, .slice none 0 0, .int .i64 0] 44)).alloc (.cells #[.bool false, .slice none 0 0, .int .i64 0] 44)) (w.heap.size + 1) false (.slice none 0 0) 0 := rec_new _ (by simp)
  have hb0 : Below w.heap.size w ((w.alloc (.cells #[.bool false, .slice none 0 0, .int .i64 0] 44)).alloc (.cells #[.bool false, .slice none 0 0, .int .i64 0] 44)) := ((Below.refl _ _).alloc (Nat.le_refl _) _).alloc (by simp) _
  have Q4 := Lib.hid q4
  have Q5 := Lib.hid q5
  have HB0 := Lib.hid hb0
  clear q4 q5 hb0
  go_enter Tryd.func44, Tryd.ntmps44
  go_wp2_with (first
    | (go_at_call 37; (with_reducible refine (P1.out.at _).mono ?_); rintro e w1 ⟨u, rfl, hi, hb⟩; have z7 := rec_new w1 rfl; have A4 := Lib.hid ((Q4.out.below hb).alloc (.cells #[.bool false, .slice none 0 0, .int .i64 0] 44)); have A5 := Lib.hid ((Q5.out.below hb).alloc (.cells #[.bool false, .slice none 0 0, .int .i64 0] 44)); have hs7 : w.heap.size + 2 ≤ w1.heap.size := by have := hb.size; simp at this; omega
       have AB := Lib.hid ((below_any HB0.out hb HB0.out.size).alloc (by omega) (.cells #[.bool false, .slice none 0 0, .int .i64 0] 44)); have AI := Lib.hid (hi.below ((Below.refl w1.heap.size w1).alloc (Nat.le_refl _) (.cells #[.bool false, .slice none 0 0, .int .i64 0] 44))); have HO := Lib.hid (ints_one hi); clear hb hi)
    | ((with_reducible refine wpList_store44 (m := N1) (u := u) (sd := s1) (.tmp 7) (.tmp 14) w1.heap.size z7 HO.out ?_ ?_ ?_ ?_ ?_); rfl; rfl; rfl; rfl; intro w2 ho p7; have B4 := Lib.hid (A4.out.only ho (by omega)); have B5 := Lib.hid (A5.out.only ho (by omega)); have BI := Lib.hid (AI.out.rec ho z7); have BB := Lib.hid (below_only AB.out ho (by omega) (Nat.le_of_lt A4.out.lt)); clear ho AB AI z7)
    | (go_at_call 37; (with_reducible refine (P2.out.at _).mono ?_); rintro e w3 ⟨v, rfl, hi, hb⟩; have z9 := rec_new w3 rfl; have hs9 : w1.heap.size + 1 ≤ w3.heap.size := by have := hb.size; have := p7.lt; omega
       have D4 := Lib.hid ((B4.out.below hb).alloc (.cells #[.bool false, .slice none 0 0, .int .i64 0] 44)); have D5 := Lib.hid ((B5.out.below hb).alloc (.cells #[.bool false, .slice none 0 0, .int .i64 0] 44)); have D7 := Lib.hid ((p7.below hb).alloc (.cells #[.bool false, .slice none 0 0, .int .i64 0] 44)); have DB := Lib.hid ((below_any BB.out hb BB.out.size).alloc (by omega) (.cells #[.bool false, .slice none 0 0, .int .i64 0] 44)); have DI := Lib.hid ((BI.out.below hb).below ((Below.refl w3.heap.size w3).alloc (Nat.le_refl _) (.cells #[.bool false, .slice none 0 0, .int .i64 0] 44))); have DJ := Lib.hid (hi.below ((Below.refl w3.heap.size w3).alloc (Nat.le_refl _) (.cells #[.bool false, .slice none 0 0, .int .i64 0] 44))); have HO2 := Lib.hid (ints_one hi); clear hb hi)
    | ((with_reducible refine wpList_store44 (m := N2) (u := v) (sd := s2) (.tmp 9) (.tmp 19) w3.heap.size z9 HO2.out ?_ ?_ ?_ ?_ ?_); rfl; rfl; rfl; rfl; intro w4 ho p9; have HT0 : Hid (TwoS w w1.heap.size w3.heap.size N1 u s1 d1 N2 v s2 d2 w4) := Lib.hid ⟨D7.out.only ho (by omega), p9, ⟨_, _, _, D4.out.only ho (by omega)⟩, ⟨_, _, _, D5.out.only ho (by omega)⟩, DI.out.rec ho z9, DJ.out.rec ho z9, below_only DB.out ho (by omega) (Nat.le_of_lt D4.out.lt), by omega, by omega⟩; clear ho z9 DB DI DJ p7 p9))
  refine wp_region_held_drew (S := TwoS w w1.heap.size w3.heap.size N1 u s1 d1 N2 v s2 d2) (by kernel_rfl) (by have h := HT0.out; exact ⟨h.r7, h.r9, h.r4, h.r5, h.i1, h.i2, h.bel.drew, h.n7, h.n9⟩) (fun hHeld => ?_)
  refine wpAnyH_take (i := 0) rfl (by kernel_rfl) (by kernel_rfl) (by kernel_rfl) (fun _ _ _ h => h) (yieldsIf_load44 (by rfl) (.tmp 7) rfl w1.heap.size rfl N1 u s1 (fun _ h => h.r7)) hHeld ?_
  try simp only [Act.put, List.getElem_toArray, List.getElem_cons_succ, List.getElem_cons_zero, List.setIfInBounds_toArray, List.set_cons_zero, List.set_cons_succ]
  refine wpAnyH_take (i := 1) rfl (by kernel_rfl) (by kernel_rfl) (by kernel_rfl) (fun _ _ _ h => h) (yieldsIf_load44 (by rfl) (.tmp 9) rfl w3.heap.size rfl N2 v s2 (fun _ h => h.r9)) hHeld ?_
  try simp only [Act.put, List.getElem_toArray, List.getElem_cons_succ, List.getElem_cons_zero, List.setIfInBounds_toArray, List.set_cons_zero, List.set_cons_succ]
  refine wpAnyH_take (i := 2) (v := .bool true) rfl (by kernel_rfl) (by kernel_rfl) (by kernel_rfl) (fun _ _ _ h => h) (Or.inl ⟨by rfl, fun W _ => by go_simp⟩) hHeld ?_
  try simp only [Act.put, List.getElem_toArray, List.getElem_cons_succ, List.getElem_cons_zero, List.setIfInBounds_toArray, List.set_cons_zero, List.set_cons_succ]
  refine wpAnyH_take (i := 3) (v := .bool true) rfl (by kernel_rfl) (by kernel_rfl) (by kernel_rfl) (fun _ _ _ h => h) (Or.inl ⟨by rfl, fun W _ => by go_simp⟩) hHeld ?_
  try simp only [Act.put, List.getElem_toArray, List.getElem_cons_succ, List.getElem_cons_zero, List.setIfInBounds_toArray, List.set_cons_zero, List.set_cons_succ]
  refine wpAnyH_take (i := 4) (v := .bool false) rfl (by kernel_rfl) (by kernel_rfl) (by kernel_rfl) (fun _ _ _ h => h) (Or.inl ⟨by rfl, fun W _ => by go_simp⟩) hHeld ?_
  try simp only [Act.put, List.getElem_toArray, List.getElem_cons_succ, List.getElem_cons_zero, List.setIfInBounds_toArray, List.set_cons_zero, List.set_cons_succ]
  refine wpAnyH_take (i := 5) (v := .bool false) rfl (by kernel_rfl) (by kernel_rfl) (by kernel_rfl) (fun _ _ _ h => h) (Or.inl ⟨by rfl, fun W _ => by go_simp⟩) hHeld ?_
  try simp only [Act.put, List.getElem_toArray, List.getElem_cons_succ, List.getElem_cons_zero, List.setIfInBounds_toArray, List.set_cons_zero, List.set_cons_succ]
  refine wpAnyH_take (i := 6) (v := .bool false) rfl (by kernel_rfl) (by kernel_rfl) (by kernel_rfl) (fun _ _ _ h => h) (Or.inl ⟨by rfl, fun W _ => by go_simp⟩) hHeld ?_
  try simp only [Act.put, List.getElem_toArray, List.getElem_cons_succ, List.getElem_cons_zero, List.setIfInBounds_toArray, List.set_cons_zero, List.set_cons_succ]
  refine wpAnyH_take (i := 7) (v := undef) rfl (by kernel_rfl) (by kernel_rfl) (by kernel_rfl) (fun _ _ _ h => h) (Or.inr ⟨by rfl, rfl⟩) hHeld ?_
  try simp only [Act.put, List.getElem_toArray, List.getElem_cons_succ, List.getElem_cons_zero, List.setIfInBounds_toArray, List.set_cons_zero, List.set_cons_succ]
  refine wpAnyH_take (i := 8) (v := undef) rfl (by kernel_rfl) (by kernel_rfl) (by kernel_rfl) (fun _ _ _ h => h) (Or.inr ⟨by rfl, rfl⟩) hHeld ?_
  try simp only [Act.put, List.getElem_toArray, List.getElem_cons_succ, List.getElem_cons_zero, List.setIfInBounds_toArray, List.set_cons_zero, List.set_cons_succ]
  refine wpAnyH_take (i := 9) (v := .bool false) rfl (by kernel_rfl) (by kernel_rfl) (by kernel_rfl) (fun _ _ _ h => h) (Or.inl ⟨by rfl, fun W _ => by go_simp⟩) hHeld ?_
  try simp only [Act.put, List.getElem_toArray, List.getElem_cons_succ, List.getElem_cons_zero, List.setIfInBounds_toArray, List.set_cons_zero, List.set_cons_succ]
  refine wpAnyH_take (i := 10) (v := .bool false) rfl (by kernel_rfl) (by kernel_rfl) (by kernel_rfl) (fun _ _ _ h => h) (Or.inl ⟨by rfl, fun W _ => by go_simp⟩) hHeld ?_
  try simp only [Act.put, List.getElem_toArray, List.getElem_cons_succ, List.getElem_cons_zero, List.setIfInBounds_toArray, List.set_cons_zero, List.set_cons_succ]
  refine wpAnyH_take (i := 11) (v := undef) rfl (by kernel_rfl) (by kernel_rfl) (by kernel_rfl) (fun _ _ _ h => h) (Or.inr ⟨by rfl, rfl⟩) hHeld ?_
  try simp only [Act.put, List.getElem_toArray, List.getElem_cons_succ, List.getElem_cons_zero, List.setIfInBounds_toArray, List.set_cons_zero, List.set_cons_succ]
  refine wpAnyH_take (i := 12) (v := undef) rfl (by kernel_rfl) (by kernel_rfl) (by kernel_rfl) (fun _ _ _ h => h) (Or.inr ⟨by rfl, rfl⟩) hHeld ?_
  try simp only [Act.put, List.getElem_toArray, List.getElem_cons_succ, List.getElem_cons_zero, List.setIfInBounds_toArray, List.set_cons_zero, List.set_cons_succ]
  refine wpAnyH_take (i := 13) (v := .bool false) rfl (by kernel_rfl) (by kernel_rfl) (by kernel_rfl) (fun _ _ _ h => h) (Or.inl ⟨by rfl, fun W _ => by go_simp⟩) hHeld ?_
  try simp only [Act.put, List.getElem_toArray, List.getElem_cons_succ, List.getElem_cons_zero, List.setIfInBounds_toArray, List.set_cons_zero, List.set_cons_succ]
  obtain ⟨n4, z4, k4, e4⟩ := hHeld.r4
  have one1 := HO.out
  have one2 := HO2.out
  refine wpAnyH_ready (rs := [14]) (by kernel_rfl) (by simp) ?_
  refine AllReadyH.cons rfl (fun K hK => ?_) AllReadyH.nil
  rw [if_pos (by rfl)]
  refine wp_store44 (.tmp 4) (.tmp 21) rfl w.heap.size rfl rfl e4 one1 (fun w5 ho5 x4 => ?_)
  refine hK.out _ _ (hHeld.set4 ho5 x4) (fun hHeld2 => ?_)
  clear hK K ho5 e4 hHeld
  have hHeld := hHeld2
  clear hHeld2
  try simp only [Act.put, List.getElem_toArray, List.getElem_cons_succ, List.getElem_cons_zero, List.setIfInBounds_toArray, List.set_cons_zero, List.set_cons_succ]
  obtain ⟨n5, z5, k5, e5⟩ := hHeld.r5
  refine wpAnyH_ready (rs := [15]) (by kernel_rfl) (by simp) ?_
  refine AllReadyH.cons rfl (fun K hK => ?_) AllReadyH.nil
  rw [if_pos (by rfl)]
  refine wp_store44 (.tmp 5) (.tmp 22) rfl (w.heap.size + 1) rfl rfl e5 one2 (fun w6 ho6 x5 => ?_)
  have y4 := x4.only ho6 (by omega)
  refine hK.out _ _ (hHeld.set5 ho6 x5) (fun hHeld2 => ?_)
  clear hK K ho6 e5 hHeld
  have hHeld := hHeld2
  clear hHeld2
  try simp only [Act.put, List.getElem_toArray, List.getElem_cons_succ, List.getElem_cons_zero, List.setIfInBounds_toArray, List.set_cons_zero, List.set_cons_succ]
  refine wpAnyH_ready (rs := [16]) (by kernel_rfl) (by simp) ?_
  refine AllReadyH.cons rfl (fun K hK => ?_) AllReadyH.nil
  go_simp
  refine hK.out _ _ hHeld (fun hHeld2 => ?_)
  have HF := Lib.hid hHeld
  clear hK K hHeld2 hHeld
  try simp only [Act.put, List.getElem_toArray, List.getElem_cons_succ, List.getElem_cons_zero, List.setIfInBounds_toArray, List.set_cons_zero, List.set_cons_succ]
  refine wpAnyH_done (by kernel_rfl) ?_ _
  go_wp2_with fail
  exact bodyPost_ret (v := .tuple #[.agg #[.bool N1, u, .int .i64 s1], .agg #[.bool N2, v, .int .i64 s2], .bool false]) (results442 (p := 4) (p2 := 5) (q := 6) Tryd.results44 _ (.bool false) rfl rfl rfl y4 x5) rfl ⟨u, v, rfl, HF.out.i1, HF.out.i2, HF.out.bel⟩

set_option maxRecDepth 20000 in
set_option maxHeartbeats 3200000 in
theorem two_ttf (s t : ByteArray) (N1 N2 : Bool) (s1 s2 : Int) (d1 d2 : List Nat) (c2 : Bool) (w : World) (P1 : Hid (ParsedAs s N1 s1 d1 true)) (P2 : Hid (ParsedAs t N2 s2 d2 true)) (C1 : Hid (CheckedAs s false)) (C2 : Hid (CheckedAs t c2)) :
    Calls Tryd.prog 44 #[.string s, .string t] w fun e w' => ∃ u v, e = .returned (.tuple #[.agg #[.bool N1, u, .int .i64 s1], .agg #[.bool N2, v, .int .i64 s2], .bool false]) ∧ Ints w' u d1 ∧ Ints w' v d2 ∧ Below w.heap.size w w' := by
  have q4 : Rec ((w.alloc (.cells #[.bool false, .slice none 0 0, .int .i64 0] 44)).alloc (.cells #[.bool false, .slice none 0 0, .int .i64 0] 44)) w.heap.size false (.slice none 0 0) 0 := (rec_new w rfl).alloc _
  have q5 : Rec ((w.alloc (.cells #[.bool false, .slice none 0 0, .int .i64 0] 44)).alloc (.cells #[.bool false, .slice none 0 0, .int .i64 0] 44)) (w.heap.size + 1) false (.slice none 0 0) 0 := rec_new _ (by simp)
  have hb0 : Below w.heap.size w ((w.alloc (.cells #[.bool false, .slice none 0 0, .int .i64 0] 44)).alloc (.cells #[.bool false, .slice none 0 0, .int .i64 0] 44)) := ((Below.refl _ _).alloc (Nat.le_refl _) _).alloc (by simp) _
  have Q4 := Lib.hid q4
  have Q5 := Lib.hid q5
  have HB0 := Lib.hid hb0
  clear q4 q5 hb0
  go_enter Tryd.func44, Tryd.ntmps44
  go_wp2_with (first
    | (go_at_call 37; (with_reducible refine (P1.out.at _).mono ?_); rintro e w1 ⟨u, rfl, hi, hb⟩; have z7 := rec_new w1 rfl; have A4 := Lib.hid ((Q4.out.below hb).alloc (.cells #[.bool false, .slice none 0 0, .int .i64 0] 44)); have A5 := Lib.hid ((Q5.out.below hb).alloc (.cells #[.bool false, .slice none 0 0, .int .i64 0] 44)); have hs7 : w.heap.size + 2 ≤ w1.heap.size := by have := hb.size; simp at this; omega
       have AB := Lib.hid ((below_any HB0.out hb HB0.out.size).alloc (by omega) (.cells #[.bool false, .slice none 0 0, .int .i64 0] 44)); have AI := Lib.hid (hi.below ((Below.refl w1.heap.size w1).alloc (Nat.le_refl _) (.cells #[.bool false, .slice none 0 0, .int .i64 0] 44))); have HO := Lib.hid (ints_one hi); clear hb hi)
    | ((with_reducible refine wpList_store44 (m := N1) (u := u) (sd := s1) (.tmp 7) (.tmp 14) w1.heap.size z7 HO.out ?_ ?_ ?_ ?_ ?_); rfl; rfl; rfl; rfl; intro w2 ho p7; have B4 := Lib.hid (A4.out.only ho (by omega)); have B5 := Lib.hid (A5.out.only ho (by omega)); have BI := Lib.hid (AI.out.rec ho z7); have BB := Lib.hid (below_only AB.out ho (by omega) (Nat.le_of_lt A4.out.lt)); clear ho AB AI z7)
    | (go_at_call 37; (with_reducible refine (P2.out.at _).mono ?_); rintro e w3 ⟨v, rfl, hi, hb⟩; have z9 := rec_new w3 rfl; have hs9 : w1.heap.size + 1 ≤ w3.heap.size := by have := hb.size; have := p7.lt; omega
       have D4 := Lib.hid ((B4.out.below hb).alloc (.cells #[.bool false, .slice none 0 0, .int .i64 0] 44)); have D5 := Lib.hid ((B5.out.below hb).alloc (.cells #[.bool false, .slice none 0 0, .int .i64 0] 44)); have D7 := Lib.hid ((p7.below hb).alloc (.cells #[.bool false, .slice none 0 0, .int .i64 0] 44)); have DB := Lib.hid ((below_any BB.out hb BB.out.size).alloc (by omega) (.cells #[.bool false, .slice none 0 0, .int .i64 0] 44)); have DI := Lib.hid ((BI.out.below hb).below ((Below.refl w3.heap.size w3).alloc (Nat.le_refl _) (.cells #[.bool false, .slice none 0 0, .int .i64 0] 44))); have DJ := Lib.hid (hi.below ((Below.refl w3.heap.size w3).alloc (Nat.le_refl _) (.cells #[.bool false, .slice none 0 0, .int .i64 0] 44))); have HO2 := Lib.hid (ints_one hi); clear hb hi)
    | ((with_reducible refine wpList_store44 (m := N2) (u := v) (sd := s2) (.tmp 9) (.tmp 19) w3.heap.size z9 HO2.out ?_ ?_ ?_ ?_ ?_); rfl; rfl; rfl; rfl; intro w4 ho p9; have HT0 : Hid (TwoS w w1.heap.size w3.heap.size N1 u s1 d1 N2 v s2 d2 w4) := Lib.hid ⟨D7.out.only ho (by omega), p9, ⟨_, _, _, D4.out.only ho (by omega)⟩, ⟨_, _, _, D5.out.only ho (by omega)⟩, DI.out.rec ho z9, DJ.out.rec ho z9, below_only DB.out ho (by omega) (Nat.le_of_lt D4.out.lt), by omega, by omega⟩; clear ho z9 DB DI DJ p7 p9))
  refine wp_region_held_drew (S := TwoS w w1.heap.size w3.heap.size N1 u s1 d1 N2 v s2 d2) (by kernel_rfl) (by have h := HT0.out; exact ⟨h.r7, h.r9, h.r4, h.r5, h.i1, h.i2, h.bel.drew, h.n7, h.n9⟩) (fun hHeld => ?_)
  refine wpAnyH_take (i := 0) rfl (by kernel_rfl) (by kernel_rfl) (by kernel_rfl) (fun _ _ _ h => h) (yieldsIf_load44 (by rfl) (.tmp 7) rfl w1.heap.size rfl N1 u s1 (fun _ h => h.r7)) hHeld ?_
  try simp only [Act.put, List.getElem_toArray, List.getElem_cons_succ, List.getElem_cons_zero, List.setIfInBounds_toArray, List.set_cons_zero, List.set_cons_succ]
  refine wpAnyH_take (i := 1) rfl (by kernel_rfl) (by kernel_rfl) (by kernel_rfl) (fun _ _ _ h => h) (yieldsIf_load44 (by rfl) (.tmp 9) rfl w3.heap.size rfl N2 v s2 (fun _ h => h.r9)) hHeld ?_
  try simp only [Act.put, List.getElem_toArray, List.getElem_cons_succ, List.getElem_cons_zero, List.setIfInBounds_toArray, List.set_cons_zero, List.set_cons_succ]
  refine wpAnyH_take (i := 2) (v := .bool true) rfl (by kernel_rfl) (by kernel_rfl) (by kernel_rfl) (fun _ _ _ h => h) (Or.inl ⟨by rfl, fun W _ => by go_simp⟩) hHeld ?_
  try simp only [Act.put, List.getElem_toArray, List.getElem_cons_succ, List.getElem_cons_zero, List.setIfInBounds_toArray, List.set_cons_zero, List.set_cons_succ]
  refine wpAnyH_take (i := 3) (v := .bool true) rfl (by kernel_rfl) (by kernel_rfl) (by kernel_rfl) (fun _ _ _ h => h) (Or.inl ⟨by rfl, fun W _ => by go_simp⟩) hHeld ?_
  try simp only [Act.put, List.getElem_toArray, List.getElem_cons_succ, List.getElem_cons_zero, List.setIfInBounds_toArray, List.set_cons_zero, List.set_cons_succ]
  refine wpAnyH_take (i := 4) (v := .bool true) rfl (by kernel_rfl) (by kernel_rfl) (by kernel_rfl) (fun _ _ _ h => h) (Or.inl ⟨by rfl, fun W _ => by go_simp⟩) hHeld ?_
  try simp only [Act.put, List.getElem_toArray, List.getElem_cons_succ, List.getElem_cons_zero, List.setIfInBounds_toArray, List.set_cons_zero, List.set_cons_succ]
  refine wpAnyH_take (i := 5) (v := .bool true) rfl (by kernel_rfl) (by kernel_rfl) (by kernel_rfl) (fun _ _ _ h => h) (Or.inl ⟨by rfl, fun W _ => by go_simp⟩) hHeld ?_
  try simp only [Act.put, List.getElem_toArray, List.getElem_cons_succ, List.getElem_cons_zero, List.setIfInBounds_toArray, List.set_cons_zero, List.set_cons_succ]
  refine wpAnyH_take (i := 6) (v := .bool true) rfl (by kernel_rfl) (by kernel_rfl) (by kernel_rfl) (fun _ _ _ h => h) (Or.inl ⟨by rfl, fun W _ => by go_simp⟩) hHeld ?_
  try simp only [Act.put, List.getElem_toArray, List.getElem_cons_succ, List.getElem_cons_zero, List.setIfInBounds_toArray, List.set_cons_zero, List.set_cons_succ]
  refine wpAnyH_take (i := 7) (v := .string s) rfl (by kernel_rfl) (by kernel_rfl) (by kernel_rfl) (fun _ _ _ h => h) (Or.inl ⟨by rfl, fun W _ => by go_simp⟩) hHeld ?_
  try simp only [Act.put, List.getElem_toArray, List.getElem_cons_succ, List.getElem_cons_zero, List.setIfInBounds_toArray, List.set_cons_zero, List.set_cons_succ]
  refine wpAnyH_ready (rs := [8]) (by kernel_rfl) (by simp) ?_
  refine AllReadyH.cons rfl (fun K hK => ?_) AllReadyH.nil
  go_simp
  refine (C1.out.at _).mono ?_
  rintro e wc8 ⟨rfl, hbc⟩
  refine hK.out _ _ (hHeld.below hbc) (fun hHeld2 => ?_)
  clear hK K hbc hHeld
  have hHeld := hHeld2
  clear hHeld2
  try simp only [Act.put, List.getElem_toArray, List.getElem_cons_succ, List.getElem_cons_zero, List.setIfInBounds_toArray, List.set_cons_zero, List.set_cons_succ]
  refine wpAnyH_take (i := 9) (v := .bool false) rfl (by kernel_rfl) (by kernel_rfl) (by kernel_rfl) (fun _ _ _ h => h) (Or.inl ⟨by rfl, fun W _ => by go_simp⟩) hHeld ?_
  try simp only [Act.put, List.getElem_toArray, List.getElem_cons_succ, List.getElem_cons_zero, List.setIfInBounds_toArray, List.set_cons_zero, List.set_cons_succ]
  refine wpAnyH_take (i := 10) (v := .bool false) rfl (by kernel_rfl) (by kernel_rfl) (by kernel_rfl) (fun _ _ _ h => h) (Or.inl ⟨by rfl, fun W _ => by go_simp⟩) hHeld ?_
  try simp only [Act.put, List.getElem_toArray, List.getElem_cons_succ, List.getElem_cons_zero, List.setIfInBounds_toArray, List.set_cons_zero, List.set_cons_succ]
  refine wpAnyH_take (i := 11) (v := undef) rfl (by kernel_rfl) (by kernel_rfl) (by kernel_rfl) (fun _ _ _ h => h) (Or.inr ⟨by rfl, rfl⟩) hHeld ?_
  try simp only [Act.put, List.getElem_toArray, List.getElem_cons_succ, List.getElem_cons_zero, List.setIfInBounds_toArray, List.set_cons_zero, List.set_cons_succ]
  refine wpAnyH_take (i := 12) (v := undef) rfl (by kernel_rfl) (by kernel_rfl) (by kernel_rfl) (fun _ _ _ h => h) (Or.inr ⟨by rfl, rfl⟩) hHeld ?_
  try simp only [Act.put, List.getElem_toArray, List.getElem_cons_succ, List.getElem_cons_zero, List.setIfInBounds_toArray, List.set_cons_zero, List.set_cons_succ]
  refine wpAnyH_take (i := 13) (v := .bool false) rfl (by kernel_rfl) (by kernel_rfl) (by kernel_rfl) (fun _ _ _ h => h) (Or.inl ⟨by rfl, fun W _ => by go_simp⟩) hHeld ?_
  try simp only [Act.put, List.getElem_toArray, List.getElem_cons_succ, List.getElem_cons_zero, List.setIfInBounds_toArray, List.set_cons_zero, List.set_cons_succ]
  obtain ⟨n4, z4, k4, e4⟩ := hHeld.r4
  have one1 := HO.out
  have one2 := HO2.out
  refine wpAnyH_ready (rs := [14]) (by kernel_rfl) (by simp) ?_
  refine AllReadyH.cons rfl (fun K hK => ?_) AllReadyH.nil
  rw [if_pos (by rfl)]
  refine wp_store44 (.tmp 4) (.tmp 21) rfl w.heap.size rfl rfl e4 one1 (fun w5 ho5 x4 => ?_)
  refine hK.out _ _ (hHeld.set4 ho5 x4) (fun hHeld2 => ?_)
  clear hK K ho5 e4 hHeld
  have hHeld := hHeld2
  clear hHeld2
  try simp only [Act.put, List.getElem_toArray, List.getElem_cons_succ, List.getElem_cons_zero, List.setIfInBounds_toArray, List.set_cons_zero, List.set_cons_succ]
  obtain ⟨n5, z5, k5, e5⟩ := hHeld.r5
  refine wpAnyH_ready (rs := [15]) (by kernel_rfl) (by simp) ?_
  refine AllReadyH.cons rfl (fun K hK => ?_) AllReadyH.nil
  rw [if_pos (by rfl)]
  refine wp_store44 (.tmp 5) (.tmp 22) rfl (w.heap.size + 1) rfl rfl e5 one2 (fun w6 ho6 x5 => ?_)
  have y4 := x4.only ho6 (by omega)
  refine hK.out _ _ (hHeld.set5 ho6 x5) (fun hHeld2 => ?_)
  clear hK K ho6 e5 hHeld
  have hHeld := hHeld2
  clear hHeld2
  try simp only [Act.put, List.getElem_toArray, List.getElem_cons_succ, List.getElem_cons_zero, List.setIfInBounds_toArray, List.set_cons_zero, List.set_cons_succ]
  refine wpAnyH_ready (rs := [16]) (by kernel_rfl) (by simp) ?_
  refine AllReadyH.cons rfl (fun K hK => ?_) AllReadyH.nil
  go_simp
  refine hK.out _ _ hHeld (fun hHeld2 => ?_)
  have HF := Lib.hid hHeld
  clear hK K hHeld2 hHeld
  try simp only [Act.put, List.getElem_toArray, List.getElem_cons_succ, List.getElem_cons_zero, List.setIfInBounds_toArray, List.set_cons_zero, List.set_cons_succ]
  refine wpAnyH_done (by kernel_rfl) ?_ _
  go_wp2_with fail
  exact bodyPost_ret (v := .tuple #[.agg #[.bool N1, u, .int .i64 s1], .agg #[.bool N2, v, .int .i64 s2], .bool false]) (results442 (p := 4) (p2 := 5) (q := 6) Tryd.results44 _ (.bool false) rfl rfl rfl y4 x5) rfl ⟨u, v, rfl, HF.out.i1, HF.out.i2, HF.out.bel⟩
end Go.Proofs.YtabgilmehehbjaaDoor
