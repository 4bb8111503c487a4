/- The law ValueLists, walked. -/
import Derived.Test.YtoifjjgakblhhaaGreatDoorLGm
import Derived.Test.YtoifjjgakblhhaaGreatDoorLVm
namespace Go.Proofs.YtoifjjgakblhhaaGreatDoor
open Go.RowKit

/-- What a round keeps: the argument's box, the two parts' blocks. -/
structure Keeps2 (S : World → Prop) (w : World) (L ln : Value) (e : Nat) (p : Option Addr) (len cp : Nat) (p2 : Option Addr) (len2 cp2 : Nat) : Prop where
  sv : ∀ W, S W → LInv w L ln W
  s4 : ∀ W, S W → Six W e 5 false 0 ⟨#[]⟩ ⟨#[]⟩ p len cp
  s5 : ∀ W, S W → Six W (e + 1) 5 false 0 ⟨#[]⟩ ⟨#[]⟩ p2 len2 cp2
  st : ∀ W W2, S W → Below W.heap.size W W2 → S W2

set_option maxRecDepth 200000 in
set_option maxHeartbeats 40000000 in
theorem listsSome (l : List Val) (g off cap : Nat) (lang : Int) (w : World) (hG : Gd w) (hT : Tab w) (hl : Holds w g off l) (hl2 : Held w (.slice (some ⟨g, off, none⟩) l.length cap) l) (hn : l.length ≤ 2097152) (hcap : l.length ≤ cap) (hcm : cap ≤ maxLen) :
    Calls Tryz.prog 8 #[.agg #[.slice (some ⟨g, off, none⟩) l.length cap, .int .i64 lang]] w fun e w' => e = .returned (.bool true) ∧ Below w.heap.size w w' := by
  have I0 := LInv.start w (.slice (some ⟨g, off, none⟩) l.length cap) (.int .i64 lang)
  obtain ⟨W1, hW1⟩ : ∃ W1, W1 = w.alloc (.cells #[.slice (some ⟨g, off, none⟩) l.length cap, .int .i64 lang] 24) := ⟨_, rfl⟩
  rw [← hW1] at I0
  have hli := lightC l (some ⟨g, off, none⟩) cap W1 (Held.below l hl2 I0.bel) hn
  have hwk := fun W (h : Below w.heap.size w W) => wakesAt W (hG.below h) (hT.below h)
  obtain ⟨n, hln⟩ : ∃ n, n = l.length := ⟨_, rfl⟩
  rw [← hln] at hn I0 hli hW1 hcap ⊢
  have i0 := I0.cell
  have HW1 := Lib.hid hW1
  have HL := Lib.hid hln
  have HH := Lib.hid hl
  have HHELD := Lib.hid hl2
  have HGG := Lib.hid hG
  clear hl hln hW1 hl2 hG hT
  unfold maxLen at hcm
  go_enter Tryz.func8, Tryz.ntmps8
  go_wp2_with (first
    | (go_at_call 10; rw [← HW1.out]; (with_reducible refine hli.mono ?_); rintro e w' ⟨r, rfl, hb⟩; replace I0 := I0.step hb; have i0 := I0.cell; clear hb; cases r)
    | (go_at_call 11; (with_reducible refine (hwk _ I0.bel).mono ?_); rintro e w' ⟨rfl, hb⟩; replace I0 := I0.step hb; clear hb))
  · go_ret
    exact ⟨rfl, I0.bel⟩
  · go_ret
    exact ⟨rfl, I0.bel⟩
  have h4 : n ≤ 4096 := by omega
  go_loopg [3] (n + 1) (fun gg s3 wr => ∃ j : Nat, j + gg = n + 1 ∧ j ≤ n ∧ s3 = .int .i64 ((j : Int) + 1) ∧ LInv w (.slice (some ⟨g, off, none⟩) n cap) (.int .i64 lang) wr)
  case atStart => exact ⟨0, by omega, by omega, rfl, I0⟩
  case round =>
    clear I0 i0 hli
    obtain ⟨j, hjg, hjn, rfl, I⟩ := hrel
    have hp := I.cell
    have hpp := I.lt
    by_cases hlt : (j : Int) + 1 < n
    · by_cases h20 : (j : Int) + 1 < 10
      · have J1 := I.step (below1 wr (.cells #[.int .i64 5, .bool false, .int .i64 0, .string ⟨#[]⟩, .string ⟨#[]⟩, .slice (some ⟨g, off, none⟩) (j + 1) cap] 28))
        have j1 := J1.cell
        have hcp : j + 1 ≤ cap := by omega
        obtain ⟨S, hS⟩ : ∃ S : World → Prop, S = fun W => LInv w (.slice (some ⟨g, off, none⟩) n cap) (.int .i64 lang) W ∧ Six W wr.heap.size 5 false 0 ⟨#[]⟩ ⟨#[]⟩ (some ⟨g, off, none⟩) (j + 1) cap ∧ Six W (wr.heap.size + 1) 5 false 0 ⟨#[]⟩ ⟨#[]⟩ (some ⟨g, off + (j + 1) * 6, none⟩) (n - (j + 1)) (cap - (j + 1)) := ⟨_, rfl⟩
        have HS : Hid (Keeps2 S w (.slice (some ⟨g, off, none⟩) n cap) (.int .i64 lang) wr.heap.size (some ⟨g, off, none⟩) (j + 1) cap (some ⟨g, off + (j + 1) * 6, none⟩) (n - (j + 1)) (cap - (j + 1))) := Lib.hid (by
          subst hS
          exact ⟨fun W h => h.1, fun W h => h.2.1, fun W h => h.2.2, fun W W2 h hb => ⟨h.1.step hb, h.2.1.below hb, h.2.2.below hb⟩⟩)
        have sb : ∀ W, S W → Below w.heap.size w W := fun W h => (HS.out.sv W h).bel
        have ea : (l.take (j + 1)).length = j + 1 := by rw [List.length_take]; have := HL.out; omega
        have eb : (l.drop (j + 1)).length = n - (j + 1) := by rw [List.length_drop]; have := HL.out; omega
        have ll : l.length = n := HL.out.symm
        have Hs : ∀ W, S W → Holds W g off l := fun W h => Holds.below l HH.out (sb W h)
        have Ha : ∀ W, S W → Held W (.slice (some ⟨g, off, none⟩) (j + 1) cap) (l.take (j + 1)) := fun W h => by
          have := heldOf (cap := cap) ((Hs W h).take l off (j + 1))
          rwa [ea] at this
        have Hb : ∀ W, S W → Held W (.slice (some ⟨g, off + (j + 1) * 6, none⟩) (n - (j + 1)) (cap - (j + 1))) (l.drop (j + 1)) := fun W h => by
          have := heldOf (cap := cap - (j + 1)) ((Hs W h).drop l off (j + 1))
          rwa [eb] at this
        have hca := fun W (h : S W) => checkAtV (.mk 5 false 0 ⟨#[]⟩ ⟨#[]⟩ (l.take (j + 1))) 5 false 0 ⟨#[]⟩ ⟨#[]⟩ (l.take (j + 1)) (.slice (some ⟨g, off, none⟩) (j + 1) cap) W rfl (HGG.out.below (sb W h)) (by decide) (by decide) (Ha W h)
        have hcb := fun W (h : S W) => checkAtV (.mk 5 false 0 ⟨#[]⟩ ⟨#[]⟩ (l.drop (j + 1))) 5 false 0 ⟨#[]⟩ ⟨#[]⟩ (l.drop (j + 1)) (.slice (some ⟨g, off + (j + 1) * 6, none⟩) (n - (j + 1)) (cap - (j + 1))) W rfl (HGG.out.below (sb W h)) (by decide) (by decide) (Hb W h)
        have hcv : mayP (.mk 5 false 0 ⟨#[]⟩ ⟨#[]⟩ (l.take (j + 1))) 0 = true → mayP (.mk 5 false 0 ⟨#[]⟩ ⟨#[]⟩ (l.drop (j + 1))) 0 = true → ∀ W p c, S W → Held W (.slice p n c) l → Calls Tryz.prog 13 #[.agg #[.int .i64 5, .bool false, .int .i64 0, .string ⟨#[]⟩, .string ⟨#[]⟩, .slice p n c]] W fun e w' => e = .returned (.bool true) ∧ Below W.heap.size W w' := fun m1 m2 W p c h hh => by
          have := checkAtV (.mk 5 false 0 ⟨#[]⟩ ⟨#[]⟩ l) 5 false 0 ⟨#[]⟩ ⟨#[]⟩ l (.slice p n c) W rfl (HGG.out.below (sb W h)) (by decide) (by decide) hh
          rwa [mayP_join l (j + 1) (by omega) m1 m2] at this
        have hA1 : mayP (.mk 5 false 0 ⟨#[]⟩ ⟨#[]⟩ (l.take (j + 1))) 0 = true → mayP (.mk 5 false 0 ⟨#[]⟩ ⟨#[]⟩ (l.drop (j + 1))) 0 = true → ∀ W, S W → Calls Tryz.prog 25 #[.int .i64 0, .int .i64 17, .agg #[.int .i64 5, .bool false, .int .i64 0, .string ⟨#[]⟩, .string ⟨#[]⟩, .slice (some ⟨g, off, none⟩) (j + 1) cap], .agg #[.int .i64 5, .bool false, .int .i64 0, .string ⟨#[]⟩, .string ⟨#[]⟩, .slice (some ⟨g, off + (j + 1) * 6, none⟩) (n - (j + 1)) (cap - (j + 1))]] W fun e w' => ∃ p c, e = .returned (.tuple #[.agg #[.int .i64 5, .bool false, .int .i64 0, .string ⟨#[]⟩, .string ⟨#[]⟩, .slice p n c], .int .i64 0]) ∧ Held w' (.slice p n c) l ∧ Below W.heap.size W w' := fun m1 m2 W h => by
          have := arithC (l.take (j + 1)) (l.drop (j + 1)) (some ⟨g, off, none⟩) cap (some ⟨g, off + (j + 1) * 6, none⟩) (cap - (j + 1)) W (HGG.out.below (sb W h)) (by rw [ea]; exact Ha W h) (by rw [eb]; exact Hb W h) (by rw [ea, eb]; omega) m1 m2
          rw [ea, eb] at this
          refine this.mono ?_
          rintro e w' ⟨p, c, he, hh, hb⟩
          rw [ea, eb, List.take_append_drop, show j + 1 + (n - (j + 1)) = n by omega] at hh
          rw [ea, eb, show j + 1 + (n - (j + 1)) = n by omega] at he
          exact ⟨p, c, he, hh.held, hb⟩
        have hA2 : mayP (.mk 5 false 0 ⟨#[]⟩ ⟨#[]⟩ (l.take (j + 1))) 0 = true → ∀ W, S W → Calls Tryz.prog 25 #[.int .i64 0, .int .i64 17, .agg #[.int .i64 5, .bool false, .int .i64 0, .string ⟨#[]⟩, .string ⟨#[]⟩, .slice (some ⟨g, off, none⟩) (j + 1) cap], .agg #[.int .i64 5, .bool false, .int .i64 0, .string ⟨#[]⟩, .string ⟨#[]⟩, .slice none 0 0]] W fun e w' => ∃ p c, e = .returned (.tuple #[.agg #[.int .i64 5, .bool false, .int .i64 0, .string ⟨#[]⟩, .string ⟨#[]⟩, .slice p (j + 1) c], .int .i64 0]) ∧ Held w' (.slice p (j + 1) c) (l.take (j + 1)) ∧ Below W.heap.size W w' := fun m1 W h => by
          have := arithC (l.take (j + 1)) [] (some ⟨g, off, none⟩) cap none 0 W (HGG.out.below (sb W h)) (by rw [ea]; exact Ha W h) (lHeldNull W) (by rw [ea, List.length_nil]; omega) m1 mayP_none
          rw [ea] at this
          refine this.mono ?_
          rintro e w' ⟨p, c, he, hh, hb⟩
          rw [ea, List.append_nil, List.length_nil, Nat.add_zero] at hh
          rw [ea, List.length_nil, Nat.add_zero] at he
          exact ⟨p, c, he, hh.held, hb⟩
        have hA3 : mayP (.mk 5 false 0 ⟨#[]⟩ ⟨#[]⟩ (l.take (j + 1))) 0 = true → mayP (.mk 5 false 0 ⟨#[]⟩ ⟨#[]⟩ (l.drop (j + 1))) 0 = true → ∀ W, S W → Calls Tryz.prog 25 #[.int .i64 1, .int .i64 17, .agg #[.int .i64 5, .bool false, .int .i64 0, .string ⟨#[]⟩, .string ⟨#[]⟩, .slice (some ⟨g, off, none⟩) (j + 1) cap], .agg #[.int .i64 5, .bool false, .int .i64 0, .string ⟨#[]⟩, .string ⟨#[]⟩, .slice (some ⟨g, off + (j + 1) * 6, none⟩) (n - (j + 1)) (cap - (j + 1))]] W fun e w' => e = .returned (.tuple #[.agg #[.int .i64 0, .bool false, .int .i64 0, .string ⟨#[]⟩, .string ⟨#[]⟩, .slice none 0 0], .int .i64 4]) ∧ Below W.heap.size W w' := fun m1 m2 W h => by
          have := arithS (l.take (j + 1)) (l.drop (j + 1)) (some ⟨g, off, none⟩) cap (some ⟨g, off + (j + 1) * 6, none⟩) (cap - (j + 1)) W (HGG.out.below (sb W h)) (by rw [ea]; exact Ha W h) (by rw [eb]; exact Hb W h) m1 m2
          rw [ea, eb] at this
          exact this
        have hER : ∀ W p c, S W → Held W (.slice p n c) l → Calls Tryz.prog 34 #[.slice p n c, .slice (some ⟨g, off, none⟩) n cap] W fun e w' => e = .returned (.bool true) ∧ Below W.heap.size W w' := fun W p c h hh => by
          have := eqRowAt l l p (some ⟨g, off, none⟩) c cap W (by rw [ll]; exact hh) (Held.below l HHELD.out (sb W h)) (by omega) (fun v _ => sameZAll v)
          rw [ll, eachSame_self] at this
          simpa using this
        have hSM : ∀ W p c, S W → Held W (.slice p (j + 1) c) (l.take (j + 1)) → Calls Tryz.prog 17 #[.agg #[.int .i64 5, .bool false, .int .i64 0, .string ⟨#[]⟩, .string ⟨#[]⟩, .slice p (j + 1) c], .agg #[.int .i64 5, .bool false, .int .i64 0, .string ⟨#[]⟩, .string ⟨#[]⟩, .slice (some ⟨g, off, none⟩) (j + 1) cap]] W fun e w' => e = .returned (.bool true) ∧ Below W.heap.size W w' := fun W p c h hh => by
          have := sameAll (.mk 5 false 0 ⟨#[]⟩ ⟨#[]⟩ (l.take (j + 1))) W 5 false 0 ⟨#[]⟩ ⟨#[]⟩ (l.take (j + 1)) p c (.mk 5 false 0 ⟨#[]⟩ ⟨#[]⟩ (l.take (j + 1))) 5 false 0 ⟨#[]⟩ ⟨#[]⟩ (l.take (j + 1)) (some ⟨g, off, none⟩) cap rfl rfl (by rw [ea]; omega) (by rw [ea]; exact hh) (by rw [ea]; exact Ha W h)
          rw [ea, sameP_self] at this
          exact this
        generalize mayP (.mk 5 false 0 ⟨#[]⟩ ⟨#[]⟩ (l.take (j + 1))) 0 = M1 at hca hcv hA1 hA2 hA3
        generalize mayP (.mk 5 false 0 ⟨#[]⟩ ⟨#[]⟩ (l.drop (j + 1))) 0 = M2 at hcb hcv hA1 hA3
        obtain ⟨W0, hW0⟩ : ∃ W0, W0 = (wr.alloc (.cells #[.int .i64 5, .bool false, .int .i64 0, .string ⟨#[]⟩, .string ⟨#[]⟩, .slice (some ⟨g, off, none⟩) (j + 1) cap] 28)).alloc (.cells #[.int .i64 5, .bool false, .int .i64 0, .string ⟨#[]⟩, .string ⟨#[]⟩, .slice (some ⟨g, off + (j + 1) * 6, none⟩) (n - (j + 1)) (cap - (j + 1))] 28) := ⟨_, rfl⟩
        have S4 : Six W0 wr.heap.size 5 false 0 ⟨#[]⟩ ⟨#[]⟩ (some ⟨g, off, none⟩) (j + 1) cap := by rw [hW0]; exact (six_new _ rfl).alloc _
        have S5 : Six W0 (wr.heap.size + 1) 5 false 0 ⟨#[]⟩ ⟨#[]⟩ (some ⟨g, off + (j + 1) * 6, none⟩) (n - (j + 1)) (cap - (j + 1)) := by rw [hW0]; exact six_new _ (by simp)
        have J : S W0 := by rw [hS]; exact ⟨by rw [hW0]; exact I.step (below2 wr _ _), S4, S5⟩
        have l0 : W0.cell? ⟨w.heap.size, 0, none⟩ = some (.slice (some ⟨g, off, none⟩) n cap) := (HS.out.sv _ J).cell
        have H0 := Lib.hid hW0
        have HHs := Lib.hid Hs
        have HA1 := Lib.hid hA1
        have HA2 := Lib.hid hA2
        have HA3 := Lib.hid hA3
        have HCV := Lib.hid hcv
        have HER := Lib.hid hER
        have HSM := Lib.hid hSM
        have HCA := Lib.hid hca
        have HCB := Lib.hid hcb
        clear hW0 J1 I hS Hs Ha Hb hA1 hA2 hA3 hcv hER hSM hca hcb ea eb ll
        go_upto_region 8 with fail
        rw [← H0.out]
        clear H0 j1 hp
        cases M1 with
        | false =>
          go_wp2_with (first
            | ((with_reducible refine wpList_load6 (.tmp 4) wr.heap.size S4 ?_ ?_ ?_ ?_); rfl; rfl; rfl)
            | ((with_reducible refine wpList_load6g (.tmp 4) wr.heap.size S4 ?_ ?_ ?_ ?_); rfl; rfl; rfl)
            | ((with_reducible refine wpList_load6 (.tmp 5) (wr.heap.size + 1) S5 ?_ ?_ ?_ ?_); rfl; rfl; rfl)
            | ((with_reducible refine wpList_load6g (.tmp 5) (wr.heap.size + 1) S5 ?_ ?_ ?_ ?_); rfl; rfl; rfl)
            | (go_at_call 13; (with_reducible refine (HCA.out _ J).mono ?_); rintro e w' ⟨rfl, hb⟩; replace J := HS.out.st _ _ J hb; have S4 := HS.out.s4 _ J; have S5 := HS.out.s5 _ J; have l0 := (HS.out.sv _ J).cell; clear hb)
            | (go_at_call 13; (with_reducible refine (HCB.out _ J).mono ?_); rintro e w' ⟨rfl, hb⟩; replace J := HS.out.st _ _ J hb; have S4 := HS.out.s4 _ J; have S5 := HS.out.s5 _ J; have l0 := (HS.out.sv _ J).cell; clear hb))
          go_roundg (gk - 1)
          case measure => omega
          case rel => exact ⟨j + 1, by omega, by omega, by go_num, HS.out.sv _ J⟩
        | true =>
          cases M2 with
          | false =>
            go_wp2_with (first
              | ((with_reducible refine wpList_load6 (.tmp 4) wr.heap.size S4 ?_ ?_ ?_ ?_); rfl; rfl; rfl)
              | ((with_reducible refine wpList_load6g (.tmp 4) wr.heap.size S4 ?_ ?_ ?_ ?_); rfl; rfl; rfl)
              | ((with_reducible refine wpList_load6 (.tmp 5) (wr.heap.size + 1) S5 ?_ ?_ ?_ ?_); rfl; rfl; rfl)
              | ((with_reducible refine wpList_load6g (.tmp 5) (wr.heap.size + 1) S5 ?_ ?_ ?_ ?_); rfl; rfl; rfl)
              | (go_at_call 13; (with_reducible refine (HCA.out _ J).mono ?_); rintro e w' ⟨rfl, hb⟩; replace J := HS.out.st _ _ J hb; have S4 := HS.out.s4 _ J; have S5 := HS.out.s5 _ J; have l0 := (HS.out.sv _ J).cell; clear hb)
              | (go_at_call 13; (with_reducible refine (HCB.out _ J).mono ?_); rintro e w' ⟨rfl, hb⟩; replace J := HS.out.st _ _ J hb; have S4 := HS.out.s4 _ J; have S5 := HS.out.s5 _ J; have l0 := (HS.out.sv _ J).cell; clear hb))
            go_roundg (gk - 1)
            case measure => omega
            case rel => exact ⟨j + 1, by omega, by omega, by go_num, HS.out.sv _ J⟩
          | true =>
            have HB1 := Lib.hid (HA1.out rfl rfl)
            have HB2 := Lib.hid (HA2.out rfl)
            have HB3 := Lib.hid (HA3.out rfl rfl)
            have HCW := Lib.hid (HCV.out rfl rfl)
            clear HA1 HA2 HA3 HCV
            go_upto_region 9 with (first
              | ((with_reducible refine wpList_load6 (.tmp 4) wr.heap.size S4 ?_ ?_ ?_ ?_); rfl; rfl; rfl)
              | ((with_reducible refine wpList_load6g (.tmp 4) wr.heap.size S4 ?_ ?_ ?_ ?_); rfl; rfl; rfl)
              | ((with_reducible refine wpList_load6 (.tmp 5) (wr.heap.size + 1) S5 ?_ ?_ ?_ ?_); rfl; rfl; rfl)
              | ((with_reducible refine wpList_load6g (.tmp 5) (wr.heap.size + 1) S5 ?_ ?_ ?_ ?_); rfl; rfl; rfl)
              | (go_at_call 13; (with_reducible refine (HCA.out _ J).mono ?_); rintro e w' ⟨rfl, hb⟩; replace J := HS.out.st _ _ J hb; have S4 := HS.out.s4 _ J; have S5 := HS.out.s5 _ J; have l0 := (HS.out.sv _ J).cell; clear hb)
              | (go_at_call 13; (with_reducible refine (HCB.out _ J).mono ?_); rintro e w' ⟨rfl, hb⟩; replace J := HS.out.st _ _ J hb; have S4 := HS.out.s4 _ J; have S5 := HS.out.s5 _ J; have l0 := (HS.out.sv _ J).cell; clear hb))
            go_upto_region 10 with (first
              | ((with_reducible refine wpList_load6 (.tmp 4) wr.heap.size S4 ?_ ?_ ?_ ?_); rfl; rfl; rfl)
              | ((with_reducible refine wpList_load6g (.tmp 4) wr.heap.size S4 ?_ ?_ ?_ ?_); rfl; rfl; rfl)
              | ((with_reducible refine wpList_load6 (.tmp 5) (wr.heap.size + 1) S5 ?_ ?_ ?_ ?_); rfl; rfl; rfl)
              | ((with_reducible refine wpList_load6g (.tmp 5) (wr.heap.size + 1) S5 ?_ ?_ ?_ ?_); rfl; rfl; rfl)
              | (go_at_call 25; (with_reducible refine (HB1.out _ J).mono ?_); rintro e w9 ⟨p9, c9, rfl, hh9, hb9⟩))
            have S9 : Six (w9.alloc (.cells #[.int .i64 5, .bool false, .int .i64 0, .string ⟨#[]⟩, .string ⟨#[]⟩, .slice p9 n c9] 28)) w9.heap.size 5 false 0 ⟨#[]⟩ ⟨#[]⟩ p9 n c9 := six_new _ rfl
            replace J := HS.out.st _ _ (HS.out.st _ _ J hb9) (below1 w9 (.cells #[.int .i64 5, .bool false, .int .i64 0, .string ⟨#[]⟩, .string ⟨#[]⟩, .slice p9 n c9] 28))
            replace hh9 := Held.below l hh9 (below1 w9 (.cells #[.int .i64 5, .bool false, .int .i64 0, .string ⟨#[]⟩, .string ⟨#[]⟩, .slice p9 n c9] 28))
            generalize (w9.alloc (.cells #[.int .i64 5, .bool false, .int .i64 0, .string ⟨#[]⟩, .string ⟨#[]⟩, .slice p9 n c9] 28)) = W9 at S9 J hh9 ⊢
            have S4 := HS.out.s4 _ J
            have S5 := HS.out.s5 _ J
            have l0 := (HS.out.sv _ J).cell
            clear hb9
            have HH9 := Lib.hid hh9
            clear hh9
            go_upto_region 11 with (first
              | ((with_reducible refine wpList_load6 (.tmp 4) wr.heap.size S4 ?_ ?_ ?_ ?_); rfl; rfl; rfl)
              | ((with_reducible refine wpList_load6g (.tmp 4) wr.heap.size S4 ?_ ?_ ?_ ?_); rfl; rfl; rfl)
              | ((with_reducible refine wpList_load6 (.tmp 5) (wr.heap.size + 1) S5 ?_ ?_ ?_ ?_); rfl; rfl; rfl)
              | ((with_reducible refine wpList_load6g (.tmp 5) (wr.heap.size + 1) S5 ?_ ?_ ?_ ?_); rfl; rfl; rfl)
              | (go_at_call 25; (with_reducible refine (HB2.out _ J).mono ?_); rintro e w10 ⟨p10, c10, rfl, hh10, hb10⟩))
            have S10 : Six (w10.alloc (.cells #[.int .i64 5, .bool false, .int .i64 0, .string ⟨#[]⟩, .string ⟨#[]⟩, .slice p10 (j + 1) c10] 28)) w10.heap.size 5 false 0 ⟨#[]⟩ ⟨#[]⟩ p10 (j + 1) c10 := six_new _ rfl
            have hbb := below_any (Below.refl W9.heap.size W9) hb10 (Nat.le_refl _)
            have hb11 : Below W9.heap.size W9 (w10.alloc (.cells #[.int .i64 5, .bool false, .int .i64 0, .string ⟨#[]⟩, .string ⟨#[]⟩, .slice p10 (j + 1) c10] 28)) := below_any hbb (below1 w10 _) hbb.size
            replace J := HS.out.st _ _ J hb11
            replace S9 := S9.below hb11
            have hh9 := Held.below l HH9.out hb11
            replace hh10 := Held.below _ hh10 (below1 w10 (.cells #[.int .i64 5, .bool false, .int .i64 0, .string ⟨#[]⟩, .string ⟨#[]⟩, .slice p10 (j + 1) c10] 28))
            clear hb11 hbb
            generalize (w10.alloc (.cells #[.int .i64 5, .bool false, .int .i64 0, .string ⟨#[]⟩, .string ⟨#[]⟩, .slice p10 (j + 1) c10] 28)) = W10 at S9 S10 J hh9 hh10 ⊢
            have S4 := HS.out.s4 _ J
            have S5 := HS.out.s5 _ J
            have l0 := (HS.out.sv _ J).cell
            clear hb10
            have HX := Lib.hid (And.intro hh9 hh10)
            clear hh9 hh10
            go_upto_region 12 with (first
              | ((with_reducible refine wpList_load6 (.tmp 4) wr.heap.size S4 ?_ ?_ ?_ ?_); rfl; rfl; rfl)
              | ((with_reducible refine wpList_load6g (.tmp 4) wr.heap.size S4 ?_ ?_ ?_ ?_); rfl; rfl; rfl)
              | ((with_reducible refine wpList_load6 (.tmp 5) (wr.heap.size + 1) S5 ?_ ?_ ?_ ?_); rfl; rfl; rfl)
              | ((with_reducible refine wpList_load6g (.tmp 5) (wr.heap.size + 1) S5 ?_ ?_ ?_ ?_); rfl; rfl; rfl)
              | (go_at_call 25; (with_reducible refine (HB3.out _ J).mono ?_); rintro e w11 ⟨rfl, hb11⟩))
            have hbb := below_any (Below.refl W10.heap.size W10) hb11 (Nat.le_refl _)
            have hb12 : Below W10.heap.size W10 (w11.alloc (.cells #[.int .i64 0, .bool false, .int .i64 0, .string ⟨#[]⟩, .string ⟨#[]⟩, .slice none 0 0] 28)) := below_any hbb (below1 w11 _) hbb.size
            replace J := HS.out.st _ _ J hb12
            replace S9 := S9.below hb12
            replace S10 := S10.below hb12
            have hh9 := Held.below l HX.out.1 hb12
            have hh10 := Held.below _ HX.out.2 hb12
            clear hb12 hbb hb11
            generalize (w11.alloc (.cells #[.int .i64 0, .bool false, .int .i64 0, .string ⟨#[]⟩, .string ⟨#[]⟩, .slice none 0 0] 28)) = W11 at S9 S10 J hh9 hh10 ⊢
            have S4 := HS.out.s4 _ J
            have S5 := HS.out.s5 _ J
            have l0 := (HS.out.sv _ J).cell
            have f9 := S9.c5
            have HY := Lib.hid (And.intro hh9 hh10)
            clear hh9 hh10
            go_wp2_with (first
              | ((with_reducible refine wpList_load6 (.tmp 4) wr.heap.size S4 ?_ ?_ ?_ ?_); rfl; rfl; rfl)
              | ((with_reducible refine wpList_load6g (.tmp 4) wr.heap.size S4 ?_ ?_ ?_ ?_); rfl; rfl; rfl)
              | ((with_reducible refine wpList_load6 (.tmp 5) (wr.heap.size + 1) S5 ?_ ?_ ?_ ?_); rfl; rfl; rfl)
              | ((with_reducible refine wpList_load6g (.tmp 5) (wr.heap.size + 1) S5 ?_ ?_ ?_ ?_); rfl; rfl; rfl)
              | ((with_reducible refine wpList_load6 (.tmp 6) w9.heap.size S9 ?_ ?_ ?_ ?_); rfl; rfl; rfl)
              | ((with_reducible refine wpList_load6g (.tmp 6) w9.heap.size S9 ?_ ?_ ?_ ?_); rfl; rfl; rfl)
              | ((with_reducible refine wpList_load6 (.tmp 8) w10.heap.size S10 ?_ ?_ ?_ ?_); rfl; rfl; rfl)
              | ((with_reducible refine wpList_load6g (.tmp 8) w10.heap.size S10 ?_ ?_ ?_ ?_); rfl; rfl; rfl)
              | (go_at_call 34; (with_reducible refine (HER.out _ _ _ J HY.out.1).mono ?_); rintro e w' ⟨rfl, hb⟩; replace S9 := S9.below hb; replace S10 := S10.below hb; replace HY := Lib.hid (And.intro (Held.below l HY.out.1 hb) (Held.below _ HY.out.2 hb)); replace J := HS.out.st _ _ J hb; have S4 := HS.out.s4 _ J; have S5 := HS.out.s5 _ J; have l0 := (HS.out.sv _ J).cell; clear hb)
              | (go_at_call 17; (with_reducible refine (HSM.out _ _ _ J HY.out.2).mono ?_); rintro e w' ⟨rfl, hb⟩; replace S9 := S9.below hb; replace S10 := S10.below hb; replace HY := Lib.hid (And.intro (Held.below l HY.out.1 hb) (Held.below _ HY.out.2 hb)); replace J := HS.out.st _ _ J hb; have S4 := HS.out.s4 _ J; have S5 := HS.out.s5 _ J; have l0 := (HS.out.sv _ J).cell; clear hb)
              | (go_at_call 13; (with_reducible refine (HCW.out _ _ _ J HY.out.1).mono ?_); rintro e w' ⟨rfl, hb⟩; replace S9 := S9.below hb; replace S10 := S10.below hb; replace HY := Lib.hid (And.intro (Held.below l HY.out.1 hb) (Held.below _ HY.out.2 hb)); replace J := HS.out.st _ _ J hb; have S4 := HS.out.s4 _ J; have S5 := HS.out.s5 _ J; have l0 := (HS.out.sv _ J).cell; clear hb))
            go_roundg (gk - 1)
            case measure => omega
            case rel => exact ⟨j + 1, by omega, by omega, by go_num, HS.out.sv _ J⟩

      · go_wp2_with (go_at_call 11; (with_reducible refine (hwk _ I.bel).mono ?_); rintro e w' ⟨rfl, hb⟩; replace I := I.step hb)
        go_ret
        exact ⟨rfl, I.bel⟩
    · go_wp2_with (go_at_call 11; (with_reducible refine (hwk _ I.bel).mono ?_); rintro e w' ⟨rfl, hb⟩; replace I := I.step hb)
      go_ret
      exact ⟨rfl, I.bel⟩
end Go.Proofs.YtoifjjgakblhhaaGreatDoor
