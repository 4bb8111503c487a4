/- The law DecimalCuts, walked. -/
import Derived.Test.YtabgilmehehbjaaDoorO0
import Derived.Deep.QuietTactic
import Derived.BigQuiet
namespace Go.Proofs.YtabgilmehehbjaaDoor
open Go.RowKit

set_option maxRecDepth 20000 in
set_option maxHeartbeats 6400000 in
theorem cutsSome (b off n cap : Nat) (v2 : Value) (S : Nat → ByteArray) (w : World) (hG : Gd w) (hT : Tab w) (hS : Strs w b off n S) (hn : n ≤ maxLen) (hz : ∀ i, i < n → (S i).size ≤ maxLen) :
    Calls Tryd.prog 8 #[.agg #[.slice (some ⟨b, off, none⟩) n cap, v2]] w fun e w' => e = .returned (.bool true) ∧ Below w.heap.size w w' := by
  unfold maxLen at hn
  have I0 := Inv.start (cap := cap) v2 hG hT hS
  clear hz
  go_enter Tryd.func8, Tryd.ntmps8
  go_wp2_with fail
  go_loopg [3] n (fun gg s3 wr => ∃ i : Nat, i + gg = n ∧ s3 = .int .i64 ((i : Int) + 1) ∧ Inv w b off n cap S wr)
  case atStart => exact ⟨0, by omega, rfl, I0⟩
  case round =>
    clear I0
    obtain ⟨j, hig, rfl, I⟩ := hrel
    have hp := I.cell
    by_cases hlt : (j : Int) + 1 < n
    · by_cases h12 : (j : Int) + 1 < 12
      · obtain ⟨a, ha⟩ : ∃ a, a = S j := ⟨_, rfl⟩
        obtain ⟨c, hc⟩ : ∃ c, c = S (j + 1) := ⟨_, rfl⟩
        have c1 : wr.cell? ⟨b, off + j, none⟩ = some (.string a) := by rw [ha]; exact I.s j (by omega)
        have c2 : wr.cell? ⟨b, off + (j + 1), none⟩ = some (.string c) := by rw [hc]; exact I.s (j + 1) (by omega)
        clear ha hc
        go_wp2_with fail
        go_quiet (fail)
        have I := I.step (below_drewN (Below.refl _ _) nq)
        generalize wr.drewN nq = wq at *
        clear c1 c2 hp
        by_cases sa : a.size ≤ 300
        · have SA : Hid (true = decide (a.size ≤ 300)) := Lib.hid (by simp [sa])
          have za : a.size < 4294967281 := by omega
          by_cases sc : c.size ≤ 300
          · have SC : Hid (true = decide (c.size ≤ 300)) := Lib.hid (by simp [sc])
            have zc : c.size < 4294967281 := by omega
            cases ka : chk a.data.toList with
            | false =>
              have KA : Hid (false = chk a.data.toList) := Lib.hid ka.symm
              clear ka
              go_wp2_with (first
                | (go_at_call 10; (with_reducible refine (shortB a _ _ SA).mono ?_); rintro e w' ⟨rfl, rfl⟩)
                | (go_at_call 10; (with_reducible refine (shortB c _ _ SC).mono ?_); rintro e w' ⟨rfl, rfl⟩)
                | (go_at_call 15; (with_reducible refine (checkB a _ _ I.g za KA).mono ?_); rintro e w1 ⟨rfl, hb1⟩; have I1 := I.step hb1))
              all_goals (try (exfalso; omega))
              go_roundg (gk - 1)
              case measure => omega
              case rel => exact ⟨j + 1, by omega, by go_num, I1⟩
            | true =>
              have KA : Hid (true = chk a.data.toList) := Lib.hid ka.symm
              cases kc : chk c.data.toList with
              | false =>
                have KC : Hid (false = chk c.data.toList) := Lib.hid kc.symm
                clear ka kc
                go_wp2_with (first
                  | (go_at_call 10; (with_reducible refine (shortB a _ _ SA).mono ?_); rintro e w' ⟨rfl, rfl⟩)
                  | (go_at_call 10; (with_reducible refine (shortB c _ _ SC).mono ?_); rintro e w' ⟨rfl, rfl⟩)
                  | (go_at_call 15; (with_reducible refine (checkB a _ _ I.g za KA).mono ?_); rintro e w1 ⟨rfl, hb1⟩; have I1 := I.step hb1)
                  | (go_at_call 15; (with_reducible refine (checkB c _ _ I1.g zc KC).mono ?_); rintro e w2 ⟨rfl, hb2⟩; have I2 := I1.step hb2))
                all_goals (try (exfalso; omega))
                go_roundg (gk - 1)
                case measure => omega
                case rel => exact ⟨j + 1, by omega, by go_num, I2⟩
              | true =>
                have KC : Hid (true = chk c.data.toList) := Lib.hid kc.symm
                cases hz0 : (c.toList == [48, 46, 48]) with
                | true =>
                  clear ka kc
                  go_wp2_with (first
                    | (go_at_call 10; (with_reducible refine (shortB a _ _ SA).mono ?_); rintro e w' ⟨rfl, rfl⟩)
                    | (go_at_call 10; (with_reducible refine (shortB c _ _ SC).mono ?_); rintro e w' ⟨rfl, rfl⟩)
                    | (go_at_call 15; (with_reducible refine (checkB a _ _ I.g za KA).mono ?_); rintro e w1 ⟨rfl, hb1⟩; have I1 := I.step hb1)
                    | (go_at_call 15; (with_reducible refine (checkB c _ _ I1.g zc KC).mono ?_); rintro e w2 ⟨rfl, hb2⟩; have I2 := I1.step hb2))
                  all_goals (try (exfalso; omega))
                  go_roundg (gk - 1)
                  case measure => omega
                  case rel => exact ⟨j + 1, by omega, by go_num, I2⟩
                | false =>
                  by_cases l12 : (c.size : Int) > 12
                  · clear ka kc
                    go_wp2_with (first
                      | (go_at_call 10; (with_reducible refine (shortB a _ _ SA).mono ?_); rintro e w' ⟨rfl, rfl⟩)
                      | (go_at_call 10; (with_reducible refine (shortB c _ _ SC).mono ?_); rintro e w' ⟨rfl, rfl⟩)
                      | (go_at_call 15; (with_reducible refine (checkB a _ _ I.g za KA).mono ?_); rintro e w1 ⟨rfl, hb1⟩; have I1 := I.step hb1)
                      | (go_at_call 15; (with_reducible refine (checkB c _ _ I1.g zc KC).mono ?_); rintro e w2 ⟨rfl, hb2⟩; have I2 := I1.step hb2))
                    all_goals (try (exfalso; omega))
                    go_roundg (gk - 1)
                    case measure => omega
                    case rel => exact ⟨j + 1, by omega, by go_num, I2⟩
                  · by_cases l30 : (a.size : Int) > 30
                    · clear ka kc
                      go_wp2_with (first
                        | (go_at_call 10; (with_reducible refine (shortB a _ _ SA).mono ?_); rintro e w' ⟨rfl, rfl⟩)
                        | (go_at_call 10; (with_reducible refine (shortB c _ _ SC).mono ?_); rintro e w' ⟨rfl, rfl⟩)
                        | (go_at_call 15; (with_reducible refine (checkB a _ _ I.g za KA).mono ?_); rintro e w1 ⟨rfl, hb1⟩; have I1 := I.step hb1)
                        | (go_at_call 15; (with_reducible refine (checkB c _ _ I1.g zc KC).mono ?_); rintro e w2 ⟨rfl, hb2⟩; have I2 := I1.step hb2))
                      all_goals (try (exfalso; omega))
                      go_roundg (gk - 1)
                      case measure => omega
                      case rel => exact ⟨j + 1, by omega, by go_num, I2⟩
                    · have h0 : damt c.data.toList ≠ 0 := fun h => by
                        have := dec_zero kc h
                        rw [ByteArray.toList_eq, this] at hz0
                        simp at hz0
                      obtain ⟨x1, k1, h1⟩ := said_form (txt (dquo a.data.toList c.data.toList))
                      have F1 : ∀ W, Gd W → Calls Tryd.prog 28 #[.string a, .string c] W fun e w' => e = .returned (.tuple #[.string x1, .int .i64 k1]) ∧ Below W.heap.size W w' := fun W hW => divYes a c W hW za zc ka kc h0 x1 k1 h1
                      have G1 := Lib.hid F1
                      clear F1
                      rcases said_k h1 with rfl | rfl
                      case inr =>
                        clear ka kc h0 h1
                        go_wp2_with (first
                          | (go_at_call 10; (with_reducible refine (shortB a _ _ SA).mono ?_); rintro e w' ⟨rfl, rfl⟩)
                          | (go_at_call 10; (with_reducible refine (shortB c _ _ SC).mono ?_); rintro e w' ⟨rfl, rfl⟩)
                          | (go_at_call 15; (with_reducible refine (checkB a _ _ I.g za KA).mono ?_); rintro e w1 ⟨rfl, hb1⟩; have I1 := I.step hb1)
                          | (go_at_call 15; (with_reducible refine (checkB c _ _ I1.g zc KC).mono ?_); rintro e w2 ⟨rfl, hb2⟩; have I2 := I1.step hb2)
                          | (go_at_call 28; (with_reducible refine (G1.out _ I2.g).mono ?_); rintro e w3 ⟨rfl, hb3⟩; have I3 := I2.step hb3))
                        all_goals (try (exfalso; omega))
                        go_roundg (gk - 1)
                        case measure => omega
                        case rel => exact ⟨j + 1, by omega, by go_num, I3⟩
                      case inl =>
                        obtain ⟨l1, hl1, rfl⟩ := said_ok h1 rfl
                        obtain ⟨cl1, dl1⟩ := txt_dec _ (dquo_lt ka kc h0) l1 hl1
                        have z1 : (bs l1).size < 4294967281 := by have := chk_len cl1; simp [ByteArray.size]; omega
                        obtain ⟨x2, k2, h2⟩ := said_form (txt (dmul l1 c.data.toList))
                        have F2 : ∀ W, Gd W → Calls Tryd.prog 26 #[.string (bs l1), .string c] W fun e w' => e = .returned (.tuple #[.string x2, .int .i64 k2]) ∧ Below W.heap.size W w' := fun W hW => mulYes (bs l1) c W hW z1 zc cl1 kc x2 k2 h2
                        have G2 := Lib.hid F2
                        clear F2
                        rcases said_k h2 with rfl | rfl
                        case inr =>
                          clear ka kc h0 h1 h2 hl1 cl1 dl1 z1
                          generalize bs l1 = X1 at *
                          go_wp2_with (first
                            | (go_at_call 10; (with_reducible refine (shortB a _ _ SA).mono ?_); rintro e w' ⟨rfl, rfl⟩)
                            | (go_at_call 10; (with_reducible refine (shortB c _ _ SC).mono ?_); rintro e w' ⟨rfl, rfl⟩)
                            | (go_at_call 15; (with_reducible refine (checkB a _ _ I.g za KA).mono ?_); rintro e w1 ⟨rfl, hb1⟩; have I1 := I.step hb1)
                            | (go_at_call 15; (with_reducible refine (checkB c _ _ I1.g zc KC).mono ?_); rintro e w2 ⟨rfl, hb2⟩; have I2 := I1.step hb2)
                            | (go_at_call 28; (with_reducible refine (G1.out _ I2.g).mono ?_); rintro e w3 ⟨rfl, hb3⟩; have I3 := I2.step hb3)
                            | (go_at_call 26; (with_reducible refine (G2.out _ I3.g).mono ?_); rintro e w4 ⟨rfl, hb4⟩; have I4 := I3.step hb4))
                          all_goals (try (exfalso; omega))
                          go_roundg (gk - 1)
                          case measure => omega
                          case rel => exact ⟨j + 1, by omega, by go_num, I4⟩
                        case inl =>
                          obtain ⟨l2, hl2, rfl⟩ := said_ok h2 rfl
                          obtain ⟨cl2, dl2⟩ := txt_dec _ (dmul_lt cl1 kc) l2 hl2
                          have z2 : (bs l2).size < 4294967281 := by have := chk_len cl2; simp [ByteArray.size]; omega
                          obtain ⟨x3, k3, h3⟩ := said_form (txt (dval a.data.toList - dval l2))
                          have F3 : ∀ W, Gd W → Calls Tryd.prog 24 #[.string a, .string (bs l2)] W fun e w' => e = .returned (.tuple #[.string x3, .int .i64 k3]) ∧ Below W.heap.size W w' := fun W hW => subYes a (bs l2) W hW za z2 ka cl2 x3 k3 h3
                          have G3 := Lib.hid F3
                          clear F3
                          obtain ⟨x4, k4, h4⟩ := said_form (txt (dmul c.data.toList ulp))
                          have F4 : ∀ W, Gd W → Calls Tryd.prog 26 #[.string c, .string ⟨#[48, 46, 48, 48, 48, 48, 48, 48, 48, 48, 48, 48, 48, 48, 48, 48, 48, 48, 48, 48, 48, 49]⟩] W fun e w' => e = .returned (.tuple #[.string x4, .int .i64 k4]) ∧ Below W.heap.size W w' := fun W hW =>
                            mulYes c ⟨#[48, 46, 48, 48, 48, 48, 48, 48, 48, 48, 48, 48, 48, 48, 48, 48, 48, 48, 48, 48, 48, 49]⟩ W hW zc (by decide) kc chkUlp x4 k4 h4
                          have G4 := Lib.hid F4
                          clear F4
                          rcases said_k h3 with rfl | rfl
                          case inr =>
                            clear ka kc h0 h1 h2 h3 h4 hl1 cl1 dl1 z1 hl2 cl2 dl2 z2
                            generalize bs l1 = X1 at *
                            generalize bs l2 = X2 at *
                            go_wp2_with (first
                              | (go_at_call 10; (with_reducible refine (shortB a _ _ SA).mono ?_); rintro e w' ⟨rfl, rfl⟩)
                              | (go_at_call 10; (with_reducible refine (shortB c _ _ SC).mono ?_); rintro e w' ⟨rfl, rfl⟩)
                              | (go_at_call 15; (with_reducible refine (checkB a _ _ I.g za KA).mono ?_); rintro e w1 ⟨rfl, hb1⟩; have I1 := I.step hb1)
                              | (go_at_call 15; (with_reducible refine (checkB c _ _ I1.g zc KC).mono ?_); rintro e w2 ⟨rfl, hb2⟩; have I2 := I1.step hb2)
                              | (go_at_call 28; (with_reducible refine (G1.out _ I2.g).mono ?_); rintro e w3 ⟨rfl, hb3⟩; have I3 := I2.step hb3)
                              | (go_at_call 26; (with_reducible refine (G2.out _ I3.g).mono ?_); rintro e w4 ⟨rfl, hb4⟩; have I4 := I3.step hb4)
                              | (go_at_call 24; (with_reducible refine (G3.out _ I4.g).mono ?_); rintro e w5 ⟨rfl, hb5⟩; have I5 := I4.step hb5)
                              | (go_at_call 26; (with_reducible refine (G4.out _ I5.g).mono ?_); rintro e w6 ⟨rfl, hb6⟩; have I6 := I5.step hb6))
                            all_goals (try (exfalso; omega))
                            go_roundg (gk - 1)
                            case measure => omega
                            case rel => exact ⟨j + 1, by omega, by go_num, I6⟩
                          case inl =>
                            rcases said_k h4 with rfl | rfl
                            case inr =>
                              clear ka kc h0 h1 h2 h3 h4 hl1 cl1 dl1 z1 hl2 cl2 dl2 z2
                              generalize bs l1 = X1 at *
                              generalize bs l2 = X2 at *
                              go_wp2_with (first
                                | (go_at_call 10; (with_reducible refine (shortB a _ _ SA).mono ?_); rintro e w' ⟨rfl, rfl⟩)
                                | (go_at_call 10; (with_reducible refine (shortB c _ _ SC).mono ?_); rintro e w' ⟨rfl, rfl⟩)
                                | (go_at_call 15; (with_reducible refine (checkB a _ _ I.g za KA).mono ?_); rintro e w1 ⟨rfl, hb1⟩; have I1 := I.step hb1)
                                | (go_at_call 15; (with_reducible refine (checkB c _ _ I1.g zc KC).mono ?_); rintro e w2 ⟨rfl, hb2⟩; have I2 := I1.step hb2)
                                | (go_at_call 28; (with_reducible refine (G1.out _ I2.g).mono ?_); rintro e w3 ⟨rfl, hb3⟩; have I3 := I2.step hb3)
                                | (go_at_call 26; (with_reducible refine (G2.out _ I3.g).mono ?_); rintro e w4 ⟨rfl, hb4⟩; have I4 := I3.step hb4)
                                | (go_at_call 24; (with_reducible refine (G3.out _ I4.g).mono ?_); rintro e w5 ⟨rfl, hb5⟩; have I5 := I4.step hb5)
                                | (go_at_call 26; (with_reducible refine (G4.out _ I5.g).mono ?_); rintro e w6 ⟨rfl, hb6⟩; have I6 := I5.step hb6))
                              all_goals (try (exfalso; omega))
                              go_roundg (gk - 1)
                              case measure => omega
                              case rel => exact ⟨j + 1, by omega, by go_num, I6⟩
                            case inl =>
                              obtain ⟨l3, hl3, rfl⟩ := said_ok h3 rfl
                              obtain ⟨l4, hl4, rfl⟩ := said_ok h4 rfl
                              have hal := dval_lt ka
                              have hcl := dval_lt cl2
                              have big : (10 : Nat) ^ 94 + 10 ^ 94 ≤ 10 ^ 144 := by decide
                              obtain ⟨cl3, dl3⟩ := txt_dec _ (by omega) l3 hl3
                              obtain ⟨cl4, dl4⟩ := txt_dec _ (dmul_lt kc chkUlp) l4 hl4
                              obtain ⟨q1, q2⟩ := cut_facts kc h0 dl1 dl2 dl3 dl4
                              obtain ⟨y1, zy1, cy1, dy1, A1⟩ := absAt a ka
                              obtain ⟨y2, zy2, cy2, dy2, A2⟩ := absAt (bs l2) cl2
                              obtain ⟨y3, zy3, cy3, dy3, A3⟩ := absAt (bs l3) cl3
                              obtain ⟨y4, zy4, cy4, dy4, A4⟩ := absAt (bs l4) cl4
                              obtain ⟨r, hr, hr0⟩ : ∃ r, r = cmpZ (dval y2.data.toList) (dval y1.data.toList) ∧ r ≤ 0 := ⟨_, rfl, by rw [dy1, dy2]; exact cmpZ_le (by exact_mod_cast q1)⟩
                              have F5 : ∀ W, Gd W → Calls Tryd.prog 20 #[.string y2, .string y1] W fun e w' => e = .returned (.int .i64 r) ∧ Below W.heap.size W w' := fun W hW => by rw [hr]; exact cmpYes y2 y1 W hW zy2 zy1 cy2 cy1
                              have F6 : ∀ W, Gd W → Calls Tryd.prog 20 #[.string y3, .string y4] W fun e w' => e = .returned (.int .i64 (-1)) ∧ Below W.heap.size W w' := fun W hW => by
                                have := cmpYes y3 y4 W hW zy3 zy4 cy3 cy4
                                rw [dy3, dy4, cmpZ_lt (by exact_mod_cast q2)] at this
                                exact this
                              have G5 := Lib.hid F5
                              have G6 := Lib.hid F6
                              have B1 := Lib.hid A1
                              have B2 := Lib.hid A2
                              have B3 := Lib.hid A3
                              have B4 := Lib.hid A4
                              clear F5 F6 A1 A2 A3 A4 ka kc h0 h1 h2 h3 h4 hl1 cl1 dl1 z1 hl2 cl2 dl2 z2 hl3 cl3 dl3 hl4 cl4 dl4 hal hcl big q1 q2 hr zy1 cy1 dy1 zy2 cy2 dy2 zy3 cy3 dy3 zy4 cy4 dy4
                              generalize bs l1 = X1 at *
                              generalize bs l2 = X2 at *
                              generalize bs l3 = X3 at *
                              generalize bs l4 = X4 at *
                              go_wp2_with (first
                                | (go_at_call 10; (with_reducible refine (shortB a _ _ SA).mono ?_); rintro e w' ⟨rfl, rfl⟩)
                                | (go_at_call 10; (with_reducible refine (shortB c _ _ SC).mono ?_); rintro e w' ⟨rfl, rfl⟩)
                                | (go_at_call 15; (with_reducible refine (checkB a _ _ I.g za KA).mono ?_); rintro e w1 ⟨rfl, hb1⟩; have I1 := I.step hb1)
                                | (go_at_call 15; (with_reducible refine (checkB c _ _ I1.g zc KC).mono ?_); rintro e w2 ⟨rfl, hb2⟩; have I2 := I1.step hb2)
                                | (go_at_call 28; (with_reducible refine (G1.out _ I2.g).mono ?_); rintro e w3 ⟨rfl, hb3⟩; have I3 := I2.step hb3)
                                | (go_at_call 26; (with_reducible refine (G2.out _ I3.g).mono ?_); rintro e w4 ⟨rfl, hb4⟩; have I4 := I3.step hb4)
                                | (go_at_call 24; (with_reducible refine (G3.out _ I4.g).mono ?_); rintro e w5 ⟨rfl, hb5⟩; have I5 := I4.step hb5)
                                | (go_at_call 26; (with_reducible refine (G4.out _ I5.g).mono ?_); rintro e w6 ⟨rfl, hb6⟩; have I6 := I5.step hb6)
                                | (go_at_call 34; (with_reducible refine (B2.out _ I6.g).mono ?_); rintro e w7 ⟨rfl, hb7⟩; have I7 := I6.step hb7)
                                | (go_at_call 34; (with_reducible refine (B1.out _ I7.g).mono ?_); rintro e w8 ⟨rfl, hb8⟩; have I8 := I7.step hb8)
                                | (go_at_call 20; (with_reducible refine (G5.out _ I8.g).mono ?_); rintro e w9 ⟨rfl, hb9⟩; have I9 := I8.step hb9)
                                | (go_at_call 34; (with_reducible refine (B3.out _ I9.g).mono ?_); rintro e w10 ⟨rfl, hb10⟩; have I10 := I9.step hb10)
                                | (go_at_call 34; (with_reducible refine (B4.out _ I10.g).mono ?_); rintro e w11 ⟨rfl, hb11⟩; have I11 := I10.step hb11)
                                | (go_at_call 20; (with_reducible refine (G6.out _ I11.g).mono ?_); rintro e w12 ⟨rfl, hb12⟩; have I12 := I11.step hb12))
                              all_goals (try (exfalso; omega))
                              go_roundg (gk - 1)
                              case measure => omega
                              case rel => exact ⟨j + 1, by omega, by go_num, I12⟩
          · have SC : Hid (false = decide (c.size ≤ 300)) := Lib.hid (by simp; omega)
            go_wp2_with (first
              | (go_at_call 10; (with_reducible refine (shortB a _ _ SA).mono ?_); rintro e w' ⟨rfl, rfl⟩)
              | (go_at_call 10; (with_reducible refine (shortB c _ _ SC).mono ?_); rintro e w' ⟨rfl, rfl⟩))
            all_goals (try (exfalso; omega))
            go_roundg (gk - 1)
            case measure => omega
            case rel => exact ⟨j + 1, by omega, by go_num, I⟩
        · have SA : Hid (false = decide (a.size ≤ 300)) := Lib.hid (by simp; omega)
          go_wp2_with (first
            | (go_at_call 10; (with_reducible refine (shortB a _ _ SA).mono ?_); rintro e w' ⟨rfl, rfl⟩))
          all_goals (try (exfalso; omega))
          go_roundg (gk - 1)
          case measure => omega
          case rel => exact ⟨j + 1, by omega, by go_num, I⟩
      · go_wp2_with (go_at_call 19; (with_reducible refine (wakesAt _ I.g I.t).mono ?_); rintro e w1 ⟨rfl, hb1⟩)
        go_ret
        exact ⟨rfl, (I.step hb1).bel⟩
    · go_wp2_with (go_at_call 19; (with_reducible refine (wakesAt _ I.g I.t).mono ?_); rintro e w1 ⟨rfl, hb1⟩)
      go_ret
      exact ⟨rfl, (I.step hb1).bel⟩
end Go.Proofs.YtabgilmehehbjaaDoor
