/- The law DecimalOrder, walked. -/
import Derived.Test.YtabgilmehehbjaaDoorO0
import Derived.Deep.QuietTactic
import Derived.BigQuiet
namespace Go.Proofs.YtabgilmehehbjaaDoor
open Go.RowKit

set_option maxRecDepth 20000 in
set_option maxHeartbeats 6400000 in
theorem orderSome (b off n cap : Nat) (v2 : Value) (S : Nat → ByteArray) (w : World) (hG : Gd w) (hT : Tab w) (hS : Strs w b off n S) (_hn : n ≤ maxLen) (hz : ∀ i, i < n → (S i).size ≤ maxLen) :
    Calls Tryd.prog 7 #[.agg #[.slice (some ⟨b, off, none⟩) n cap, v2]] w fun e w' => e = .returned (.bool true) ∧ Below w.heap.size w w' := by
  unfold maxLen at _hn
  have I0 := Inv.start (cap := cap) v2 hG hT hS
  clear hz
  go_enter Tryd.func7, Tryd.ntmps7
  go_wp2_with fail
  go_loopg [3] n (fun gg s3 wr => ∃ i : Nat, i + gg = n ∧ s3 = .int .i64 ((i : Int) + 2) ∧ Inv w b off n cap S wr)
  case atStart => exact ⟨0, by omega, rfl, I0⟩
  case round =>
    clear I0
    obtain ⟨j, hig, rfl, I⟩ := hrel
    have hp := I.cell
    by_cases hlt : (j : Int) + 2 < n
    · by_cases h12 : (j : Int) + 2 < 12
      · obtain ⟨a, ha⟩ : ∃ a, a = S j := ⟨_, rfl⟩
        obtain ⟨c, hc⟩ : ∃ c, c = S (j + 1) := ⟨_, rfl⟩
        obtain ⟨d, hd⟩ : ∃ d, d = S (j + 2) := ⟨_, rfl⟩
        have c1 : wr.cell? ⟨b, off + j, none⟩ = some (.string a) := by rw [ha]; exact I.s j (by omega)
        have c2 : wr.cell? ⟨b, off + (j + 1), none⟩ = some (.string c) := by rw [hc]; exact I.s (j + 1) (by omega)
        have c3 : wr.cell? ⟨b, off + (j + 2), none⟩ = some (.string d) := by rw [hd]; exact I.s (j + 2) (by omega)
        clear ha hc hd
        go_wp2_with fail
        go_quiet (fail)
        have I := I.step (below_drewN (Below.refl _ _) nq)
        generalize wr.drewN nq = wq at *
        clear c1 c2 c3 hp
        by_cases sa : a.size ≤ 300
        · have SA : Hid (true = decide (a.size ≤ 300)) := Lib.hid (by simp [sa])
          have za : a.size < 4294967281 := by omega
          by_cases sc : c.size ≤ 300
          · have SC : Hid (true = decide (c.size ≤ 300)) := Lib.hid (by simp [sc])
            have zc : c.size < 4294967281 := by omega
            by_cases sd : d.size ≤ 300
            · have SD : Hid (true = decide (d.size ≤ 300)) := Lib.hid (by simp [sd])
              have zd : d.size < 4294967281 := by omega
              cases ka : chk a.data.toList with
              | false =>
                have KA : Hid (false = chk a.data.toList) := Lib.hid ka.symm
                clear ka
                go_wp2_with (first
                  | (go_at_call 10; (with_reducible refine (shortB a _ _ SA).mono ?_); rintro e w' ⟨rfl, rfl⟩)
                  | (go_at_call 10; (with_reducible refine (shortB c _ _ SC).mono ?_); rintro e w' ⟨rfl, rfl⟩)
                  | (go_at_call 10; (with_reducible refine (shortB d _ _ SD).mono ?_); rintro e w' ⟨rfl, rfl⟩)
                  | (go_at_call 15; (with_reducible refine (checkB a _ _ I.g za KA).mono ?_); rintro e w1 ⟨rfl, hb1⟩; have I1 := I.step hb1))
                go_roundg (gk - 1)
                case measure => omega
                case rel => exact ⟨j + 1, by omega, by go_num, I1⟩
              | true =>
                have KA : Hid (true = chk a.data.toList) := Lib.hid ka.symm
                cases kc : chk c.data.toList with
                | false =>
                  have KC : Hid (false = chk c.data.toList) := Lib.hid kc.symm
                  clear ka kc
                  go_wp2_with (first
                    | (go_at_call 10; (with_reducible refine (shortB a _ _ SA).mono ?_); rintro e w' ⟨rfl, rfl⟩)
                    | (go_at_call 10; (with_reducible refine (shortB c _ _ SC).mono ?_); rintro e w' ⟨rfl, rfl⟩)
                    | (go_at_call 10; (with_reducible refine (shortB d _ _ SD).mono ?_); rintro e w' ⟨rfl, rfl⟩)
                    | (go_at_call 15; (with_reducible refine (checkB a _ _ I.g za KA).mono ?_); rintro e w1 ⟨rfl, hb1⟩; have I1 := I.step hb1)
                    | (go_at_call 15; (with_reducible refine (checkB c _ _ I1.g zc KC).mono ?_); rintro e w2 ⟨rfl, hb2⟩; have I2 := I1.step hb2))
                  go_roundg (gk - 1)
                  case measure => omega
                  case rel => exact ⟨j + 1, by omega, by go_num, I2⟩
                | true =>
                  have KC : Hid (true = chk c.data.toList) := Lib.hid kc.symm
                  cases kd : chk d.data.toList with
                  | false =>
                    have KD : Hid (false = chk d.data.toList) := Lib.hid kd.symm
                    clear ka kc kd
                    go_wp2_with (first
                      | (go_at_call 10; (with_reducible refine (shortB a _ _ SA).mono ?_); rintro e w' ⟨rfl, rfl⟩)
                      | (go_at_call 10; (with_reducible refine (shortB c _ _ SC).mono ?_); rintro e w' ⟨rfl, rfl⟩)
                      | (go_at_call 10; (with_reducible refine (shortB d _ _ SD).mono ?_); rintro e w' ⟨rfl, rfl⟩)
                      | (go_at_call 15; (with_reducible refine (checkB a _ _ I.g za KA).mono ?_); rintro e w1 ⟨rfl, hb1⟩; have I1 := I.step hb1)
                      | (go_at_call 15; (with_reducible refine (checkB c _ _ I1.g zc KC).mono ?_); rintro e w2 ⟨rfl, hb2⟩; have I2 := I1.step hb2)
                      | (go_at_call 15; (with_reducible refine (checkB d _ _ I2.g zd KD).mono ?_); rintro e w3 ⟨rfl, hb3⟩; have I3 := I2.step hb3))
                    go_roundg (gk - 1)
                    case measure => omega
                    case rel => exact ⟨j + 1, by omega, by go_num, I3⟩
                  | true =>
                    have KD : Hid (true = chk d.data.toList) := Lib.hid kd.symm
                    obtain ⟨x1, k1, h1⟩ := said_form (txt (dval a.data.toList - dval c.data.toList))
                    obtain ⟨x2, k2, h2⟩ := said_form (txt (dval a.data.toList + dval d.data.toList))
                    obtain ⟨x3, k3, h3⟩ := said_form (txt (dval c.data.toList + dval d.data.toList))
                    have hal := dval_lt ka
                    have hcl := dval_lt kc
                    have hdl := dval_lt kd
                    have big : (10 : Nat) ^ 94 + 10 ^ 94 ≤ 10 ^ 144 := by decide
                    obtain ⟨r, hr⟩ : ∃ r, r = cmpZ (dval a.data.toList) (dval c.data.toList) := ⟨_, rfl⟩
                    obtain ⟨s, hs⟩ : ∃ s, s = cmpZ (dval c.data.toList) (dval d.data.toList) := ⟨_, rfl⟩
                    obtain ⟨t, ht⟩ : ∃ t, t = cmpZ (dval a.data.toList) (dval d.data.toList) := ⟨_, rfl⟩
                    obtain ⟨rb1, rb2⟩ := cmpZ_bound (dval a.data.toList) (dval c.data.toList)
                    obtain ⟨sb1, sb2⟩ := cmpZ_bound (dval c.data.toList) (dval d.data.toList)
                    obtain ⟨tb1, tb2⟩ := cmpZ_bound (dval a.data.toList) (dval d.data.toList)
                    have tr1 := cmpZ_tr (dval a.data.toList) (dval c.data.toList) (dval d.data.toList)
                    have tr2 := cmpZ_tr2 (dval a.data.toList) (dval c.data.toList) (dval d.data.toList)
                    rw [← hr] at rb1 rb2 tr1 tr2
                    rw [← hs] at sb1 sb2 tr1 tr2
                    rw [← ht] at tb1 tb2 tr1 tr2
                    have F1 : ∀ W, Gd W → Calls Tryd.prog 20 #[.string a, .string c] W fun e w' => e = .returned (.int .i64 r) ∧ Below W.heap.size W w' := fun W hW => by rw [hr]; exact cmpYes a c W hW za zc ka kc
                    have F2 : ∀ W, Gd W → Calls Tryd.prog 20 #[.string c, .string d] W fun e w' => e = .returned (.int .i64 s) ∧ Below W.heap.size W w' := fun W hW => by rw [hs]; exact cmpYes c d W hW zc zd kc kd
                    have F3 : ∀ W, Gd W → Calls Tryd.prog 20 #[.string a, .string d] W fun e w' => e = .returned (.int .i64 t) ∧ Below W.heap.size W w' := fun W hW => by rw [ht]; exact cmpYes a d W hW za zd ka kd
                    have F4 : ∀ W, Gd W → Calls Tryd.prog 24 #[.string a, .string c] W fun e w' => e = .returned (.tuple #[.string x1, .int .i64 k1]) ∧ Below W.heap.size W w' := fun W hW => subYes a c W hW za zc ka kc x1 k1 h1
                    have F5 : k1 = 0 → ∀ W, Gd W → Calls Tryd.prog 20 #[.string x1, .string ⟨#[48, 46, 48]⟩] W fun e w' => e = .returned (.int .i64 r) ∧ Below W.heap.size W w' := fun hk W hW => by
                      obtain ⟨l, hl, hx⟩ := said_ok h1 hk
                      obtain ⟨cl, dl⟩ := txt_dec _ (by omega) l hl
                      have ll := chk_len cl
                      subst hx
                      have := cmpYes (bs l) ⟨#[48, 46, 48]⟩ W hW (by simp [ByteArray.size]; omega) (by decide) cl chk00
                      rw [show (bs l).data.toList = l from rfl, show (ByteArray.mk #[48, 46, 48]).data.toList = [48, 46, 48] from rfl, dl, val00, cmpZ_sub, ← hr] at this
                      exact this
                    have F6 : ∀ W, Gd W → Calls Tryd.prog 22 #[.string a, .string d] W fun e w' => e = .returned (.tuple #[.string x2, .int .i64 k2]) ∧ Below W.heap.size W w' := fun W hW => addYes a d W hW za zd ka kd x2 k2 h2
                    have F7 : ∀ W, Gd W → Calls Tryd.prog 22 #[.string c, .string d] W fun e w' => e = .returned (.tuple #[.string x3, .int .i64 k3]) ∧ Below W.heap.size W w' := fun W hW => addYes c d W hW zc zd kc kd x3 k3 h3
                    have F8 : k2 = 0 → k3 = 0 → ∀ W, Gd W → Calls Tryd.prog 20 #[.string x2, .string x3] W fun e w' => e = .returned (.int .i64 r) ∧ Below W.heap.size W w' := fun hk hk' W hW => by
                      obtain ⟨l, hl, hx⟩ := said_ok h2 hk
                      obtain ⟨cl, dl⟩ := txt_dec _ (by omega) l hl
                      have ll := chk_len cl
                      obtain ⟨m, hm, hy⟩ := said_ok h3 hk'
                      obtain ⟨cm, dm⟩ := txt_dec _ (by omega) m hm
                      have lm := chk_len cm
                      subst hx
                      subst hy
                      have := cmpYes (bs l) (bs m) W hW (by simp [ByteArray.size]; omega) (by simp [ByteArray.size]; omega) cl cm
                      rw [show (bs l).data.toList = l from rfl, show (bs m).data.toList = m from rfl, dl, dm, cmpZ_add, ← hr] at this
                      exact this
                    have hk1 := said_k h1
                    have hk2 := said_k h2
                    have hk3 := said_k h3
                    have G1 := Lib.hid F1
                    have G2 := Lib.hid F2
                    have G3 := Lib.hid F3
                    have G4 := Lib.hid F4
                    have G5 := Lib.hid F5
                    have G6 := Lib.hid F6
                    have G7 := Lib.hid F7
                    have G8 := Lib.hid F8
                    have HR : Hid ((-1 ≤ r ∧ r ≤ 1) ∧ (-1 ≤ s ∧ s ≤ 1) ∧ (-1 ≤ t ∧ t ≤ 1) ∧ (r ≤ 0 → s ≤ 0 → t ≤ 0) ∧ (r < 0 → s ≤ 0 → t < 0)) := Lib.hid ⟨⟨rb1, rb2⟩, ⟨sb1, sb2⟩, ⟨tb1, tb2⟩, tr1, tr2⟩
                    have HK := Lib.hid (And.intro hk1 (And.intro hk2 hk3))
                    clear F1 F2 F3 F4 F5 F6 F7 F8 ka kc kd h1 h2 h3 hal hcl hdl big hr hs ht rb1 rb2 sb1 sb2 tb1 tb2 tr1 tr2 hk1 hk2 hk3
                    go_upto_region 9 with (first
                      | (go_at_call 10; (with_reducible refine (shortB a _ _ SA).mono ?_); rintro e w' ⟨rfl, rfl⟩)
                      | (go_at_call 10; (with_reducible refine (shortB c _ _ SC).mono ?_); rintro e w' ⟨rfl, rfl⟩)
                      | (go_at_call 10; (with_reducible refine (shortB d _ _ SD).mono ?_); rintro e w' ⟨rfl, rfl⟩)
                      | (go_at_call 15; (with_reducible refine (checkB a _ _ I.g za KA).mono ?_); rintro e w1 ⟨rfl, hb1⟩; have I1 := I.step hb1)
                      | (go_at_call 15; (with_reducible refine (checkB c _ _ I1.g zc KC).mono ?_); rintro e w2 ⟨rfl, hb2⟩; have I2 := I1.step hb2)
                      | (go_at_call 15; (with_reducible refine (checkB d _ _ I2.g zd KD).mono ?_); rintro e w3 ⟨rfl, hb3⟩; have I3 := I2.step hb3)
                      | (go_at_call 20; (with_reducible refine (G1.out _ I3.g).mono ?_); rintro e w4 ⟨rfl, hb4⟩; have I4 := I3.step hb4)
                      | (go_at_call 20; (with_reducible refine (G2.out _ I4.g).mono ?_); rintro e w5 ⟨rfl, hb5⟩; have I5 := I4.step hb5)
                      | (go_at_call 20; (with_reducible refine (G3.out _ I5.g).mono ?_); rintro e w6 ⟨rfl, hb6⟩; have I6 := I5.step hb6))
                    go_cut [101] (fun s101 wx => s101 = .bool false ∧ Inv w b off n cap S wx)
                    case first =>
                      have Rb := HR.out
                      rcases (show r = -1 ∨ r = 0 ∨ r = 1 by omega) with rfl | rfl | rfl <;> rcases (show s = -1 ∨ s = 0 ∨ s = 1 by omega) with rfl | rfl | rfl <;> rcases (show t = -1 ∨ t = 0 ∨ t = 1 by omega) with rfl | rfl | rfl <;>
                        first
                        | (exfalso; omega)
                        | (clear Rb HR; go_wp2; go_meet; case rel => exact ⟨rfl, I6⟩)
                    case rest =>
                      obtain ⟨rfl, IC⟩ := hcut
                      obtain ⟨hk1, hk2, hk3⟩ := HK.out
                      clear HK HR
                      rcases hk1 with rfl | rfl
                      · have G9 := Lib.hid (G5.out rfl)
                        clear G5
                        rcases hk2 with rfl | rfl
                        · rcases hk3 with rfl | rfl
                          · have G10 := Lib.hid (G8.out rfl rfl)
                            clear G8
                            go_wp2_with (first
                              | (go_at_call 24; (with_reducible refine (G4.out _ IC.g).mono ?_); rintro e w7 ⟨rfl, hb7⟩; have I7 := IC.step hb7)
                              | (go_at_call 20; (with_reducible refine (G9.out _ I7.g).mono ?_); rintro e w8 ⟨rfl, hb8⟩; have I8 := I7.step hb8)
                              | (go_at_call 22; (with_reducible refine (G6.out _ (Inv.g (by assumption))).mono ?_); rintro e w9 ⟨rfl, hb9⟩; have I9 := Inv.step (by assumption) hb9)
                              | (go_at_call 22; (with_reducible refine (G7.out _ I9.g).mono ?_); rintro e w10 ⟨rfl, hb10⟩; have I10 := I9.step hb10)
                              | (go_at_call 20; (with_reducible refine (G10.out _ I10.g).mono ?_); rintro e w11 ⟨rfl, hb11⟩; have I11 := I10.step hb11))
                            go_roundg (gk - 1)
                            case measure => omega
                            case rel => exact ⟨j + 1, by omega, by go_num, I11⟩
                          · clear G8
                            go_wp2_with (first
                              | (go_at_call 24; (with_reducible refine (G4.out _ IC.g).mono ?_); rintro e w7 ⟨rfl, hb7⟩; have I7 := IC.step hb7)
                              | (go_at_call 20; (with_reducible refine (G9.out _ I7.g).mono ?_); rintro e w8 ⟨rfl, hb8⟩; have I8 := I7.step hb8)
                              | (go_at_call 22; (with_reducible refine (G6.out _ (Inv.g (by assumption))).mono ?_); rintro e w9 ⟨rfl, hb9⟩; have I9 := Inv.step (by assumption) hb9)
                              | (go_at_call 22; (with_reducible refine (G7.out _ I9.g).mono ?_); rintro e w10 ⟨rfl, hb10⟩; have I10 := I9.step hb10))
                            go_roundg (gk - 1)
                            case measure => omega
                            case rel => exact ⟨j + 1, by omega, by go_num, I10⟩
                        · clear G8
                          go_wp2_with (first
                            | (go_at_call 24; (with_reducible refine (G4.out _ IC.g).mono ?_); rintro e w7 ⟨rfl, hb7⟩; have I7 := IC.step hb7)
                            | (go_at_call 20; (with_reducible refine (G9.out _ I7.g).mono ?_); rintro e w8 ⟨rfl, hb8⟩; have I8 := I7.step hb8)
                            | (go_at_call 22; (with_reducible refine (G6.out _ (Inv.g (by assumption))).mono ?_); rintro e w9 ⟨rfl, hb9⟩; have I9 := Inv.step (by assumption) hb9)
                            | (go_at_call 22; (with_reducible refine (G7.out _ I9.g).mono ?_); rintro e w10 ⟨rfl, hb10⟩; have I10 := I9.step hb10))
                          go_roundg (gk - 1)
                          case measure => omega
                          case rel => exact ⟨j + 1, by omega, by go_num, I10⟩
                      · clear G5
                        rcases hk2 with rfl | rfl
                        · rcases hk3 with rfl | rfl
                          · have G10 := Lib.hid (G8.out rfl rfl)
                            clear G8
                            go_wp2_with (first
                              | (go_at_call 24; (with_reducible refine (G4.out _ IC.g).mono ?_); rintro e w7 ⟨rfl, hb7⟩; have I7 := IC.step hb7)
                              | (go_at_call 22; (with_reducible refine (G6.out _ (Inv.g (by assumption))).mono ?_); rintro e w9 ⟨rfl, hb9⟩; have I9 := Inv.step (by assumption) hb9)
                              | (go_at_call 22; (with_reducible refine (G7.out _ I9.g).mono ?_); rintro e w10 ⟨rfl, hb10⟩; have I10 := I9.step hb10)
                              | (go_at_call 20; (with_reducible refine (G10.out _ I10.g).mono ?_); rintro e w11 ⟨rfl, hb11⟩; have I11 := I10.step hb11))
                            go_roundg (gk - 1)
                            case measure => omega
                            case rel => exact ⟨j + 1, by omega, by go_num, I11⟩
                          · clear G8
                            go_wp2_with (first
                              | (go_at_call 24; (with_reducible refine (G4.out _ IC.g).mono ?_); rintro e w7 ⟨rfl, hb7⟩; have I7 := IC.step hb7)
                              | (go_at_call 22; (with_reducible refine (G6.out _ (Inv.g (by assumption))).mono ?_); rintro e w9 ⟨rfl, hb9⟩; have I9 := Inv.step (by assumption) hb9)
                              | (go_at_call 22; (with_reducible refine (G7.out _ I9.g).mono ?_); rintro e w10 ⟨rfl, hb10⟩; have I10 := I9.step hb10))
                            go_roundg (gk - 1)
                            case measure => omega
                            case rel => exact ⟨j + 1, by omega, by go_num, I10⟩
                        · clear G8
                          go_wp2_with (first
                            | (go_at_call 24; (with_reducible refine (G4.out _ IC.g).mono ?_); rintro e w7 ⟨rfl, hb7⟩; have I7 := IC.step hb7)
                            | (go_at_call 22; (with_reducible refine (G6.out _ (Inv.g (by assumption))).mono ?_); rintro e w9 ⟨rfl, hb9⟩; have I9 := Inv.step (by assumption) hb9)
                            | (go_at_call 22; (with_reducible refine (G7.out _ I9.g).mono ?_); rintro e w10 ⟨rfl, hb10⟩; have I10 := I9.step hb10))
                          go_roundg (gk - 1)
                          case measure => omega
                          case rel => exact ⟨j + 1, by omega, by go_num, I10⟩
            · have SD : Hid (false = decide (d.size ≤ 300)) := Lib.hid (by simp; omega)
              go_wp2_with (first
                | (go_at_call 10; (with_reducible refine (shortB a _ _ SA).mono ?_); rintro e w' ⟨rfl, rfl⟩)
                | (go_at_call 10; (with_reducible refine (shortB c _ _ SC).mono ?_); rintro e w' ⟨rfl, rfl⟩)
                | (go_at_call 10; (with_reducible refine (shortB d _ _ SD).mono ?_); rintro e w' ⟨rfl, rfl⟩))
              go_roundg (gk - 1)
              case measure => omega
              case rel => exact ⟨j + 1, by omega, by go_num, I⟩
          · have SC : Hid (false = decide (c.size ≤ 300)) := Lib.hid (by simp; omega)
            go_wp2_with (first
              | (go_at_call 10; (with_reducible refine (shortB a _ _ SA).mono ?_); rintro e w' ⟨rfl, rfl⟩)
              | (go_at_call 10; (with_reducible refine (shortB c _ _ SC).mono ?_); rintro e w' ⟨rfl, rfl⟩))
            go_roundg (gk - 1)
            case measure => omega
            case rel => exact ⟨j + 1, by omega, by go_num, I⟩
        · have SA : Hid (false = decide (a.size ≤ 300)) := Lib.hid (by simp; omega)
          go_wp2_with (first
            | (go_at_call 10; (with_reducible refine (shortB a _ _ SA).mono ?_); rintro e w' ⟨rfl, rfl⟩))
          go_roundg (gk - 1)
          case measure => omega
          case rel => exact ⟨j + 1, by omega, by go_num, I⟩
      · go_wp2_with (go_at_call 19; (with_reducible refine (wakesAt _ I.g I.t).mono ?_); rintro e w1 ⟨rfl, hb1⟩)
        go_ret
        exact ⟨rfl, (I.step hb1).bel⟩
    · go_wp2_with (go_at_call 19; (with_reducible refine (wakesAt _ I.g I.t).mono ?_); rintro e w1 ⟨rfl, hb1⟩)
      go_ret
      exact ⟨rfl, (I.step hb1).bel⟩
end Go.Proofs.YtabgilmehehbjaaDoor
