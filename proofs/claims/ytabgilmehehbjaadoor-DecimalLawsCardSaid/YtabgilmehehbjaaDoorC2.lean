/- The law DecimalLaws, walked. -/
import Derived.Test.YtabgilmehehbjaaDoorC1
import Derived.BigGuardPart
import Derived.Deep.DeepCutAuto
namespace Go.Proofs.YtabgilmehehbjaaDoor
open Go.RowKit

theorem readDec (s : ByteArray) (w : World) (hG : Gd w) (hs : s.size < 4294967281) (h : chk s.data.toList = true) :
    Calls Tryd.prog 11 #[.string s] w fun e w' => e = .returned (.tuple #[.string s, .int .i64 0]) ∧ Below w.heap.size w w' := by
  have h' : readP s.data.toList = some (some s.data.toList) := by simpa [chk] using h
  have := readAt s w hG hs
  rw [h'] at this
  exact this
theorem shortB (s : ByteArray) (d : Bool) (w : World) (h : Hid (d = decide (s.size ≤ 300))) :
    Calls Tryd.prog 10 #[.string s] w fun e w' => e = .returned (.bool d) ∧ w = w' := by
  rw [h.out]
  go_enter Tryd.func10, Tryd.ntmps10
  go_wp2
  go_ret
  exact ⟨by simp; omega, rfl⟩
theorem checkB (s : ByteArray) (d : Bool) (w : World) (hG : Gd w) (hs : s.size < 4294967281) (h : Hid (d = chk s.data.toList)) :
    Calls Tryd.prog 15 #[.string s] w fun e w' => e = .returned (.bool d) ∧ Below w.heap.size w w' := by
  rw [h.out]; exact checkAt s w hG hs

/-- The strings of the argument, in memory. -/
def Strs (w : World) (b off n : Nat) (S : Nat → ByteArray) : Prop := ∀ i, i < n → w.cell? ⟨b, off + i, none⟩ = some (.string (S i))
theorem Strs.below {w w' : World} {b off n : Nat} {S : Nat → ByteArray} (h : Strs w b off n S) (k : Below w.heap.size w w') : Strs w' b off n S := fun i hi =>
  (k.cell (p := ⟨b, off + i, none⟩) (World.block_lt_of_cell? w _ (h i hi))).trans (h i hi)

theorem chk_len {l : List UInt8} (h : chk l = true) : l.length ≤ 62 := by
  obtain ⟨n, a, b, hsp, ha, hb, la, lb, hw, _⟩ := chk_parts l h
  unfold wr at hw
  simp only at hw
  split at hw
  · cases hw
  · rename_i hl
    have h1 : (orN (Lib.trimLeftB a 48)).length ≤ 40 := orN_len (by omega) (by omega)
    have h2 : (orN (Lib.trimRightB b 48)).length ≤ 20 := orN_len (by omega) (by omega)
    rw [← Option.some.inj hw]
    simp only [List.length_append, List.length_cons]
    split <;> simp <;> omega
theorem said_ok {z : Int} {x : ByteArray} {k : Int} (h : said (txt z) = .tuple #[.string x, .int .i64 k]) (hk : k = 0) : ∃ l, txt z = some l ∧ x = bs l := by
  cases e : txt z with
  | none => rw [e, hk] at h; simp [said] at h
  | some l => rw [e] at h; simp [said] at h; exact ⟨l, rfl, h.1.symm⟩
theorem said_k {z : Int} {x : ByteArray} {k : Int} (h : said (txt z) = .tuple #[.string x, .int .i64 k]) : k = 0 ∨ k = 2 := by
  cases e : txt z with
  | none => rw [e] at h; simp [said] at h; exact .inr h.2.symm
  | some l => rw [e] at h; simp [said] at h; exact .inl h.2.symm

/-- What holds at every call of a law's round. -/
structure Inv (w : World) (b off n cap : Nat) (S : Nat → ByteArray) (wr : World) : Prop where
  cell : wr.cell? ⟨w.heap.size, 0, none⟩ = some (.slice (some ⟨b, off, none⟩) n cap)
  lt : w.heap.size < wr.heap.size
  bel : Below w.heap.size w wr
  g : Gd wr
  t : Tab wr
  s : Strs wr b off n S
theorem Inv.step {w wr w' : World} {b off n cap : Nat} {S : Nat → ByteArray} (h : Inv w b off n cap S wr) (k : Below wr.heap.size wr w') : Inv w b off n cap S w' :=
  ⟨(k.cell (p := ⟨w.heap.size, 0, none⟩) h.lt).trans h.cell, Nat.lt_of_lt_of_le h.lt k.size, below_any h.bel k (Nat.le_of_lt h.lt), h.g.below k, h.t.below k, h.s.below k⟩
theorem Inv.start {w : World} {b off n cap : Nat} {S : Nat → ByteArray} (v2 : Value) (hG : Gd w) (hT : Tab w) (hS : Strs w b off n S) :
    Inv w b off n cap S (w.alloc (.cells #[.slice (some ⟨b, off, none⟩) n cap, v2] 25)) := by
  have hb0 : Below w.heap.size w (w.alloc (.cells #[.slice (some ⟨b, off, none⟩) n cap, v2] 25)) := (Below.refl _ _).alloc (Nat.le_refl _) _
  exact ⟨cell_of (heap_new _ _ rfl) _ rfl, by simp, hb0, hG.below hb0, hT.below hb0, hS.below hb0⟩

set_option maxRecDepth 20000 in
set_option maxHeartbeats 6400000 in
theorem lawsSome (b off n cap : Nat) (v2 : Value) (S : Nat → ByteArray) (w : World) (hG : Gd w) (hT : Tab w) (hS : Strs w b off n S) (hn : n ≤ maxLen) (hz : ∀ i, i < n → (S i).size ≤ maxLen) :
    Calls Tryd.prog 6 #[.agg #[.slice (some ⟨b, off, none⟩) n cap, v2]] w fun e w' => e = .returned (.bool true) ∧ Below w.heap.size w w' := by
  unfold maxLen at hn
  have I0 := Inv.start (cap := cap) v2 hG hT hS
  have HZ := Lib.hid hz
  clear hz
  go_enter Tryd.func6, Tryd.ntmps6
  go_wp2_with fail
  go_loopg [3] n (fun gg s3 wr => ∃ i : Nat, i + gg = n ∧ s3 = .int .i64 ((i : Int) + 1) ∧ Inv w b off n cap S wr)
  case atStart => exact ⟨0, by omega, rfl, I0⟩
  case round =>
    clear I0
    obtain ⟨j, hig, rfl, I⟩ := hrel
    have hp := I.cell
    by_cases hlt : (j : Int) + 1 < n
    · by_cases h12 : (j : Int) + 1 < 12
      · obtain ⟨a, ha⟩ : ∃ a, a = S j := ⟨_, rfl⟩
        obtain ⟨c, hc⟩ : ∃ c, c = S (j + 1) := ⟨_, rfl⟩
        have c1 : wr.cell? ⟨b, off + j, none⟩ = some (.string a) := by rw [ha]; exact I.s j (by omega)
        have c2 : wr.cell? ⟨b, off + (j + 1), none⟩ = some (.string c) := by rw [hc]; exact I.s (j + 1) (by omega)
        clear ha hc
        by_cases sa : a.size ≤ 300
        · have SA : Hid (true = decide (a.size ≤ 300)) := Lib.hid (by simp [sa])
          have za : a.size < 4294967281 := by omega
          by_cases sc : c.size ≤ 300
          · have SC : Hid (true = decide (c.size ≤ 300)) := Lib.hid (by simp [sc])
            have zc : c.size < 4294967281 := by omega
            cases ka : chk a.data.toList with
            | false =>
              have KA : Hid (false = chk a.data.toList) := Lib.hid ka.symm
              clear ka
              go_wp2_with (first
                | (go_at_call 10; (with_reducible refine (shortB a _ _ SA).mono ?_); rintro e w' ⟨rfl, rfl⟩)
                | (go_at_call 10; (with_reducible refine (shortB c _ _ SC).mono ?_); rintro e w' ⟨rfl, rfl⟩)
                | (go_at_call 15; (with_reducible refine (checkB a _ _ I.g za KA).mono ?_); rintro e w1 ⟨rfl, hb1⟩; have I1 := I.step hb1))
              go_roundg (gk - 1)
              case measure => omega
              case rel => exact ⟨j + 1, by omega, by go_num, I1⟩
            | true =>
              have KA : Hid (true = chk a.data.toList) := Lib.hid ka.symm
              cases kc : chk c.data.toList with
              | false =>
                have KC : Hid (false = chk c.data.toList) := Lib.hid kc.symm
                clear ka kc
                go_wp2_with (first
                  | (go_at_call 10; (with_reducible refine (shortB a _ _ SA).mono ?_); rintro e w' ⟨rfl, rfl⟩)
                  | (go_at_call 10; (with_reducible refine (shortB c _ _ SC).mono ?_); rintro e w' ⟨rfl, rfl⟩)
                  | (go_at_call 15; (with_reducible refine (checkB a _ _ I.g za KA).mono ?_); rintro e w1 ⟨rfl, hb1⟩; have I1 := I.step hb1)
                  | (go_at_call 15; (with_reducible refine (checkB c _ _ I1.g zc KC).mono ?_); rintro e w2 ⟨rfl, hb2⟩; have I2 := I1.step hb2))
                go_roundg (gk - 1)
                case measure => omega
                case rel => exact ⟨j + 1, by omega, by go_num, I2⟩
              | true =>
                have KC : Hid (true = chk c.data.toList) := Lib.hid kc.symm
                obtain ⟨da, _, _, _, _⟩ := chk_dec _ ka
                obtain ⟨x1, k1, h1⟩ := said_form (txt (dval a.data.toList + dval c.data.toList))
                obtain ⟨x2, k2, h2⟩ := said_form (txt (dmul a.data.toList c.data.toList))
                obtain ⟨na, ena⟩ := txt_neg (chk_dec _ ka).1
                obtain ⟨nc, enc⟩ := txt_neg (chk_dec _ kc).1
                have hal := dval_lt ka
                have hcl := dval_lt kc
                have big : (10 : Nat) ^ 94 + 10 ^ 94 ≤ 10 ^ 144 := by decide
                obtain ⟨cna, dna⟩ := txt_dec _ (by rw [Int.natAbs_neg]; omega) na ena
                obtain ⟨cnc, dnc⟩ := txt_dec _ (by rw [Int.natAbs_neg]; omega) nc enc
                have lna := chk_len cna
                have lnc := chk_len cnc
                obtain ⟨r, hr⟩ : ∃ r, r = cmpZ (dval a.data.toList) (dval c.data.toList) := ⟨_, rfl⟩
                obtain ⟨rb1, rb2⟩ := cmpZ_bound (dval a.data.toList) (dval c.data.toList)
                rw [← hr] at rb1 rb2
                obtain ⟨q, hq⟩ : ∃ q, (a.toList == c.toList) = q := ⟨_, rfl⟩
                have hrq : (r == 0) = q := by
                  rw [← hq, Bool.eq_iff_iff, beq_iff_eq, beq_iff_eq, hr, cmpZ_zero, dval_inj ka kc, ByteArray.toList_eq, ByteArray.toList_eq]
                have F1 : ∀ W, Gd W → Calls Tryd.prog 11 #[.string a] W fun e w' => e = .returned (.tuple #[.string a, .int .i64 0]) ∧ Below W.heap.size W w' := fun W hW => readDec a W hW za ka
                have F2 : ∀ W, Gd W → Calls Tryd.prog 22 #[.string a, .string c] W fun e w' => e = .returned (.tuple #[.string x1, .int .i64 k1]) ∧ Below W.heap.size W w' := fun W hW => addYes a c W hW za zc ka kc x1 k1 h1
                have F3 : ∀ W, Gd W → Calls Tryd.prog 22 #[.string c, .string a] W fun e w' => e = .returned (.tuple #[.string x1, .int .i64 k1]) ∧ Below W.heap.size W w' := fun W hW => addYes c a W hW zc za kc ka x1 k1 (by rw [Int.add_comm]; exact h1)
                have F4 : ∀ W, Gd W → Calls Tryd.prog 26 #[.string a, .string c] W fun e w' => e = .returned (.tuple #[.string x2, .int .i64 k2]) ∧ Below W.heap.size W w' := fun W hW => mulYes a c W hW za zc ka kc x2 k2 h2
                have F5 : ∀ W, Gd W → Calls Tryd.prog 26 #[.string c, .string a] W fun e w' => e = .returned (.tuple #[.string x2, .int .i64 k2]) ∧ Below W.heap.size W w' := fun W hW => mulYes c a W hW zc za kc ka x2 k2 (by rw [dmul_comm]; exact h2)
                have F6 : ∀ W, Gd W → Calls Tryd.prog 20 #[.string a, .string c] W fun e w' => e = .returned (.int .i64 r) ∧ Below W.heap.size W w' := fun W hW => by rw [hr]; exact cmpYes a c W hW za zc ka kc
                have F7 : ∀ W, Gd W → Calls Tryd.prog 20 #[.string c, .string a] W fun e w' => e = .returned (.int .i64 (-r)) ∧ Below W.heap.size W w' := fun W hW => by rw [hr, ← cmpZ_swap]; exact cmpYes c a W hW zc za kc ka
                have F8 : ∀ W, Gd W → Calls Tryd.prog 30 #[.string a] W fun e w' => e = .returned (.tuple #[.string (bs na), .int .i64 0]) ∧ Below W.heap.size W w' := fun W hW => negYes a W hW za ka (bs na) 0 (by rw [ena]; rfl)
                have F9 : ∀ W, Gd W → Calls Tryd.prog 30 #[.string c] W fun e w' => e = .returned (.tuple #[.string (bs nc), .int .i64 0]) ∧ Below W.heap.size W w' := fun W hW => negYes c W hW zc kc (bs nc) 0 (by rw [enc]; rfl)
                have F10 : ∀ W, Gd W → Calls Tryd.prog 20 #[.string (bs na), .string (bs nc)] W fun e w' => e = .returned (.int .i64 (-r)) ∧ Below W.heap.size W w' := fun W hW => by
                  have := cmpYes (bs na) (bs nc) W hW (by simp [ByteArray.size]; omega) (by simp [ByteArray.size]; omega) cna cnc
                  rw [show (bs na).data.toList = na from rfl, show (bs nc).data.toList = nc from rfl, dna, dnc, cmpZ_neg, ← hr] at this
                  exact this
                have F11 : k1 = 0 → ∀ W, Gd W → Calls Tryd.prog 24 #[.string x1, .string c] W fun e w' => e = .returned (.tuple #[.string a, .int .i64 0]) ∧ Below W.heap.size W w' := fun hk W hW => by
                  obtain ⟨l, hl, hx⟩ := said_ok h1 hk
                  obtain ⟨cl, dl⟩ := txt_dec _ (by omega) l hl
                  have ll := chk_len cl
                  subst hx
                  refine subYes (bs l) c W hW (by simp [ByteArray.size]; omega) zc cl kc a 0 ?_
                  rw [show (bs l).data.toList = l from rfl, dl, Int.add_sub_cancel, da]
                  rfl
                have F12 : k2 = 0 → (c.toList == [48, 46, 48]) = false → ∀ W, Gd W → Calls Tryd.prog 28 #[.string x2, .string c] W fun e w' => e = .returned (.tuple #[.string a, .int .i64 0]) ∧ Below W.heap.size W w' := fun hk hne W hW => by
                  obtain ⟨l, hl, hx⟩ := said_ok h2 hk
                  obtain ⟨cl, dl⟩ := txt_dec _ (dmul_lt ka kc) l hl
                  have ll := chk_len cl
                  subst hx
                  have h0 : damt c.data.toList ≠ 0 := fun h => by
                    have := dec_zero kc h
                    rw [ByteArray.toList_eq, this] at hne
                    simp at hne
                  refine divYes (bs l) c W hW (by simp [ByteArray.size]; omega) zc cl kc h0 a 0 ?_
                  rw [show (bs l).data.toList = l from rfl, quo_mul ka kc h0 hl, da]
                  rfl
                have hk1 := said_k h1
                have hk2 := said_k h2
                have G1 := Lib.hid F1
                have G2 := Lib.hid F2
                have G3 := Lib.hid F3
                have G4 := Lib.hid F4
                have G5 := Lib.hid F5
                have G6 := Lib.hid F6
                have G7 := Lib.hid F7
                have G8 := Lib.hid F8
                have G9 := Lib.hid F9
                have G10 := Lib.hid F10
                have G11 := Lib.hid F11
                have G12 := Lib.hid F12
                clear F1 F2 F3 F4 F5 F6 F7 F8 F9 F10 F11 F12 ka kc da h1 h2 ena enc hal hcl big cna dna cnc dnc lna lnc hr
                generalize bs na = NA at *
                generalize bs nc = NC at *
                have IW := Lib.hid (I.step (Below.refl _ _))
                rcases hk1 with rfl | rfl <;> rcases hk2 with rfl | rfl
                · cases hz0 : (c.toList == [48, 46, 48])
                  · have G13 := Lib.hid (G12.out rfl hz0)
                    have G14 := Lib.hid (G11.out rfl)
                    clear G11 G12
                    go_wp2_with (first
                      | (go_at_call 10; (with_reducible refine (shortB a _ _ SA).mono ?_); rintro e w' ⟨rfl, rfl⟩)
                      | (go_at_call 10; (with_reducible refine (shortB c _ _ SC).mono ?_); rintro e w' ⟨rfl, rfl⟩)
                      | (go_at_call 15; (with_reducible refine (checkB a _ _ I.g za KA).mono ?_); rintro e w1 ⟨rfl, hb1⟩; have I1 := I.step hb1)
                      | (go_at_call 15; (with_reducible refine (checkB c _ _ I1.g zc KC).mono ?_); rintro e w2 ⟨rfl, hb2⟩; have I2 := I1.step hb2)
                      | (go_at_call 11; (with_reducible refine (G1.out _ I2.g).mono ?_); rintro e w3 ⟨rfl, hb3⟩; have I3 := I2.step hb3)
                      | (go_at_call 22; (with_reducible refine (G2.out _ I3.g).mono ?_); rintro e w4 ⟨rfl, hb4⟩; have I4 := I3.step hb4)
                      | (go_at_call 22; (with_reducible refine (G3.out _ I4.g).mono ?_); rintro e w5 ⟨rfl, hb5⟩; have I5 := I4.step hb5)
                      | (go_at_call 26; (with_reducible refine (G4.out _ (Inv.g (by assumption))).mono ?_); rintro e w7 ⟨rfl, hb7⟩; have I7 := Inv.step (by assumption) hb7)
                      | (go_at_call 26; (with_reducible refine (G5.out _ I7.g).mono ?_); rintro e w8 ⟨rfl, hb8⟩; have I8 := I7.step hb8)
                      | (go_at_call 20; (with_reducible refine (G6.out _ (Inv.g (by assumption))).mono ?_); rintro e w10 ⟨rfl, hb10⟩; have I10 := Inv.step (by assumption) hb10)
                      | (go_at_call 30; (with_reducible refine (G8.out _ I10.g).mono ?_); rintro e w11 ⟨rfl, hb11⟩; have I11 := I10.step hb11)
                      | (go_at_call 30; (with_reducible refine (G9.out _ I11.g).mono ?_); rintro e w12 ⟨rfl, hb12⟩; have I12 := I11.step hb12)
                      | (go_at_call 20; (with_reducible refine (G7.out _ I12.g).mono ?_); rintro e w13 ⟨rfl, hb13⟩; have I13 := I12.step hb13)
                      | (go_at_call 20; (with_reducible refine (G10.out _ I13.g).mono ?_); rintro e w14 ⟨rfl, hb14⟩; have I14 := I13.step hb14)
                      | (go_at_call 24; (with_reducible refine (G14.out _ (Inv.g (by assumption))).mono ?_); rintro e w6 ⟨rfl, hb6⟩; have I6 := I5.step hb6)
                      | (go_at_call 28; (with_reducible refine (G13.out _ (Inv.g (by assumption))).mono ?_); rintro e w9 ⟨rfl, hb9⟩; have I9 := I8.step hb9))
                    go_roundg (gk - 1)
                    case measure => omega
                    case rel => exact ⟨j + 1, by omega, by go_num, I14⟩
                  · have G14 := Lib.hid (G11.out rfl)
                    clear G11 G12
                    go_wp2_with (first
                      | (go_at_call 10; (with_reducible refine (shortB a _ _ SA).mono ?_); rintro e w' ⟨rfl, rfl⟩)
                      | (go_at_call 10; (with_reducible refine (shortB c _ _ SC).mono ?_); rintro e w' ⟨rfl, rfl⟩)
                      | (go_at_call 15; (with_reducible refine (checkB a _ _ I.g za KA).mono ?_); rintro e w1 ⟨rfl, hb1⟩; have I1 := I.step hb1)
                      | (go_at_call 15; (with_reducible refine (checkB c _ _ I1.g zc KC).mono ?_); rintro e w2 ⟨rfl, hb2⟩; have I2 := I1.step hb2)
                      | (go_at_call 11; (with_reducible refine (G1.out _ I2.g).mono ?_); rintro e w3 ⟨rfl, hb3⟩; have I3 := I2.step hb3)
                      | (go_at_call 22; (with_reducible refine (G2.out _ I3.g).mono ?_); rintro e w4 ⟨rfl, hb4⟩; have I4 := I3.step hb4)
                      | (go_at_call 22; (with_reducible refine (G3.out _ I4.g).mono ?_); rintro e w5 ⟨rfl, hb5⟩; have I5 := I4.step hb5)
                      | (go_at_call 26; (with_reducible refine (G4.out _ (Inv.g (by assumption))).mono ?_); rintro e w7 ⟨rfl, hb7⟩; have I7 := Inv.step (by assumption) hb7)
                      | (go_at_call 26; (with_reducible refine (G5.out _ I7.g).mono ?_); rintro e w8 ⟨rfl, hb8⟩; have I8 := I7.step hb8)
                      | (go_at_call 20; (with_reducible refine (G6.out _ (Inv.g (by assumption))).mono ?_); rintro e w10 ⟨rfl, hb10⟩; have I10 := Inv.step (by assumption) hb10)
                      | (go_at_call 30; (with_reducible refine (G8.out _ I10.g).mono ?_); rintro e w11 ⟨rfl, hb11⟩; have I11 := I10.step hb11)
                      | (go_at_call 30; (with_reducible refine (G9.out _ I11.g).mono ?_); rintro e w12 ⟨rfl, hb12⟩; have I12 := I11.step hb12)
                      | (go_at_call 20; (with_reducible refine (G7.out _ I12.g).mono ?_); rintro e w13 ⟨rfl, hb13⟩; have I13 := I12.step hb13)
                      | (go_at_call 20; (with_reducible refine (G10.out _ I13.g).mono ?_); rintro e w14 ⟨rfl, hb14⟩; have I14 := I13.step hb14)
                      | (go_at_call 24; (with_reducible refine (G14.out _ (Inv.g (by assumption))).mono ?_); rintro e w6 ⟨rfl, hb6⟩; have I6 := I5.step hb6))
                    go_roundg (gk - 1)
                    case measure => omega
                    case rel => exact ⟨j + 1, by omega, by go_num, I14⟩
                · have G14 := Lib.hid (G11.out rfl)
                  clear G11 G12
                  go_wp2_with (first
                    | (go_at_call 10; (with_reducible refine (shortB a _ _ SA).mono ?_); rintro e w' ⟨rfl, rfl⟩)
                    | (go_at_call 10; (with_reducible refine (shortB c _ _ SC).mono ?_); rintro e w' ⟨rfl, rfl⟩)
                    | (go_at_call 15; (with_reducible refine (checkB a _ _ I.g za KA).mono ?_); rintro e w1 ⟨rfl, hb1⟩; have I1 := I.step hb1)
                    | (go_at_call 15; (with_reducible refine (checkB c _ _ I1.g zc KC).mono ?_); rintro e w2 ⟨rfl, hb2⟩; have I2 := I1.step hb2)
                    | (go_at_call 11; (with_reducible refine (G1.out _ I2.g).mono ?_); rintro e w3 ⟨rfl, hb3⟩; have I3 := I2.step hb3)
                    | (go_at_call 22; (with_reducible refine (G2.out _ I3.g).mono ?_); rintro e w4 ⟨rfl, hb4⟩; have I4 := I3.step hb4)
                    | (go_at_call 22; (with_reducible refine (G3.out _ I4.g).mono ?_); rintro e w5 ⟨rfl, hb5⟩; have I5 := I4.step hb5)
                    | (go_at_call 26; (with_reducible refine (G4.out _ (Inv.g (by assumption))).mono ?_); rintro e w7 ⟨rfl, hb7⟩; have I7 := Inv.step (by assumption) hb7)
                    | (go_at_call 26; (with_reducible refine (G5.out _ I7.g).mono ?_); rintro e w8 ⟨rfl, hb8⟩; have I8 := I7.step hb8)
                    | (go_at_call 20; (with_reducible refine (G6.out _ (Inv.g (by assumption))).mono ?_); rintro e w10 ⟨rfl, hb10⟩; have I10 := Inv.step (by assumption) hb10)
                    | (go_at_call 30; (with_reducible refine (G8.out _ I10.g).mono ?_); rintro e w11 ⟨rfl, hb11⟩; have I11 := I10.step hb11)
                    | (go_at_call 30; (with_reducible refine (G9.out _ I11.g).mono ?_); rintro e w12 ⟨rfl, hb12⟩; have I12 := I11.step hb12)
                    | (go_at_call 20; (with_reducible refine (G7.out _ I12.g).mono ?_); rintro e w13 ⟨rfl, hb13⟩; have I13 := I12.step hb13)
                    | (go_at_call 20; (with_reducible refine (G10.out _ I13.g).mono ?_); rintro e w14 ⟨rfl, hb14⟩; have I14 := I13.step hb14)
                    | (go_at_call 24; (with_reducible refine (G14.out _ (Inv.g (by assumption))).mono ?_); rintro e w6 ⟨rfl, hb6⟩; have I6 := I5.step hb6))
                  go_roundg (gk - 1)
                  case measure => omega
                  case rel => exact ⟨j + 1, by omega, by go_num, I14⟩
                · cases hz0 : (c.toList == [48, 46, 48])
                  · have G13 := Lib.hid (G12.out rfl hz0)
                    clear G11 G12
                    go_wp2_with (first
                      | (go_at_call 10; (with_reducible refine (shortB a _ _ SA).mono ?_); rintro e w' ⟨rfl, rfl⟩)
                      | (go_at_call 10; (with_reducible refine (shortB c _ _ SC).mono ?_); rintro e w' ⟨rfl, rfl⟩)
                      | (go_at_call 15; (with_reducible refine (checkB a _ _ I.g za KA).mono ?_); rintro e w1 ⟨rfl, hb1⟩; have I1 := I.step hb1)
                      | (go_at_call 15; (with_reducible refine (checkB c _ _ I1.g zc KC).mono ?_); rintro e w2 ⟨rfl, hb2⟩; have I2 := I1.step hb2)
                      | (go_at_call 11; (with_reducible refine (G1.out _ I2.g).mono ?_); rintro e w3 ⟨rfl, hb3⟩; have I3 := I2.step hb3)
                      | (go_at_call 22; (with_reducible refine (G2.out _ I3.g).mono ?_); rintro e w4 ⟨rfl, hb4⟩; have I4 := I3.step hb4)
                      | (go_at_call 22; (with_reducible refine (G3.out _ I4.g).mono ?_); rintro e w5 ⟨rfl, hb5⟩; have I5 := I4.step hb5)
                      | (go_at_call 26; (with_reducible refine (G4.out _ (Inv.g (by assumption))).mono ?_); rintro e w7 ⟨rfl, hb7⟩; have I7 := Inv.step (by assumption) hb7)
                      | (go_at_call 26; (with_reducible refine (G5.out _ I7.g).mono ?_); rintro e w8 ⟨rfl, hb8⟩; have I8 := I7.step hb8)
                      | (go_at_call 20; (with_reducible refine (G6.out _ (Inv.g (by assumption))).mono ?_); rintro e w10 ⟨rfl, hb10⟩; have I10 := Inv.step (by assumption) hb10)
                      | (go_at_call 30; (with_reducible refine (G8.out _ I10.g).mono ?_); rintro e w11 ⟨rfl, hb11⟩; have I11 := I10.step hb11)
                      | (go_at_call 30; (with_reducible refine (G9.out _ I11.g).mono ?_); rintro e w12 ⟨rfl, hb12⟩; have I12 := I11.step hb12)
                      | (go_at_call 20; (with_reducible refine (G7.out _ I12.g).mono ?_); rintro e w13 ⟨rfl, hb13⟩; have I13 := I12.step hb13)
                      | (go_at_call 20; (with_reducible refine (G10.out _ I13.g).mono ?_); rintro e w14 ⟨rfl, hb14⟩; have I14 := I13.step hb14)
                      | (go_at_call 28; (with_reducible refine (G13.out _ (Inv.g (by assumption))).mono ?_); rintro e w9 ⟨rfl, hb9⟩; have I9 := I8.step hb9))
                    go_roundg (gk - 1)
                    case measure => omega
                    case rel => exact ⟨j + 1, by omega, by go_num, I14⟩
                  · clear G11 G12
                    go_wp2_with (first
                      | (go_at_call 10; (with_reducible refine (shortB a _ _ SA).mono ?_); rintro e w' ⟨rfl, rfl⟩)
                      | (go_at_call 10; (with_reducible refine (shortB c _ _ SC).mono ?_); rintro e w' ⟨rfl, rfl⟩)
                      | (go_at_call 15; (with_reducible refine (checkB a _ _ I.g za KA).mono ?_); rintro e w1 ⟨rfl, hb1⟩; have I1 := I.step hb1)
                      | (go_at_call 15; (with_reducible refine (checkB c _ _ I1.g zc KC).mono ?_); rintro e w2 ⟨rfl, hb2⟩; have I2 := I1.step hb2)
                      | (go_at_call 11; (with_reducible refine (G1.out _ I2.g).mono ?_); rintro e w3 ⟨rfl, hb3⟩; have I3 := I2.step hb3)
                      | (go_at_call 22; (with_reducible refine (G2.out _ I3.g).mono ?_); rintro e w4 ⟨rfl, hb4⟩; have I4 := I3.step hb4)
                      | (go_at_call 22; (with_reducible refine (G3.out _ I4.g).mono ?_); rintro e w5 ⟨rfl, hb5⟩; have I5 := I4.step hb5)
                      | (go_at_call 26; (with_reducible refine (G4.out _ (Inv.g (by assumption))).mono ?_); rintro e w7 ⟨rfl, hb7⟩; have I7 := Inv.step (by assumption) hb7)
                      | (go_at_call 26; (with_reducible refine (G5.out _ I7.g).mono ?_); rintro e w8 ⟨rfl, hb8⟩; have I8 := I7.step hb8)
                      | (go_at_call 20; (with_reducible refine (G6.out _ (Inv.g (by assumption))).mono ?_); rintro e w10 ⟨rfl, hb10⟩; have I10 := Inv.step (by assumption) hb10)
                      | (go_at_call 30; (with_reducible refine (G8.out _ I10.g).mono ?_); rintro e w11 ⟨rfl, hb11⟩; have I11 := I10.step hb11)
                      | (go_at_call 30; (with_reducible refine (G9.out _ I11.g).mono ?_); rintro e w12 ⟨rfl, hb12⟩; have I12 := I11.step hb12)
                      | (go_at_call 20; (with_reducible refine (G7.out _ I12.g).mono ?_); rintro e w13 ⟨rfl, hb13⟩; have I13 := I12.step hb13)
                      | (go_at_call 20; (with_reducible refine (G10.out _ I13.g).mono ?_); rintro e w14 ⟨rfl, hb14⟩; have I14 := I13.step hb14))
                    go_roundg (gk - 1)
                    case measure => omega
                    case rel => exact ⟨j + 1, by omega, by go_num, I14⟩
                · clear G11 G12
                  go_wp2_with (first
                    | (go_at_call 10; (with_reducible refine (shortB a _ _ SA).mono ?_); rintro e w' ⟨rfl, rfl⟩)
                    | (go_at_call 10; (with_reducible refine (shortB c _ _ SC).mono ?_); rintro e w' ⟨rfl, rfl⟩)
                    | (go_at_call 15; (with_reducible refine (checkB a _ _ I.g za KA).mono ?_); rintro e w1 ⟨rfl, hb1⟩; have I1 := I.step hb1)
                    | (go_at_call 15; (with_reducible refine (checkB c _ _ I1.g zc KC).mono ?_); rintro e w2 ⟨rfl, hb2⟩; have I2 := I1.step hb2)
                    | (go_at_call 11; (with_reducible refine (G1.out _ I2.g).mono ?_); rintro e w3 ⟨rfl, hb3⟩; have I3 := I2.step hb3)
                    | (go_at_call 22; (with_reducible refine (G2.out _ I3.g).mono ?_); rintro e w4 ⟨rfl, hb4⟩; have I4 := I3.step hb4)
                    | (go_at_call 22; (with_reducible refine (G3.out _ I4.g).mono ?_); rintro e w5 ⟨rfl, hb5⟩; have I5 := I4.step hb5)
                    | (go_at_call 26; (with_reducible refine (G4.out _ (Inv.g (by assumption))).mono ?_); rintro e w7 ⟨rfl, hb7⟩; have I7 := Inv.step (by assumption) hb7)
                    | (go_at_call 26; (with_reducible refine (G5.out _ I7.g).mono ?_); rintro e w8 ⟨rfl, hb8⟩; have I8 := I7.step hb8)
                    | (go_at_call 20; (with_reducible refine (G6.out _ (Inv.g (by assumption))).mono ?_); rintro e w10 ⟨rfl, hb10⟩; have I10 := Inv.step (by assumption) hb10)
                    | (go_at_call 30; (with_reducible refine (G8.out _ I10.g).mono ?_); rintro e w11 ⟨rfl, hb11⟩; have I11 := I10.step hb11)
                    | (go_at_call 30; (with_reducible refine (G9.out _ I11.g).mono ?_); rintro e w12 ⟨rfl, hb12⟩; have I12 := I11.step hb12)
                    | (go_at_call 20; (with_reducible refine (G7.out _ I12.g).mono ?_); rintro e w13 ⟨rfl, hb13⟩; have I13 := I12.step hb13)
                    | (go_at_call 20; (with_reducible refine (G10.out _ I13.g).mono ?_); rintro e w14 ⟨rfl, hb14⟩; have I14 := I13.step hb14))
                  go_roundg (gk - 1)
                  case measure => omega
                  case rel => exact ⟨j + 1, by omega, by go_num, I14⟩
          · have SC : Hid (false = decide (c.size ≤ 300)) := Lib.hid (by simp; omega)
            go_wp2_with (first
              | (go_at_call 10; (with_reducible refine (shortB a _ _ SA).mono ?_); rintro e w' ⟨rfl, rfl⟩)
              | (go_at_call 10; (with_reducible refine (shortB c _ _ SC).mono ?_); rintro e w' ⟨rfl, rfl⟩))
            go_roundg (gk - 1)
            case measure => omega
            case rel => exact ⟨j + 1, by omega, by go_num, I⟩
        · have SA : Hid (false = decide (a.size ≤ 300)) := Lib.hid (by simp; omega)
          go_wp2_with (go_at_call 10; (with_reducible refine (shortB a _ _ SA).mono ?_); rintro e w' ⟨rfl, rfl⟩)
          go_roundg (gk - 1)
          case measure => omega
          case rel => exact ⟨j + 1, by omega, by go_num, I⟩
      · go_wp2_with (go_at_call 19; (with_reducible refine (wakesAt _ I.g I.t).mono ?_); rintro e w1 ⟨rfl, hb1⟩)
        go_ret
        exact ⟨rfl, (I.step hb1).bel⟩
    · go_wp2_with (go_at_call 19; (with_reducible refine (wakesAt _ I.g I.t).mono ?_); rintro e w1 ⟨rfl, hb1⟩)
      go_ret
      exact ⟨rfl, (I.step hb1).bel⟩
end Go.Proofs.YtabgilmehehbjaaDoor
