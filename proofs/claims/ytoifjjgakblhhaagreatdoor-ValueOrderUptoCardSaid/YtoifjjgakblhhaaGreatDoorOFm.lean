/- The law ValueOrder, walked. -/
import Derived.Test.YtoifjjgakblhhaaGreatDoorOGm
import Derived.Test.YtoifjjgakblhhaaGreatDoorOEm
import Derived.Test.YtoifjjgakblhhaaGreatDoorX2m
import Derived.Test.YtoifjjgakblhhaaGreatDoorGh
import Derived.Test.YtoifjjgakblhhaaGreatDoorGx
import Derived.Deep.LoopGhost
import Derived.Deep.Cut
import Derived.Deep.CutRange
import Derived.Deep.CutBlock
import Derived.Deep.DeepCutAuto
namespace Go.Proofs.YtoifjjgakblhhaaGreatDoor
open Go.RowKit

/-- What the law's round keeps: its argument's box; what lay below. -/
structure VInv (w : World) (L ln : Value) (W : World) : Prop where
  cell : W.cell? ⟨w.heap.size, 0, none⟩ = some L
  cell1 : W.cell? ⟨w.heap.size, 1, none⟩ = some ln
  lt : w.heap.size < W.heap.size
  bel : Below w.heap.size w W
theorem VInv.step {w W W2 : World} {L ln : Value} (h : VInv w L ln W) (k : Below W.heap.size W W2) : VInv w L ln W2 :=
  ⟨(k.cell (p := ⟨w.heap.size, 0, none⟩) h.lt).trans h.cell, (k.cell (p := ⟨w.heap.size, 1, none⟩) h.lt).trans h.cell1, Nat.lt_of_lt_of_le h.lt k.size, below_any h.bel k (Nat.le_of_lt h.lt)⟩
theorem VInv.start (w : World) (L ln : Value) : VInv w L ln (w.alloc (.cells #[L, ln] 24)) :=
  ⟨cell_of (heap_new _ _ rfl) _ rfl, cell_of (heap_new _ _ rfl) _ rfl, by simp, below1 _ _⟩
theorem ne_of {a b : Int} (h : a ≠ b) : (a == b) = false := by simpa using h
/-- What a round keeps while it asks: the argument's box, the three values' blocks. -/
structure Keeps (S : World → Prop) (w : World) (L ln : Value) (e : Nat) (k : Int) (b : Bool) (m : Int) (t x : ByteArray) (p : Option Addr) (len cp : Nat) (k2 : Int) (b2 : Bool) (m2 : Int) (t2 x2 : ByteArray) (p2 : Option Addr) (len2 cp2 : Nat) (k3 : Int) (b3 : Bool) (m3 : Int) (t3 x3 : ByteArray) (p3 : Option Addr) (len3 cp3 : Nat) : Prop where
  sv : ∀ W, S W → VInv w L ln W
  s4 : ∀ W, S W → Six W e k b m t x p len cp
  s5 : ∀ W, S W → Six W (e + 1) k2 b2 m2 t2 x2 p2 len2 cp2
  s6 : ∀ W, S W → Six W (e + 2) k3 b3 m3 t3 x3 p3 len3 cp3
  st : ∀ W W2, S W → Below W.heap.size W W2 → S W2
theorem fineNull : Fine 0 ⟨#[]⟩ ⟨#[]⟩ ([] : List Val).length := ⟨by decide, by decide, by decide, by decide, by decide⟩
theorem heldNull (W : World) : Held W (.slice none ([] : List Val).length 0) [] := by unfold Held; exact ⟨none, 0, rfl⟩

set_option maxRecDepth 200000 in
set_option maxHeartbeats 40000000 in
theorem orderSome (l : List Val) (g off cap : Nat) (lang : Int) (w : World) (hG : Gd w) (hT : Tab w) (hl : Holds w g off l) (hl2 : Held w (.slice (some ⟨g, off, none⟩) l.length cap) l) (hn : l.length ≤ 2097152) :
    Calls Tryz.prog 9 #[.agg #[.slice (some ⟨g, off, none⟩) l.length cap, .int .i64 lang]] w fun e w' => e = .returned (.bool true) ∧ Below w.heap.size w w' := by
  have I0 := VInv.start w (.slice (some ⟨g, off, none⟩) l.length cap) (.int .i64 lang)
  obtain ⟨W1, hW1⟩ : ∃ W1, W1 = w.alloc (.cells #[.slice (some ⟨g, off, none⟩) l.length cap, .int .i64 lang] 24) := ⟨_, rfl⟩
  rw [← hW1] at I0
  have hli := lightC l (some ⟨g, off, none⟩) cap W1 (Held.below l hl2 I0.bel) hn
  have hwk := fun W (h : Below w.heap.size w W) => wakesAt W (hG.below h) (hT.below h)
  obtain ⟨n, hln⟩ : ∃ n, n = l.length := ⟨_, rfl⟩
  rw [← hln] at hn I0 hli hW1 ⊢
  have i0 := I0.cell
  have HW1 := Lib.hid hW1
  have HL := Lib.hid hln
  have HH := Lib.hid hl
  clear hl hln hW1 hl2
  go_enter Tryz.func9, Tryz.ntmps9
  go_wp2_with (first
    | (go_at_call 10; rw [← HW1.out]; (with_reducible refine hli.mono ?_); rintro e w' ⟨r, rfl, hb⟩; replace I0 := I0.step hb; clear hb)
    | (go_at_call 11; (with_reducible refine (hwk _ I0.bel).mono ?_); rintro e w' ⟨rfl, hb⟩; replace I0 := I0.step hb; clear hb))
  · go_ret
    exact ⟨rfl, I0.bel⟩
  cases r
  · contradiction
  go_loopg [3] (n + 1) (fun gg s3 wr => ∃ j : Nat, j + gg = n + 1 ∧ j ≤ n ∧ s3 = .int .i64 (j : Int) ∧ VInv w (.slice (some ⟨g, off, none⟩) n cap) (.int .i64 lang) wr)
  case atStart => exact ⟨0, by omega, by omega, rfl, I0⟩
  case round =>
    clear I0 i0 hli
    obtain ⟨j, hjg, hjn, rfl, I⟩ := hrel
    have hp := I.cell
    by_cases hlt : (j : Int) + 2 < n
    · by_cases h20 : (j : Int) < 20
      · have hj1 : j < l.length := by have := HL.out; omega
        have hj2 : j + 1 < l.length := by have := HL.out; omega
        have hj3 : j + 2 < l.length := by have := HL.out; omega
        obtain ⟨k, b, m, t, x, q, p, cp, o1⟩ := (Holds.at_ l off HH.out j hj1).opens
        obtain ⟨k2, b2, m2, t2, x2, q2, p2, cp2, o2⟩ := (Holds.at_ l off HH.out (j + 1) hj2).opens
        obtain ⟨k3, b3, m3, t3, x3, q3, p3, cp3, o3⟩ := (Holds.at_ l off HH.out (j + 2) hj3).opens
        obtain ⟨S, hS⟩ : ∃ S : World → Prop, S = fun W => VInv w (.slice (some ⟨g, off, none⟩) n cap) (.int .i64 lang) W ∧ Six W wr.heap.size k b m t x p q.length cp ∧ Six W (wr.heap.size + 1) k2 b2 m2 t2 x2 p2 q2.length cp2 ∧ Six W (wr.heap.size + 2) k3 b3 m3 t3 x3 p3 q3.length cp3 := ⟨_, rfl⟩
        have HS : Hid (Keeps S w (.slice (some ⟨g, off, none⟩) n cap) (.int .i64 lang) wr.heap.size k b m t x p q.length cp k2 b2 m2 t2 x2 p2 q2.length cp2 k3 b3 m3 t3 x3 p3 q3.length cp3) := Lib.hid (by
          subst hS
          exact ⟨fun W h => h.1, fun W h => h.2.1, fun W h => h.2.2.1, fun W h => h.2.2.2, fun W W2 h hb => ⟨h.1.step hb, h.2.1.below hb, h.2.2.1.below hb, h.2.2.2.below hb⟩⟩)
        have sb : ∀ W, S W → Below w.heap.size w W := fun W h => (HS.out.sv W h).bel
        have oab := fun W (h : S W) => ordAll (.mk k b m t x q) lang W k b m t x q p cp (.mk k2 b2 m2 t2 x2 q2) k2 b2 m2 t2 x2 q2 p2 cp2 rfl rfl (hG.below (sb W h)) (hT.below (sb W h)) o1.hf o2.hf (o1.below (sb W h)).hl (o2.below (sb W h)).hl
        have oba := fun W (h : S W) => ordAll (.mk k2 b2 m2 t2 x2 q2) lang W k2 b2 m2 t2 x2 q2 p2 cp2 (.mk k b m t x q) k b m t x q p cp rfl rfl (hG.below (sb W h)) (hT.below (sb W h)) o2.hf o1.hf (o2.below (sb W h)).hl (o1.below (sb W h)).hl
        have obc := fun W (h : S W) => ordAll (.mk k2 b2 m2 t2 x2 q2) lang W k2 b2 m2 t2 x2 q2 p2 cp2 (.mk k3 b3 m3 t3 x3 q3) k3 b3 m3 t3 x3 q3 p3 cp3 rfl rfl (hG.below (sb W h)) (hT.below (sb W h)) o2.hf o3.hf (o2.below (sb W h)).hl (o3.below (sb W h)).hl
        have oac := fun W (h : S W) => ordAll (.mk k b m t x q) lang W k b m t x q p cp (.mk k3 b3 m3 t3 x3 q3) k3 b3 m3 t3 x3 q3 p3 cp3 rfl rfl (hG.below (sb W h)) (hT.below (sb W h)) o1.hf o3.hf (o1.below (sb W h)).hl (o3.below (sb W h)).hl
        have onc : ∀ W, S W → Calls Tryz.prog 23 #[.int .i64 0, .agg #[.int .i64 k, .bool b, .int .i64 m, .string t, .string x, .slice p q.length cp], .agg #[.int .i64 0, .bool false, .int .i64 0, .string ⟨#[]⟩, .string ⟨#[]⟩, .slice none 0 0]] W fun e w' => e = .returned (.int .i64 (orderI 0 (.mk k b m t x q) (.mk 0 false 0 ⟨#[]⟩ ⟨#[]⟩ []))) ∧ Below W.heap.size W w' := fun W (h : S W) => ordAll (.mk k b m t x q) 0 W k b m t x q p cp (.mk 0 false 0 ⟨#[]⟩ ⟨#[]⟩ []) 0 false 0 ⟨#[]⟩ ⟨#[]⟩ [] none 0 rfl rfl (hG.below (sb W h)) (hT.below (sb W h)) o1.hf fineNull (o1.below (sb W h)).hl (heldNull W)
        have ons : ∀ W, S W → Calls Tryz.prog 23 #[.int .i64 1, .agg #[.int .i64 k, .bool b, .int .i64 m, .string t, .string x, .slice p q.length cp], .agg #[.int .i64 0, .bool false, .int .i64 0, .string ⟨#[]⟩, .string ⟨#[]⟩, .slice none 0 0]] W fun e w' => e = .returned (.int .i64 (orderI 1 (.mk k b m t x q) (.mk 0 false 0 ⟨#[]⟩ ⟨#[]⟩ []))) ∧ Below W.heap.size W w' := fun W (h : S W) => ordAll (.mk k b m t x q) 1 W k b m t x q p cp (.mk 0 false 0 ⟨#[]⟩ ⟨#[]⟩ []) 0 false 0 ⟨#[]⟩ ⟨#[]⟩ [] none 0 rfl rfl (hG.below (sb W h)) (hT.below (sb W h)) o1.hf fineNull (o1.below (sb W h)).hl (heldNull W)
        have hca := fun W (h : S W) => checkAtV (.mk k b m t x q) k b m t x q (.slice p q.length cp) W rfl (hG.below (sb W h)) o1.hf.ht o1.hf.hx (o1.below (sb W h)).hl
        have hcb := fun W (h : S W) => checkAtV (.mk k2 b2 m2 t2 x2 q2) k2 b2 m2 t2 x2 q2 (.slice p2 q2.length cp2) W rfl (hG.below (sb W h)) o2.hf.ht o2.hf.hx (o2.below (sb W h)).hl
        have hsm := fun W (h : S W) => sameZAll (.mk k b m t x q) W k b m t x q p cp (.mk k2 b2 m2 t2 x2 q2) k2 b2 m2 t2 x2 q2 p2 cp2 rfl rfl o1.hf.hn (o1.below (sb W h)).hl (o2.below (sb W h)).hl
        have hle := fun W (h : S W) => LessC lang k b m t x q p cp k2 b2 m2 t2 x2 q2 p2 cp2 W (hG.below (sb W h)) (hT.below (sb W h)) o1.hf o2.hf (o1.below (sb W h)).hl (o2.below (sb W h)).hl
        have ab3 := order_three lang (.mk k b m t x q) (.mk k2 b2 m2 t2 x2 q2)
        have bc3 := order_three lang (.mk k2 b2 m2 t2 x2 q2) (.mk k3 b3 m3 t3 x3 q3)
        have ac3 := order_three lang (.mk k b m t x q) (.mk k3 b3 m3 t3 x3 q3)
        have nc3 := order_three 0 (.mk k b m t x q) (.mk 0 false 0 ⟨#[]⟩ ⟨#[]⟩ [])
        have tri := orderI_tri lang (.mk k b m t x q) (.mk k2 b2 m2 t2 x2 q2) (.mk k3 b3 m3 t3 x3 q3)
        have hsame : mayP (.mk k b m t x q) 0 = true → mayP (.mk k2 b2 m2 t2 x2 q2) 0 = true → (orderI lang (.mk k b m t x q) (.mk k2 b2 m2 t2 x2 q2) == 0) = sameP (.mk k b m t x q) (.mk k2 b2 m2 t2 x2 q2) := fun h1 h2 => by
          cases hs : sameP (.mk k b m t x q) (.mk k2 b2 m2 t2 x2 q2) with
          | true => rw [same_order lang _ _ hs]; rfl
          | false =>
            refine ne_of fun h => ?_
            rw [order_same lang _ _ 0 0 h1 h2 h] at hs
            cases hs
        have hless := less_order lang (.mk k b m t x q) (.mk k2 b2 m2 t2 x2 q2)
        have hnc := order_nullC k b m t x q
        have hns := order_nullS k b m t x q
        rw [orderI_neg lang (.mk k b m t x q) (.mk k2 b2 m2 t2 x2 q2)] at oba
        generalize orderI lang (.mk k b m t x q) (.mk k2 b2 m2 t2 x2 q2) = ab at oab oba ab3 tri hsame hless
        generalize orderI lang (.mk k2 b2 m2 t2 x2 q2) (.mk k3 b3 m3 t3 x3 q3) = bc at obc bc3 tri
        generalize orderI lang (.mk k b m t x q) (.mk k3 b3 m3 t3 x3 q3) = ac at oac ac3 tri
        generalize orderI 0 (.mk k b m t x q) (.mk 0 false 0 ⟨#[]⟩ ⟨#[]⟩ []) = nc at onc hnc nc3
        generalize orderI 1 (.mk k b m t x q) (.mk 0 false 0 ⟨#[]⟩ ⟨#[]⟩ []) = ns at ons hns
        generalize lessTop (.mk k b m t x q) (.mk k2 b2 m2 t2 x2 q2) = L1 at hle hless
        generalize sameP (.mk k b m t x q) (.mk k2 b2 m2 t2 x2 q2) = s at hsm hsame
        generalize mayP (.mk k b m t x q) 0 = M1 at hca hsame
        generalize mayP (.mk k2 b2 m2 t2 x2 q2) 0 = M2 at hcb hsame
        obtain ⟨ba, hba⟩ : ∃ ba, ba = -ab := ⟨_, rfl⟩
        rw [← hba] at oba
        have o1' := o1.below I.bel
        have o2' := (o2.below I.bel).below (below1 wr (.cells #[.int .i64 k, .bool b, .int .i64 m, .string t, .string x, .slice p q.length cp] 28))
        have o3' := (o3.below I.bel).below (below2 wr (.cells #[.int .i64 k, .bool b, .int .i64 m, .string t, .string x, .slice p q.length cp] 28) (.cells #[.int .i64 k2, .bool b2, .int .i64 m2, .string t2, .string x2, .slice p2 q2.length cp2] 28))
        clear o1 o2 o3
        have o1 := o1'
        have o2 := o2'
        have o3 := o3'
        clear o1' o2' o3'
        obtain ⟨W0, hW0⟩ : ∃ W0, W0 = ((wr.alloc (.cells #[.int .i64 k, .bool b, .int .i64 m, .string t, .string x, .slice p q.length cp] 28)).alloc (.cells #[.int .i64 k2, .bool b2, .int .i64 m2, .string t2, .string x2, .slice p2 q2.length cp2] 28)).alloc (.cells #[.int .i64 k3, .bool b3, .int .i64 m3, .string t3, .string x3, .slice p3 q3.length cp3] 28) := ⟨_, rfl⟩
        have J1 := I.step (below1 wr (.cells #[.int .i64 k, .bool b, .int .i64 m, .string t, .string x, .slice p q.length cp] 28))
        have J2 := I.step (below2 wr (.cells #[.int .i64 k, .bool b, .int .i64 m, .string t, .string x, .slice p q.length cp] 28) (.cells #[.int .i64 k2, .bool b2, .int .i64 m2, .string t2, .string x2, .slice p2 q2.length cp2] 28))
        have j1 := J1.cell
        have j2 := J2.cell
        have J3 : VInv w (.slice (some ⟨g, off, none⟩) n cap) (.int .i64 lang) W0 := by rw [hW0]; exact I.step (below3 wr _ _ _)
        have S4 : Six W0 wr.heap.size k b m t x p q.length cp := by rw [hW0]; exact ((six_new _ rfl).alloc _).alloc _
        have S5 : Six W0 (wr.heap.size + 1) k2 b2 m2 t2 x2 p2 q2.length cp2 := by rw [hW0]; exact (six_new _ (by simp)).alloc _
        have S6 : Six W0 (wr.heap.size + 2) k3 b3 m3 t3 x3 p3 q3.length cp3 := by rw [hW0]; exact six_new _ (by simp)
        have J : S W0 := by rw [hS]; exact ⟨J3, S4, S5, S6⟩
        have l1 : W0.cell? ⟨w.heap.size, 1, none⟩ = some (.int .i64 lang) := J3.cell1
        have H0 := Lib.hid hW0
        clear hW0 J1 J2 J3 I hS
        go_upto_region 9 with (first
          | ((with_reducible refine wpList_loadMid6 (.tmp 30) g (off + j * 6) k b m t x _ o1.c0 o1.c1 o1.c2 o1.c3 o1.c4 o1.c5 ?_ ?_ ?_ ?_); rfl; rfl; rfl)
          | ((with_reducible refine wpList_loadMid6 (.tmp 36) g (off + (j + 1) * 6) k2 b2 m2 t2 x2 _ o2.c0 o2.c1 o2.c2 o2.c3 o2.c4 o2.c5 ?_ ?_ ?_ ?_); rfl; rfl; rfl)
          | ((with_reducible refine wpList_loadMid6 (.tmp 42) g (off + (j + 2) * 6) k3 b3 m3 t3 x3 _ o3.c0 o3.c1 o3.c2 o3.c3 o3.c4 o3.c5 ?_ ?_ ?_ ?_); rfl; rfl; rfl))
        rw [← H0.out]
        clear o1 o2 o3 j1 j2 hp
        go_upto_region 12 with (first
          | ((with_reducible refine wpList_load6 (.tmp 4) wr.heap.size S4 ?_ ?_ ?_ ?_); rfl; rfl; rfl)
          | ((with_reducible refine wpList_load6g (.tmp 4) wr.heap.size S4 ?_ ?_ ?_ ?_); rfl; rfl; rfl)
          | ((with_reducible refine wpList_load6 (.tmp 5) (wr.heap.size + 1) S5 ?_ ?_ ?_ ?_); rfl; rfl; rfl)
          | ((with_reducible refine wpList_load6g (.tmp 5) (wr.heap.size + 1) S5 ?_ ?_ ?_ ?_); rfl; rfl; rfl)
          | ((with_reducible refine wpList_load6 (.tmp 6) (wr.heap.size + 2) S6 ?_ ?_ ?_ ?_); rfl; rfl; rfl)
          | ((with_reducible refine wpList_load6g (.tmp 6) (wr.heap.size + 2) S6 ?_ ?_ ?_ ?_); rfl; rfl; rfl)
          | (go_at_call 23; (with_reducible refine (oab _ J).mono ?_); rintro e w' ⟨rfl, hb⟩; replace J := HS.out.st _ _ J hb; have S4 := HS.out.s4 _ J; have S5 := HS.out.s5 _ J; have S6 := HS.out.s6 _ J; have l1 := (HS.out.sv _ J).cell1; have l0 := (HS.out.sv _ J).cell; have f0 := S4.c0; clear hb)
          | (go_at_call 23; (with_reducible refine (obc _ J).mono ?_); rintro e w' ⟨rfl, hb⟩; replace J := HS.out.st _ _ J hb; have S4 := HS.out.s4 _ J; have S5 := HS.out.s5 _ J; have S6 := HS.out.s6 _ J; have l1 := (HS.out.sv _ J).cell1; have l0 := (HS.out.sv _ J).cell; have f0 := S4.c0; clear hb)
          | (go_at_call 23; (with_reducible refine (oac _ J).mono ?_); rintro e w' ⟨rfl, hb⟩; replace J := HS.out.st _ _ J hb; have S4 := HS.out.s4 _ J; have S5 := HS.out.s5 _ J; have S6 := HS.out.s6 _ J; have l1 := (HS.out.sv _ J).cell1; have l0 := (HS.out.sv _ J).cell; have f0 := S4.c0; clear hb))
        go_cut [118] from 15 to 164 (fun s118 wx => s118 = .bool false ∧ S wx)
        case first =>
          have a3 : ab = -1 ∨ ab = 0 ∨ ab = 1 := by omega
          have d3 : bc = -1 ∨ bc = 0 ∨ bc = 1 := by omega
          have e3 : ac = -1 ∨ ac = 0 ∨ ac = 1 := by omega
          obtain ⟨t1, t2', t3', t4⟩ := tri
          clear hsame hless oab obc oac ab3 bc3 ac3
          rcases a3 with ha | ha | ha
          · obtain rfl : ba = 1 := by omega
            subst ha
            clear hba
            rcases d3 with hd | hd | hd
            · subst hd
              have hz := t2' (by decide) (by decide)
              obtain rfl : ac = -1 := by omega
              clear t1 t2' t3' t4 e3 hz
              as_aux_lemma =>
                go_wp2_with (first
                  | ((with_reducible refine wpList_load6 (.tmp 4) wr.heap.size S4 ?_ ?_ ?_ ?_); rfl; rfl; rfl)
                  | ((with_reducible refine wpList_load6g (.tmp 4) wr.heap.size S4 ?_ ?_ ?_ ?_); rfl; rfl; rfl)
                  | ((with_reducible refine wpList_load6 (.tmp 5) (wr.heap.size + 1) S5 ?_ ?_ ?_ ?_); rfl; rfl; rfl)
                  | ((with_reducible refine wpList_load6g (.tmp 5) (wr.heap.size + 1) S5 ?_ ?_ ?_ ?_); rfl; rfl; rfl)
                  | ((with_reducible refine wpList_load6 (.tmp 6) (wr.heap.size + 2) S6 ?_ ?_ ?_ ?_); rfl; rfl; rfl)
                  | ((with_reducible refine wpList_load6g (.tmp 6) (wr.heap.size + 2) S6 ?_ ?_ ?_ ?_); rfl; rfl; rfl)
                  | (go_at_call 23; (with_reducible refine (oba _ J).mono ?_); rintro e w' ⟨rfl, hb⟩; replace J := HS.out.st _ _ J hb; have S4 := HS.out.s4 _ J; have S5 := HS.out.s5 _ J; have S6 := HS.out.s6 _ J; have l1 := (HS.out.sv _ J).cell1; have l0 := (HS.out.sv _ J).cell; have f0 := S4.c0; clear hb))
                go_meet
                case rel => exact ⟨rfl, J⟩
            · subst hd
              have hz := t2' (by decide) (by decide)
              obtain rfl : ac = -1 := by omega
              clear t1 t2' t3' t4 e3 hz
              as_aux_lemma =>
                go_wp2_with (first
                  | ((with_reducible refine wpList_load6 (.tmp 4) wr.heap.size S4 ?_ ?_ ?_ ?_); rfl; rfl; rfl)
                  | ((with_reducible refine wpList_load6g (.tmp 4) wr.heap.size S4 ?_ ?_ ?_ ?_); rfl; rfl; rfl)
                  | ((with_reducible refine wpList_load6 (.tmp 5) (wr.heap.size + 1) S5 ?_ ?_ ?_ ?_); rfl; rfl; rfl)
                  | ((with_reducible refine wpList_load6g (.tmp 5) (wr.heap.size + 1) S5 ?_ ?_ ?_ ?_); rfl; rfl; rfl)
                  | ((with_reducible refine wpList_load6 (.tmp 6) (wr.heap.size + 2) S6 ?_ ?_ ?_ ?_); rfl; rfl; rfl)
                  | ((with_reducible refine wpList_load6g (.tmp 6) (wr.heap.size + 2) S6 ?_ ?_ ?_ ?_); rfl; rfl; rfl)
                  | (go_at_call 23; (with_reducible refine (oba _ J).mono ?_); rintro e w' ⟨rfl, hb⟩; replace J := HS.out.st _ _ J hb; have S4 := HS.out.s4 _ J; have S5 := HS.out.s5 _ J; have S6 := HS.out.s6 _ J; have l1 := (HS.out.sv _ J).cell1; have l0 := (HS.out.sv _ J).cell; have f0 := S4.c0; clear hb))
                go_meet
                case rel => exact ⟨rfl, J⟩
            · subst hd
              clear t1 t2' t3' t4 e3
              as_aux_lemma =>
                go_wp2_with (first
                  | ((with_reducible refine wpList_load6 (.tmp 4) wr.heap.size S4 ?_ ?_ ?_ ?_); rfl; rfl; rfl)
                  | ((with_reducible refine wpList_load6g (.tmp 4) wr.heap.size S4 ?_ ?_ ?_ ?_); rfl; rfl; rfl)
                  | ((with_reducible refine wpList_load6 (.tmp 5) (wr.heap.size + 1) S5 ?_ ?_ ?_ ?_); rfl; rfl; rfl)
                  | ((with_reducible refine wpList_load6g (.tmp 5) (wr.heap.size + 1) S5 ?_ ?_ ?_ ?_); rfl; rfl; rfl)
                  | ((with_reducible refine wpList_load6 (.tmp 6) (wr.heap.size + 2) S6 ?_ ?_ ?_ ?_); rfl; rfl; rfl)
                  | ((with_reducible refine wpList_load6g (.tmp 6) (wr.heap.size + 2) S6 ?_ ?_ ?_ ?_); rfl; rfl; rfl)
                  | (go_at_call 23; (with_reducible refine (oba _ J).mono ?_); rintro e w' ⟨rfl, hb⟩; replace J := HS.out.st _ _ J hb; have S4 := HS.out.s4 _ J; have S5 := HS.out.s5 _ J; have S6 := HS.out.s6 _ J; have l1 := (HS.out.sv _ J).cell1; have l0 := (HS.out.sv _ J).cell; have f0 := S4.c0; clear hb))
                go_meet
                case rel => exact ⟨rfl, J⟩
          · obtain rfl : ba = 0 := by omega
            subst ha
            clear hba
            rcases d3 with hd | hd | hd
            · subst hd
              have hz := t3' (by decide) (by decide)
              obtain rfl : ac = -1 := by omega
              clear t1 t2' t3' t4 e3 hz
              as_aux_lemma =>
                go_wp2_with (first
                  | ((with_reducible refine wpList_load6 (.tmp 4) wr.heap.size S4 ?_ ?_ ?_ ?_); rfl; rfl; rfl)
                  | ((with_reducible refine wpList_load6g (.tmp 4) wr.heap.size S4 ?_ ?_ ?_ ?_); rfl; rfl; rfl)
                  | ((with_reducible refine wpList_load6 (.tmp 5) (wr.heap.size + 1) S5 ?_ ?_ ?_ ?_); rfl; rfl; rfl)
                  | ((with_reducible refine wpList_load6g (.tmp 5) (wr.heap.size + 1) S5 ?_ ?_ ?_ ?_); rfl; rfl; rfl)
                  | ((with_reducible refine wpList_load6 (.tmp 6) (wr.heap.size + 2) S6 ?_ ?_ ?_ ?_); rfl; rfl; rfl)
                  | ((with_reducible refine wpList_load6g (.tmp 6) (wr.heap.size + 2) S6 ?_ ?_ ?_ ?_); rfl; rfl; rfl)
                  | (go_at_call 23; (with_reducible refine (oba _ J).mono ?_); rintro e w' ⟨rfl, hb⟩; replace J := HS.out.st _ _ J hb; have S4 := HS.out.s4 _ J; have S5 := HS.out.s5 _ J; have S6 := HS.out.s6 _ J; have l1 := (HS.out.sv _ J).cell1; have l0 := (HS.out.sv _ J).cell; have f0 := S4.c0; clear hb))
                go_meet
                case rel => exact ⟨rfl, J⟩
            · subst hd
              have hz := t4 rfl rfl
              obtain rfl : ac = 0 := by omega
              clear t1 t2' t3' t4 e3 hz
              as_aux_lemma =>
                go_wp2_with (first
                  | ((with_reducible refine wpList_load6 (.tmp 4) wr.heap.size S4 ?_ ?_ ?_ ?_); rfl; rfl; rfl)
                  | ((with_reducible refine wpList_load6g (.tmp 4) wr.heap.size S4 ?_ ?_ ?_ ?_); rfl; rfl; rfl)
                  | ((with_reducible refine wpList_load6 (.tmp 5) (wr.heap.size + 1) S5 ?_ ?_ ?_ ?_); rfl; rfl; rfl)
                  | ((with_reducible refine wpList_load6g (.tmp 5) (wr.heap.size + 1) S5 ?_ ?_ ?_ ?_); rfl; rfl; rfl)
                  | ((with_reducible refine wpList_load6 (.tmp 6) (wr.heap.size + 2) S6 ?_ ?_ ?_ ?_); rfl; rfl; rfl)
                  | ((with_reducible refine wpList_load6g (.tmp 6) (wr.heap.size + 2) S6 ?_ ?_ ?_ ?_); rfl; rfl; rfl)
                  | (go_at_call 23; (with_reducible refine (oba _ J).mono ?_); rintro e w' ⟨rfl, hb⟩; replace J := HS.out.st _ _ J hb; have S4 := HS.out.s4 _ J; have S5 := HS.out.s5 _ J; have S6 := HS.out.s6 _ J; have l1 := (HS.out.sv _ J).cell1; have l0 := (HS.out.sv _ J).cell; have f0 := S4.c0; clear hb))
                go_meet
                case rel => exact ⟨rfl, J⟩
            · subst hd
              clear t1 t2' t3' t4 e3
              as_aux_lemma =>
                go_wp2_with (first
                  | ((with_reducible refine wpList_load6 (.tmp 4) wr.heap.size S4 ?_ ?_ ?_ ?_); rfl; rfl; rfl)
                  | ((with_reducible refine wpList_load6g (.tmp 4) wr.heap.size S4 ?_ ?_ ?_ ?_); rfl; rfl; rfl)
                  | ((with_reducible refine wpList_load6 (.tmp 5) (wr.heap.size + 1) S5 ?_ ?_ ?_ ?_); rfl; rfl; rfl)
                  | ((with_reducible refine wpList_load6g (.tmp 5) (wr.heap.size + 1) S5 ?_ ?_ ?_ ?_); rfl; rfl; rfl)
                  | ((with_reducible refine wpList_load6 (.tmp 6) (wr.heap.size + 2) S6 ?_ ?_ ?_ ?_); rfl; rfl; rfl)
                  | ((with_reducible refine wpList_load6g (.tmp 6) (wr.heap.size + 2) S6 ?_ ?_ ?_ ?_); rfl; rfl; rfl)
                  | (go_at_call 23; (with_reducible refine (oba _ J).mono ?_); rintro e w' ⟨rfl, hb⟩; replace J := HS.out.st _ _ J hb; have S4 := HS.out.s4 _ J; have S5 := HS.out.s5 _ J; have S6 := HS.out.s6 _ J; have l1 := (HS.out.sv _ J).cell1; have l0 := (HS.out.sv _ J).cell; have f0 := S4.c0; clear hb))
                go_meet
                case rel => exact ⟨rfl, J⟩
          · obtain rfl : ba = -1 := by omega
            subst ha
            clear hba
            clear t1 t2' t3' t4 d3 e3
            as_aux_lemma =>
              go_wp2_with (first
                | ((with_reducible refine wpList_load6 (.tmp 4) wr.heap.size S4 ?_ ?_ ?_ ?_); rfl; rfl; rfl)
                | ((with_reducible refine wpList_load6g (.tmp 4) wr.heap.size S4 ?_ ?_ ?_ ?_); rfl; rfl; rfl)
                | ((with_reducible refine wpList_load6 (.tmp 5) (wr.heap.size + 1) S5 ?_ ?_ ?_ ?_); rfl; rfl; rfl)
                | ((with_reducible refine wpList_load6g (.tmp 5) (wr.heap.size + 1) S5 ?_ ?_ ?_ ?_); rfl; rfl; rfl)
                | ((with_reducible refine wpList_load6 (.tmp 6) (wr.heap.size + 2) S6 ?_ ?_ ?_ ?_); rfl; rfl; rfl)
                | ((with_reducible refine wpList_load6g (.tmp 6) (wr.heap.size + 2) S6 ?_ ?_ ?_ ?_); rfl; rfl; rfl)
                | (go_at_call 23; (with_reducible refine (oba _ J).mono ?_); rintro e w' ⟨rfl, hb⟩; replace J := HS.out.st _ _ J hb; have S4 := HS.out.s4 _ J; have S5 := HS.out.s5 _ J; have S6 := HS.out.s6 _ J; have l1 := (HS.out.sv _ J).cell1; have l0 := (HS.out.sv _ J).cell; have f0 := S4.c0; clear hb))
              go_meet
              case rel => exact ⟨rfl, J⟩
        case rest =>
          obtain ⟨rfl, J⟩ := hcut
          clear tri l1 S4 S5 S6 H0
          have S4 := HS.out.s4 _ J
          have S5 := HS.out.s5 _ J
          have S6 := HS.out.s6 _ J
          have l1 := (HS.out.sv _ J).cell1
          go_upto_region 14 with fail
          go_cut [132] from 15 to 164 (fun s132 wx => s132 = .bool false ∧ S wx)
          case first =>
            clear hless
            cases em1 : M1 with
            | false =>
              subst em1
              clear hsame
              as_aux_lemma =>
                go_wp2_with (first
                  | ((with_reducible refine wpList_load6 (.tmp 4) wr.heap.size S4 ?_ ?_ ?_ ?_); rfl; rfl; rfl)
                  | ((with_reducible refine wpList_load6g (.tmp 4) wr.heap.size S4 ?_ ?_ ?_ ?_); rfl; rfl; rfl)
                  | ((with_reducible refine wpList_load6 (.tmp 5) (wr.heap.size + 1) S5 ?_ ?_ ?_ ?_); rfl; rfl; rfl)
                  | ((with_reducible refine wpList_load6g (.tmp 5) (wr.heap.size + 1) S5 ?_ ?_ ?_ ?_); rfl; rfl; rfl)
                  | ((with_reducible refine wpList_load6 (.tmp 6) (wr.heap.size + 2) S6 ?_ ?_ ?_ ?_); rfl; rfl; rfl)
                  | ((with_reducible refine wpList_load6g (.tmp 6) (wr.heap.size + 2) S6 ?_ ?_ ?_ ?_); rfl; rfl; rfl)
                  | (go_at_call 13; (with_reducible refine (hca _ J).mono ?_); rintro e w' ⟨rfl, hb⟩; replace J := HS.out.st _ _ J hb; have S4 := HS.out.s4 _ J; have S5 := HS.out.s5 _ J; have S6 := HS.out.s6 _ J; have l1 := (HS.out.sv _ J).cell1; have l0 := (HS.out.sv _ J).cell; have f0 := S4.c0; clear hb)
                  | (go_at_call 13; (with_reducible refine (hcb _ J).mono ?_); rintro e w' ⟨rfl, hb⟩; replace J := HS.out.st _ _ J hb; have S4 := HS.out.s4 _ J; have S5 := HS.out.s5 _ J; have S6 := HS.out.s6 _ J; have l1 := (HS.out.sv _ J).cell1; have l0 := (HS.out.sv _ J).cell; have f0 := S4.c0; clear hb)
                  | (go_at_call 18; (with_reducible refine (hsm _ J).mono ?_); rintro e w' ⟨rfl, hb⟩; replace J := HS.out.st _ _ J hb; have S4 := HS.out.s4 _ J; have S5 := HS.out.s5 _ J; have S6 := HS.out.s6 _ J; have l1 := (HS.out.sv _ J).cell1; have l0 := (HS.out.sv _ J).cell; have f0 := S4.c0; clear hb))
                go_meet
                case rel => exact ⟨rfl, J⟩
            | true =>
              subst em1
              cases em2 : M2 with
              | false =>
                subst em2
                clear hsame
                as_aux_lemma =>
                  go_wp2_with (first
                    | ((with_reducible refine wpList_load6 (.tmp 4) wr.heap.size S4 ?_ ?_ ?_ ?_); rfl; rfl; rfl)
                    | ((with_reducible refine wpList_load6g (.tmp 4) wr.heap.size S4 ?_ ?_ ?_ ?_); rfl; rfl; rfl)
                    | ((with_reducible refine wpList_load6 (.tmp 5) (wr.heap.size + 1) S5 ?_ ?_ ?_ ?_); rfl; rfl; rfl)
                    | ((with_reducible refine wpList_load6g (.tmp 5) (wr.heap.size + 1) S5 ?_ ?_ ?_ ?_); rfl; rfl; rfl)
                    | ((with_reducible refine wpList_load6 (.tmp 6) (wr.heap.size + 2) S6 ?_ ?_ ?_ ?_); rfl; rfl; rfl)
                    | ((with_reducible refine wpList_load6g (.tmp 6) (wr.heap.size + 2) S6 ?_ ?_ ?_ ?_); rfl; rfl; rfl)
                    | (go_at_call 13; (with_reducible refine (hca _ J).mono ?_); rintro e w' ⟨rfl, hb⟩; replace J := HS.out.st _ _ J hb; have S4 := HS.out.s4 _ J; have S5 := HS.out.s5 _ J; have S6 := HS.out.s6 _ J; have l1 := (HS.out.sv _ J).cell1; have l0 := (HS.out.sv _ J).cell; have f0 := S4.c0; clear hb)
                    | (go_at_call 13; (with_reducible refine (hcb _ J).mono ?_); rintro e w' ⟨rfl, hb⟩; replace J := HS.out.st _ _ J hb; have S4 := HS.out.s4 _ J; have S5 := HS.out.s5 _ J; have S6 := HS.out.s6 _ J; have l1 := (HS.out.sv _ J).cell1; have l0 := (HS.out.sv _ J).cell; have f0 := S4.c0; clear hb)
                    | (go_at_call 18; (with_reducible refine (hsm _ J).mono ?_); rintro e w' ⟨rfl, hb⟩; replace J := HS.out.st _ _ J hb; have S4 := HS.out.s4 _ J; have S5 := HS.out.s5 _ J; have S6 := HS.out.s6 _ J; have l1 := (HS.out.sv _ J).cell1; have l0 := (HS.out.sv _ J).cell; have f0 := S4.c0; clear hb))
                  go_meet
                  case rel => exact ⟨rfl, J⟩
              | true =>
                subst em2
                have hq := hsame rfl rfl
                clear hsame
                cases s with
                | true =>
                  obtain rfl : ab = 0 := by simpa using hq
                  as_aux_lemma =>
                    go_wp2_with (first
                      | ((with_reducible refine wpList_load6 (.tmp 4) wr.heap.size S4 ?_ ?_ ?_ ?_); rfl; rfl; rfl)
                      | ((with_reducible refine wpList_load6g (.tmp 4) wr.heap.size S4 ?_ ?_ ?_ ?_); rfl; rfl; rfl)
                      | ((with_reducible refine wpList_load6 (.tmp 5) (wr.heap.size + 1) S5 ?_ ?_ ?_ ?_); rfl; rfl; rfl)
                      | ((with_reducible refine wpList_load6g (.tmp 5) (wr.heap.size + 1) S5 ?_ ?_ ?_ ?_); rfl; rfl; rfl)
                      | ((with_reducible refine wpList_load6 (.tmp 6) (wr.heap.size + 2) S6 ?_ ?_ ?_ ?_); rfl; rfl; rfl)
                      | ((with_reducible refine wpList_load6g (.tmp 6) (wr.heap.size + 2) S6 ?_ ?_ ?_ ?_); rfl; rfl; rfl)
                      | (go_at_call 13; (with_reducible refine (hca _ J).mono ?_); rintro e w' ⟨rfl, hb⟩; replace J := HS.out.st _ _ J hb; have S4 := HS.out.s4 _ J; have S5 := HS.out.s5 _ J; have S6 := HS.out.s6 _ J; have l1 := (HS.out.sv _ J).cell1; have l0 := (HS.out.sv _ J).cell; have f0 := S4.c0; clear hb)
                      | (go_at_call 13; (with_reducible refine (hcb _ J).mono ?_); rintro e w' ⟨rfl, hb⟩; replace J := HS.out.st _ _ J hb; have S4 := HS.out.s4 _ J; have S5 := HS.out.s5 _ J; have S6 := HS.out.s6 _ J; have l1 := (HS.out.sv _ J).cell1; have l0 := (HS.out.sv _ J).cell; have f0 := S4.c0; clear hb)
                      | (go_at_call 18; (with_reducible refine (hsm _ J).mono ?_); rintro e w' ⟨rfl, hb⟩; replace J := HS.out.st _ _ J hb; have S4 := HS.out.s4 _ J; have S5 := HS.out.s5 _ J; have S6 := HS.out.s6 _ J; have l1 := (HS.out.sv _ J).cell1; have l0 := (HS.out.sv _ J).cell; have f0 := S4.c0; clear hb))
                    go_meet
                    case rel => exact ⟨rfl, J⟩
                | false =>
                  as_aux_lemma =>
                    go_wp2_with (first
                      | ((with_reducible refine wpList_load6 (.tmp 4) wr.heap.size S4 ?_ ?_ ?_ ?_); rfl; rfl; rfl)
                      | ((with_reducible refine wpList_load6g (.tmp 4) wr.heap.size S4 ?_ ?_ ?_ ?_); rfl; rfl; rfl)
                      | ((with_reducible refine wpList_load6 (.tmp 5) (wr.heap.size + 1) S5 ?_ ?_ ?_ ?_); rfl; rfl; rfl)
                      | ((with_reducible refine wpList_load6g (.tmp 5) (wr.heap.size + 1) S5 ?_ ?_ ?_ ?_); rfl; rfl; rfl)
                      | ((with_reducible refine wpList_load6 (.tmp 6) (wr.heap.size + 2) S6 ?_ ?_ ?_ ?_); rfl; rfl; rfl)
                      | ((with_reducible refine wpList_load6g (.tmp 6) (wr.heap.size + 2) S6 ?_ ?_ ?_ ?_); rfl; rfl; rfl)
                      | (go_at_call 13; (with_reducible refine (hca _ J).mono ?_); rintro e w' ⟨rfl, hb⟩; replace J := HS.out.st _ _ J hb; have S4 := HS.out.s4 _ J; have S5 := HS.out.s5 _ J; have S6 := HS.out.s6 _ J; have l1 := (HS.out.sv _ J).cell1; have l0 := (HS.out.sv _ J).cell; have f0 := S4.c0; clear hb)
                      | (go_at_call 13; (with_reducible refine (hcb _ J).mono ?_); rintro e w' ⟨rfl, hb⟩; replace J := HS.out.st _ _ J hb; have S4 := HS.out.s4 _ J; have S5 := HS.out.s5 _ J; have S6 := HS.out.s6 _ J; have l1 := (HS.out.sv _ J).cell1; have l0 := (HS.out.sv _ J).cell; have f0 := S4.c0; clear hb)
                      | (go_at_call 18; (with_reducible refine (hsm _ J).mono ?_); rintro e w' ⟨rfl, hb⟩; replace J := HS.out.st _ _ J hb; have S4 := HS.out.s4 _ J; have S5 := HS.out.s5 _ J; have S6 := HS.out.s6 _ J; have l1 := (HS.out.sv _ J).cell1; have l0 := (HS.out.sv _ J).cell; have f0 := S4.c0; clear hb))
                    go_meet
                    case rel => exact ⟨rfl, J⟩
          case rest =>
            obtain ⟨rfl, J⟩ := hcut
            clear hsame l1 S4 S5 S6
            have S4 := HS.out.s4 _ J
            have S5 := HS.out.s5 _ J
            have S6 := HS.out.s6 _ J
            have l1 := (HS.out.sv _ J).cell1
            go_upto_region 16 with fail
            go_cut [164] from 15 to 164 (fun s164 wx => s164 = .bool false ∧ S wx)
            case first =>
              have n0 : ¬ ns < 0 := by omega
              have dn : decide (ns < 0) = false := decide_eq_false n0
              by_cases hL : L1 = 1
              · obtain rfl := hless hL
                subst hL
                clear hless
                by_cases hn1 : nc = 1
                · by_cases k1 : 1 ≤ k
                  · have k10 : ¬ k ≤ 10 := fun h => by have := hnc k1 h; omega
                    have d1 : decide (1 ≤ k) = true := decide_eq_true k1
                    have d10 : decide (k ≤ 10) = false := decide_eq_false k10
                    subst hn1
                    clear hnc
                    as_aux_lemma =>
                      go_wp2_with (first
                        | ((with_reducible refine wpList_load6 (.tmp 4) wr.heap.size S4 ?_ ?_ ?_ ?_); rfl; rfl; rfl)
                        | ((with_reducible refine wpList_load6g (.tmp 4) wr.heap.size S4 ?_ ?_ ?_ ?_); rfl; rfl; rfl)
                        | ((with_reducible refine wpList_load6 (.tmp 5) (wr.heap.size + 1) S5 ?_ ?_ ?_ ?_); rfl; rfl; rfl)
                        | ((with_reducible refine wpList_load6g (.tmp 5) (wr.heap.size + 1) S5 ?_ ?_ ?_ ?_); rfl; rfl; rfl)
                        | ((with_reducible refine wpList_load6 (.tmp 6) (wr.heap.size + 2) S6 ?_ ?_ ?_ ?_); rfl; rfl; rfl)
                        | ((with_reducible refine wpList_load6g (.tmp 6) (wr.heap.size + 2) S6 ?_ ?_ ?_ ?_); rfl; rfl; rfl)
                        | (go_at_call 21; (with_reducible refine (hle _ J).mono ?_); rintro e w' ⟨rfl, hb⟩; replace J := HS.out.st _ _ J hb; have S4 := HS.out.s4 _ J; have S5 := HS.out.s5 _ J; have S6 := HS.out.s6 _ J; have l1 := (HS.out.sv _ J).cell1; have l0 := (HS.out.sv _ J).cell; have f0 := S4.c0; clear hb)
                        | (go_at_call 23; (with_reducible refine (onc _ J).mono ?_); rintro e w' ⟨rfl, hb⟩; replace J := HS.out.st _ _ J hb; have S4 := HS.out.s4 _ J; have S5 := HS.out.s5 _ J; have S6 := HS.out.s6 _ J; have l1 := (HS.out.sv _ J).cell1; have l0 := (HS.out.sv _ J).cell; have f0 := S4.c0; clear hb)
                        | (go_at_call 23; (with_reducible refine (ons _ J).mono ?_); rintro e w' ⟨rfl, hb⟩; replace J := HS.out.st _ _ J hb; have S4 := HS.out.s4 _ J; have S5 := HS.out.s5 _ J; have S6 := HS.out.s6 _ J; have l1 := (HS.out.sv _ J).cell1; have l0 := (HS.out.sv _ J).cell; have f0 := S4.c0; clear hb))
                      go_meet
                      case rel => exact ⟨rfl, J⟩
                  · have d1 : decide (1 ≤ k) = false := decide_eq_false k1
                    subst hn1
                    clear hnc
                    as_aux_lemma =>
                      go_wp2_with (first
                        | ((with_reducible refine wpList_load6 (.tmp 4) wr.heap.size S4 ?_ ?_ ?_ ?_); rfl; rfl; rfl)
                        | ((with_reducible refine wpList_load6g (.tmp 4) wr.heap.size S4 ?_ ?_ ?_ ?_); rfl; rfl; rfl)
                        | ((with_reducible refine wpList_load6 (.tmp 5) (wr.heap.size + 1) S5 ?_ ?_ ?_ ?_); rfl; rfl; rfl)
                        | ((with_reducible refine wpList_load6g (.tmp 5) (wr.heap.size + 1) S5 ?_ ?_ ?_ ?_); rfl; rfl; rfl)
                        | ((with_reducible refine wpList_load6 (.tmp 6) (wr.heap.size + 2) S6 ?_ ?_ ?_ ?_); rfl; rfl; rfl)
                        | ((with_reducible refine wpList_load6g (.tmp 6) (wr.heap.size + 2) S6 ?_ ?_ ?_ ?_); rfl; rfl; rfl)
                        | (go_at_call 21; (with_reducible refine (hle _ J).mono ?_); rintro e w' ⟨rfl, hb⟩; replace J := HS.out.st _ _ J hb; have S4 := HS.out.s4 _ J; have S5 := HS.out.s5 _ J; have S6 := HS.out.s6 _ J; have l1 := (HS.out.sv _ J).cell1; have l0 := (HS.out.sv _ J).cell; have f0 := S4.c0; clear hb)
                        | (go_at_call 23; (with_reducible refine (onc _ J).mono ?_); rintro e w' ⟨rfl, hb⟩; replace J := HS.out.st _ _ J hb; have S4 := HS.out.s4 _ J; have S5 := HS.out.s5 _ J; have S6 := HS.out.s6 _ J; have l1 := (HS.out.sv _ J).cell1; have l0 := (HS.out.sv _ J).cell; have f0 := S4.c0; clear hb)
                        | (go_at_call 23; (with_reducible refine (ons _ J).mono ?_); rintro e w' ⟨rfl, hb⟩; replace J := HS.out.st _ _ J hb; have S4 := HS.out.s4 _ J; have S5 := HS.out.s5 _ J; have S6 := HS.out.s6 _ J; have l1 := (HS.out.sv _ J).cell1; have l0 := (HS.out.sv _ J).cell; have f0 := S4.c0; clear hb))
                      go_meet
                      case rel => exact ⟨rfl, J⟩
                · have dnc : decide (0 < nc) = false := decide_eq_false (by omega)
                  have pnc : ¬ 0 < nc := by omega
                  clear hnc nc3
                  as_aux_lemma =>
                    go_wp2_with (first
                      | ((with_reducible refine wpList_load6 (.tmp 4) wr.heap.size S4 ?_ ?_ ?_ ?_); rfl; rfl; rfl)
                      | ((with_reducible refine wpList_load6g (.tmp 4) wr.heap.size S4 ?_ ?_ ?_ ?_); rfl; rfl; rfl)
                      | ((with_reducible refine wpList_load6 (.tmp 5) (wr.heap.size + 1) S5 ?_ ?_ ?_ ?_); rfl; rfl; rfl)
                      | ((with_reducible refine wpList_load6g (.tmp 5) (wr.heap.size + 1) S5 ?_ ?_ ?_ ?_); rfl; rfl; rfl)
                      | ((with_reducible refine wpList_load6 (.tmp 6) (wr.heap.size + 2) S6 ?_ ?_ ?_ ?_); rfl; rfl; rfl)
                      | ((with_reducible refine wpList_load6g (.tmp 6) (wr.heap.size + 2) S6 ?_ ?_ ?_ ?_); rfl; rfl; rfl)
                      | (go_at_call 21; (with_reducible refine (hle _ J).mono ?_); rintro e w' ⟨rfl, hb⟩; replace J := HS.out.st _ _ J hb; have S4 := HS.out.s4 _ J; have S5 := HS.out.s5 _ J; have S6 := HS.out.s6 _ J; have l1 := (HS.out.sv _ J).cell1; have l0 := (HS.out.sv _ J).cell; have f0 := S4.c0; clear hb)
                      | (go_at_call 23; (with_reducible refine (onc _ J).mono ?_); rintro e w' ⟨rfl, hb⟩; replace J := HS.out.st _ _ J hb; have S4 := HS.out.s4 _ J; have S5 := HS.out.s5 _ J; have S6 := HS.out.s6 _ J; have l1 := (HS.out.sv _ J).cell1; have l0 := (HS.out.sv _ J).cell; have f0 := S4.c0; clear hb)
                      | (go_at_call 23; (with_reducible refine (ons _ J).mono ?_); rintro e w' ⟨rfl, hb⟩; replace J := HS.out.st _ _ J hb; have S4 := HS.out.s4 _ J; have S5 := HS.out.s5 _ J; have S6 := HS.out.s6 _ J; have l1 := (HS.out.sv _ J).cell1; have l0 := (HS.out.sv _ J).cell; have f0 := S4.c0; clear hb))
                    go_meet
                    case rel => exact ⟨rfl, J⟩
              · have eL := ne_of hL
                clear hless hL
                by_cases hn1 : nc = 1
                · by_cases k1 : 1 ≤ k
                  · have k10 : ¬ k ≤ 10 := fun h => by have := hnc k1 h; omega
                    have d1 : decide (1 ≤ k) = true := decide_eq_true k1
                    have d10 : decide (k ≤ 10) = false := decide_eq_false k10
                    subst hn1
                    clear hnc
                    as_aux_lemma =>
                      go_wp2_with (first
                        | ((with_reducible refine wpList_load6 (.tmp 4) wr.heap.size S4 ?_ ?_ ?_ ?_); rfl; rfl; rfl)
                        | ((with_reducible refine wpList_load6g (.tmp 4) wr.heap.size S4 ?_ ?_ ?_ ?_); rfl; rfl; rfl)
                        | ((with_reducible refine wpList_load6 (.tmp 5) (wr.heap.size + 1) S5 ?_ ?_ ?_ ?_); rfl; rfl; rfl)
                        | ((with_reducible refine wpList_load6g (.tmp 5) (wr.heap.size + 1) S5 ?_ ?_ ?_ ?_); rfl; rfl; rfl)
                        | ((with_reducible refine wpList_load6 (.tmp 6) (wr.heap.size + 2) S6 ?_ ?_ ?_ ?_); rfl; rfl; rfl)
                        | ((with_reducible refine wpList_load6g (.tmp 6) (wr.heap.size + 2) S6 ?_ ?_ ?_ ?_); rfl; rfl; rfl)
                        | (go_at_call 21; (with_reducible refine (hle _ J).mono ?_); rintro e w' ⟨rfl, hb⟩; replace J := HS.out.st _ _ J hb; have S4 := HS.out.s4 _ J; have S5 := HS.out.s5 _ J; have S6 := HS.out.s6 _ J; have l1 := (HS.out.sv _ J).cell1; have l0 := (HS.out.sv _ J).cell; have f0 := S4.c0; clear hb)
                        | (go_at_call 23; (with_reducible refine (onc _ J).mono ?_); rintro e w' ⟨rfl, hb⟩; replace J := HS.out.st _ _ J hb; have S4 := HS.out.s4 _ J; have S5 := HS.out.s5 _ J; have S6 := HS.out.s6 _ J; have l1 := (HS.out.sv _ J).cell1; have l0 := (HS.out.sv _ J).cell; have f0 := S4.c0; clear hb)
                        | (go_at_call 23; (with_reducible refine (ons _ J).mono ?_); rintro e w' ⟨rfl, hb⟩; replace J := HS.out.st _ _ J hb; have S4 := HS.out.s4 _ J; have S5 := HS.out.s5 _ J; have S6 := HS.out.s6 _ J; have l1 := (HS.out.sv _ J).cell1; have l0 := (HS.out.sv _ J).cell; have f0 := S4.c0; clear hb))
                      go_meet
                      case rel => exact ⟨rfl, J⟩
                  · have d1 : decide (1 ≤ k) = false := decide_eq_false k1
                    subst hn1
                    clear hnc
                    as_aux_lemma =>
                      go_wp2_with (first
                        | ((with_reducible refine wpList_load6 (.tmp 4) wr.heap.size S4 ?_ ?_ ?_ ?_); rfl; rfl; rfl)
                        | ((with_reducible refine wpList_load6g (.tmp 4) wr.heap.size S4 ?_ ?_ ?_ ?_); rfl; rfl; rfl)
                        | ((with_reducible refine wpList_load6 (.tmp 5) (wr.heap.size + 1) S5 ?_ ?_ ?_ ?_); rfl; rfl; rfl)
                        | ((with_reducible refine wpList_load6g (.tmp 5) (wr.heap.size + 1) S5 ?_ ?_ ?_ ?_); rfl; rfl; rfl)
                        | ((with_reducible refine wpList_load6 (.tmp 6) (wr.heap.size + 2) S6 ?_ ?_ ?_ ?_); rfl; rfl; rfl)
                        | ((with_reducible refine wpList_load6g (.tmp 6) (wr.heap.size + 2) S6 ?_ ?_ ?_ ?_); rfl; rfl; rfl)
                        | (go_at_call 21; (with_reducible refine (hle _ J).mono ?_); rintro e w' ⟨rfl, hb⟩; replace J := HS.out.st _ _ J hb; have S4 := HS.out.s4 _ J; have S5 := HS.out.s5 _ J; have S6 := HS.out.s6 _ J; have l1 := (HS.out.sv _ J).cell1; have l0 := (HS.out.sv _ J).cell; have f0 := S4.c0; clear hb)
                        | (go_at_call 23; (with_reducible refine (onc _ J).mono ?_); rintro e w' ⟨rfl, hb⟩; replace J := HS.out.st _ _ J hb; have S4 := HS.out.s4 _ J; have S5 := HS.out.s5 _ J; have S6 := HS.out.s6 _ J; have l1 := (HS.out.sv _ J).cell1; have l0 := (HS.out.sv _ J).cell; have f0 := S4.c0; clear hb)
                        | (go_at_call 23; (with_reducible refine (ons _ J).mono ?_); rintro e w' ⟨rfl, hb⟩; replace J := HS.out.st _ _ J hb; have S4 := HS.out.s4 _ J; have S5 := HS.out.s5 _ J; have S6 := HS.out.s6 _ J; have l1 := (HS.out.sv _ J).cell1; have l0 := (HS.out.sv _ J).cell; have f0 := S4.c0; clear hb))
                      go_meet
                      case rel => exact ⟨rfl, J⟩
                · have dnc : decide (0 < nc) = false := decide_eq_false (by omega)
                  have pnc : ¬ 0 < nc := by omega
                  clear hnc nc3
                  as_aux_lemma =>
                    go_wp2_with (first
                      | ((with_reducible refine wpList_load6 (.tmp 4) wr.heap.size S4 ?_ ?_ ?_ ?_); rfl; rfl; rfl)
                      | ((with_reducible refine wpList_load6g (.tmp 4) wr.heap.size S4 ?_ ?_ ?_ ?_); rfl; rfl; rfl)
                      | ((with_reducible refine wpList_load6 (.tmp 5) (wr.heap.size + 1) S5 ?_ ?_ ?_ ?_); rfl; rfl; rfl)
                      | ((with_reducible refine wpList_load6g (.tmp 5) (wr.heap.size + 1) S5 ?_ ?_ ?_ ?_); rfl; rfl; rfl)
                      | ((with_reducible refine wpList_load6 (.tmp 6) (wr.heap.size + 2) S6 ?_ ?_ ?_ ?_); rfl; rfl; rfl)
                      | ((with_reducible refine wpList_load6g (.tmp 6) (wr.heap.size + 2) S6 ?_ ?_ ?_ ?_); rfl; rfl; rfl)
                      | (go_at_call 21; (with_reducible refine (hle _ J).mono ?_); rintro e w' ⟨rfl, hb⟩; replace J := HS.out.st _ _ J hb; have S4 := HS.out.s4 _ J; have S5 := HS.out.s5 _ J; have S6 := HS.out.s6 _ J; have l1 := (HS.out.sv _ J).cell1; have l0 := (HS.out.sv _ J).cell; have f0 := S4.c0; clear hb)
                      | (go_at_call 23; (with_reducible refine (onc _ J).mono ?_); rintro e w' ⟨rfl, hb⟩; replace J := HS.out.st _ _ J hb; have S4 := HS.out.s4 _ J; have S5 := HS.out.s5 _ J; have S6 := HS.out.s6 _ J; have l1 := (HS.out.sv _ J).cell1; have l0 := (HS.out.sv _ J).cell; have f0 := S4.c0; clear hb)
                      | (go_at_call 23; (with_reducible refine (ons _ J).mono ?_); rintro e w' ⟨rfl, hb⟩; replace J := HS.out.st _ _ J hb; have S4 := HS.out.s4 _ J; have S5 := HS.out.s5 _ J; have S6 := HS.out.s6 _ J; have l1 := (HS.out.sv _ J).cell1; have l0 := (HS.out.sv _ J).cell; have f0 := S4.c0; clear hb))
                    go_meet
                    case rel => exact ⟨rfl, J⟩
            case rest =>
              obtain ⟨rfl, J⟩ := hcut
              go_wp2_with fail
              go_roundg (gk - 1)
              case measure => omega
              case rel => exact ⟨j + 1, by omega, by omega, by go_num, HS.out.sv _ J⟩
      · go_wp2_with (go_at_call 11; (with_reducible refine (hwk _ I.bel).mono ?_); rintro e w' ⟨rfl, hb⟩; replace I := I.step hb)
        go_ret
        exact ⟨rfl, I.bel⟩
    · go_wp2_with (go_at_call 11; (with_reducible refine (hwk _ I.bel).mono ?_); rintro e w' ⟨rfl, hb⟩; replace I := I.step hb)
      go_ret
      exact ⟨rfl, I.bel⟩
end Go.Proofs.YtoifjjgakblhhaaGreatDoor
