/- Texts of one kind, one behind the other: each says ahead of itself what it shows. -/
import Derived.Test.YtoifjjgakblhhaaGreatDoorHat
import Derived.Test.YtoifjjgakblhhaaGreatDoorHav
/- The law ValueEncodes, walked. -/
namespace Go.Proofs.YtoifjjgakblhhaaGreatDoor
open Go.RowKit

/-- What both tell. -/
def BothPost (w : World) (r : Int) (X : List UInt8) (e : Ending) (w' : World) : Prop := ∃ A, e = .returned (.tuple #[A, .int .i64 r]) ∧ Bts w' A X ∧ Below w.heap.size w w'

set_option maxRecDepth 200000 in
set_option maxHeartbeats 40000000 in
theorem encodesSome (l : List Val) (g off cap : Nat) (lang : Int) (w : World) (hG : Gd w) (hT : Tab w) (hl : Holds w g off l) (hl2 : Held w (.slice (some ⟨g, off, none⟩) l.length cap) l) (hn : l.length ≤ 2097152) (hw : wAll l ≤ 1048576) :
    Calls Tryz.prog 5 #[.agg #[.slice (some ⟨g, off, none⟩) l.length cap, .int .i64 lang]] w fun e w' => e = .returned (.bool true) ∧ Below w.heap.size w w' := by
  have I0 := LInv.start w (.slice (some ⟨g, off, none⟩) l.length cap) (.int .i64 lang)
  obtain ⟨W1, hW1⟩ : ∃ W1, W1 = w.alloc (.cells #[.slice (some ⟨g, off, none⟩) l.length cap, .int .i64 lang] 24) := ⟨_, rfl⟩
  rw [← hW1] at I0
  have hli := lightC l (some ⟨g, off, none⟩) cap W1 (Held.below l hl2 I0.bel) hn
  have hwk := fun W (h : Below w.heap.size w W) => wakesAt W (hG.below h) (hT.below h)
  obtain ⟨n, hln⟩ : ∃ n, n = l.length := ⟨_, rfl⟩
  rw [← hln] at hn I0 hli hW1 ⊢
  have i0 := I0.cell
  have HW1 := Lib.hid hW1
  have HL := Lib.hid hln
  have HH := Lib.hid hl
  have HWT := Lib.hid hw
  have HGG := Lib.hid hG
  clear hl hln hW1 hl2 hG hT hw
  go_enter Tryz.func5, Tryz.ntmps5
  go_wp2_with (first
    | (go_at_call 10; rw [← HW1.out]; (with_reducible refine hli.mono ?_); rintro e w' ⟨r, rfl, hb⟩; replace I0 := I0.step hb; have i0 := I0.cell; clear hb; cases r)
    | (go_at_call 11; (with_reducible refine (hwk _ I0.bel).mono ?_); rintro e w' ⟨rfl, hb⟩; replace I0 := I0.step hb; clear hb))
  · go_ret
    exact ⟨rfl, I0.bel⟩
  go_loopg [3] n (fun gg s3 wr => ∃ j : Nat, j + gg = n ∧ s3 = .int .i64 j ∧ LInv w (.slice (some ⟨g, off, none⟩) n cap) (.int .i64 lang) wr)
  case atStart => exact ⟨0, by omega, rfl, I0⟩
  case round =>
    clear I0 i0 hli
    obtain ⟨j, hjg, rfl, I⟩ := hrel
    have hp := I.cell
    have hpp := I.lt
    by_cases hlt : (j : Int) < n
    · by_cases h20 : (j : Int) < 30
      · have hj1 : j < l.length := by have := HL.out; omega
        obtain ⟨k, b, m, t, x, q, p, cp, o⟩ := (Holds.at_ l off HH.out j hj1).opens
        have hwt : 13 * wOne l[j] ≤ 800000000 := by
          have h1 := wAll_mem (List.getElem_mem hj1)
          have h2 := HWT.out
          omega
        have hxl : (if mayP l[j] 0 then encP l[j] else []).length ≤ 1000000000 := by
          have := encP_len l[j]
          split
          · omega
          · simp
        have he : ∀ W, Below w.heap.size w W → Calls Tryz.prog 28 #[.agg #[.int .i64 k, .bool b, .int .i64 m, .string t, .string x, .slice p q.length cp]] W (BothPost W (if mayP l[j] 0 then 0 else 1) (if mayP l[j] 0 then encP l[j] else [])) := fun W h =>
          encodeAt l[j] k b m t x q p cp W (HGG.out.below h) o.e o.hf (Held.below q o.hl h) hwt
        have hr : ∀ W, Below w.heap.size w W → Calls Tryz.prog 29 #[.agg #[.int .i64 k, .bool b, .int .i64 m, .string t, .string x, .slice p q.length cp]] W (BothPost W (if mayP l[j] 0 then 0 else 1) (if mayP l[j] 0 then encP l[j] else [])) := fun W h =>
          refEncodeAt l[j] k b m t x q p cp W o.e o.hf (Held.below q o.hl h) hwt
        generalize (if mayP l[j] 0 then (0 : Int) else 1) = r at he hr
        generalize (if mayP l[j] 0 then encP l[j] else []) = X at he hr hxl
        have hq : ∀ W A B, Bts W A X → Bts W B X → Calls Tryz.prog 30 #[A, B] W fun e w' => e = .returned (.bool true) ∧ Below W.heap.size W w' := fun W A B hA hB => by
          have := eqBts X X A B W hA hB hxl hxl
          simpa using this
        have hcs : ∀ W, LInv w (.slice (some ⟨g, off, none⟩) n cap) (.int .i64 lang) W → Opens W g (off + j * 6) l[j] k b m t x q p cp := fun W h => o.below h.bel
        have HO := Lib.hid hcs
        have HE := Lib.hid he
        have HR := Lib.hid hr
        have HQ := Lib.hid hq
        have o1 := hcs _ I
        have c0 := o1.c0
        have c1 := o1.c1
        have c2 := o1.c2
        have c3 := o1.c3
        have c4 := o1.c4
        have c5 := o1.c5
        clear o o1 hcs he hr hq hwt hxl
        unfold BothPost at HE HR
        go_wp2_with (first
          | ((with_reducible refine wpList_loadMid6 (.tmp 28) g (off + j * 6) k b m t x (.slice p q.length cp) c0 c1 c2 c3 c4 c5 ?_ ?_ ?_ ?_); rfl; rfl; rfl)
          | ((with_reducible refine wpList_loadMid6 (.tmp 37) g (off + j * 6) k b m t x (.slice p q.length cp) c0 c1 c2 c3 c4 c5 ?_ ?_ ?_ ?_); rfl; rfl; rfl)
          | (go_at_call 28; (with_reducible refine (HE.out _ I.bel).mono ?_); rintro e w2 ⟨A2, rfl, B2, hb⟩; replace I := I.step hb; have hp := I.cell; have c0 := (HO.out _ I).c0; have c1 := (HO.out _ I).c1; have c2 := (HO.out _ I).c2; have c3 := (HO.out _ I).c3; have c4 := (HO.out _ I).c4; have c5 := (HO.out _ I).c5; clear hb)
          | (go_at_call 29; (with_reducible refine (HR.out _ I.bel).mono ?_); rintro e w3 ⟨A3, rfl, B3, hb⟩; replace I := I.step hb; have hp := I.cell; replace B2 := B2.below hb; have B23 := Lib.hid (And.intro B2 B3); clear hb B2 B3)
          | (go_at_call 30; (with_reducible refine (HQ.out _ _ _ B23.out.1 B23.out.2).mono ?_); rintro e w4 ⟨rfl, hb⟩; replace I := I.step hb; have hp := I.cell; clear hb))
        go_roundg (gk - 1)
        case measure => omega
        case rel => exact ⟨j + 1, by omega, by go_num, I⟩
      · go_wp2_with (go_at_call 11; (with_reducible refine (hwk _ I.bel).mono ?_); rintro e w' ⟨rfl, hb⟩; replace I := I.step hb)
        go_ret
        exact ⟨rfl, I.bel⟩
    · go_wp2_with (go_at_call 11; (with_reducible refine (hwk _ I.bel).mono ?_); rintro e w' ⟨rfl, hb⟩; replace I := I.step hb)
      go_ret
      exact ⟨rfl, I.bel⟩
end Go.Proofs.YtoifjjgakblhhaaGreatDoor
