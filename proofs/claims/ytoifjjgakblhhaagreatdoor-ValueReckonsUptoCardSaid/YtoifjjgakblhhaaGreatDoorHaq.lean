/- Texts of one kind, one behind the other: each says ahead of itself what it shows. -/
import Derived.Test.YtoifjjgakblhhaaGreatDoorHap
import Derived.Test.YtoifjjgakblhhaaGreatDoorHak
import Derived.WalkKit
import Derived.OwnWalk
import Derived.Maps.AppendAt
import Derived.Deep.LoopGhost
import Derived.Test.YtoifjjgakblhhaaGreatDoorHaf
import Derived.Test.YtoifjjgakblhhaaGreatDoorHah
import Derived.Lib.AppendStr
import Derived.Deep.AppendLies
import Derived.Test.YtoifjjgakblhhaaGreatDoorHai
import Derived.Test.YtoifjjgakblhhaaGreatDoorHaa
import Derived.Test.YtoifjjgakblhhaaGreatDoorHan
import Derived.Deep.CutBlock
/- A list of values copied: none of it lies where the old one lay. -/
namespace Go.Proofs.YtoifjjgakblhhaaGreatDoor
open Go.RowKit

/-- What copyList tells: the same values, in blocks of its own. -/
def CopyPost (w : World) (q : List Val) (e : Ending) (w' : World) : Prop := ∃ V xs, e = .returned V ∧ w'.ownsRow w.heap.size 28 6 V q.length xs ∧ CellsF w' (fun g => w.heap.size ≤ g ∧ g < w'.heap.size ∧ V.ownBlock ≠ some g) xs q ∧ Below w.heap.size w w'
/-- What a round keeps. -/
structure Acc (w : World) (l : List Val) (A : Value) (wr : World) : Prop where
  own : ∃ xs, wr.ownsRow w.heap.size 28 6 A l.length xs ∧ CellsF wr (fun g => w.heap.size ≤ g ∧ g < wr.heap.size ∧ A.ownBlock ≠ some g) xs l
  bel : Below w.heap.size w wr
theorem own_below {w w' : World} {base : Nat} {e : TypeId} {size : Nat} {v : Value} {n : Nat} {xs : List Value} (h : w.ownsRow base e size v n xs) (b : Below w.heap.size w w') : w'.ownsRow base e size v n xs := by
  refine ⟨h.1, ?_⟩
  rcases h.2 with h0 | ⟨g, cap, cur, e1, h1, h2, h3⟩
  · exact .inl h0
  · exact .inr ⟨g, cap, cur, e1, h1, (b.block g (lt_of_heap h2)).trans h2, h3⟩
theorem info28b : (Tryz.prog.info? 28).map (fun i => (i.zero, i.size, i.bytes)) = some (some (.agg #[.int .i64 0, .bool false, .int .i64 0, .string ⟨#[]⟩, .string ⟨#[]⟩, .slice none 0 0]), 6, 80) := by kernel_rfl
theorem cell_six_new (w : World) (a b c d e f : Value) (t : TypeId) : ∀ j u, [a, b, c, d, e, f][j]? = some u → (w.alloc (.cells #[a, b, c, d, e, f] t)).cell? ((⟨w.heap.size, 0, none⟩ : Addr).add j) = some u := by
  intro j u hj
  rw [Addr.add_mid, Nat.zero_add]
  exact cell_of (heap_new w _ rfl) j (by simpa using hj)
/-- The round's end: one value more. -/
theorem Acc.next {w wr wf w1 : World} {l : List Val} {A A2 : Value} {xs : List Value} {k : Int} {b : Bool} {n : Int} {t x : ByteArray} {q : List Val} {V : Value} {e : Nat} {o : Obj} (he : e = wr.heap.size)
    (hx : wr.ownsRow w.heap.size 28 6 A l.length xs) (hc : CellsF wr (fun g => w.heap.size ≤ g ∧ g < wr.heap.size ∧ A.ownBlock ≠ some g) xs l) (hbel : Below w.heap.size w wr)
    (bf : Below wr.heap.size wr wf) (hf : Fine n t x q.length) (hq : HeldF wf (fun g => e < g ∧ g < wf.heap.size) V q)
    (hown : w1.ownsRow w.heap.size 28 6 A2 (l.length + 1) (xs ++ [.int .i64 k, .bool b, .int .i64 n, .string t, .string x, V])) (hgrow : (wf.alloc o).grownBy w1 A.ownBlock) (hloc : A2.ownBlock = A.ownBlock ∨ A2.ownBlock = some (wf.heap.size + 1)) :
    Acc w (l ++ [.mk k b n t x q]) A2 w1 := by
  have hA : ∀ g, A.ownBlock = some g → g < wr.heap.size := fun g hg => (hx.lt g hg).2
  have s1 : (wf.alloc o).heap.size = wf.heap.size + 1 := by simp
  have s2 : wr.heap.size ≤ wf.heap.size := bf.size
  have s3 : (wf.alloc o).heap.size ≤ w1.heap.size := hgrow.size
  have s0 : w.heap.size ≤ wr.heap.size := hbel.size
  have hn2 : ∀ g, g < wf.heap.size → A.ownBlock ≠ some g → A2.ownBlock ≠ some g := fun g hg hne h => by
    rcases hloc with h2 | h2
    · exact hne (h2 ▸ h)
    · rw [h2] at h
      have := Option.some.inj h
      omega
  have keep : ∀ g, g < wf.heap.size → A.ownBlock ≠ some g → w1.heap[g]? = wf.heap[g]? := fun g hg hne => by
    rw [hgrow.block g (by omega) (fun h => hne h.symm)]
    exact Below.heap_alloc _ _ _ hg
  refine ⟨⟨_, by rw [List.length_append]; exact hown, ?_⟩, (hbel.trans (bf.mono s0) |>.alloc (by omega) o).grown hgrow (by omega) (fun g hg => (hx.lt g hg).1)⟩
  refine CellsF.append l _ (hc.stays (fun g hg => ⟨⟨hg.1, by omega, hn2 g (by omega) hg.2.2⟩, ?_⟩) l) (CellsF.one hf (hq.stays (fun g hg => ?_) q))
  · rw [keep g (by omega) hg.2.2]
    exact bf.block g hg.2.1
  · have hne : A.ownBlock ≠ some g := fun h => by have := hA g h; omega
    exact ⟨⟨by omega, by omega, hn2 g hg.2 hne⟩, keep g hg.2 hne⟩

end Go.Proofs.YtoifjjgakblhhaaGreatDoor

/- How a value is encoded: the kinds one by one. -/

namespace Go.Proofs.YtoifjjgakblhhaaGreatDoor
open Go.RowKit

end Go.Proofs.YtoifjjgakblhhaaGreatDoor

/- The document's own encoding: a length, a text, the kinds one by one. -/
namespace Go.Proofs.YtoifjjgakblhhaaGreatDoor
open Go.RowKit

end Go.Proofs.YtoifjjgakblhhaaGreatDoor

/- How a text's length is encoded: four bytes behind what was there. -/
namespace Go.Proofs.YtoifjjgakblhhaaGreatDoor
open Go.RowKit

theorem info5b : (Tryz.prog.info? 5).map (fun i => (i.zero, i.size, i.bytes)) = some (some (.int .u8 0), 1, 1) := by kernel_rfl
/-- A row of bytes of one's own. -/
structure Own (base n : Nat) (v : Value) (w0 w : World) : Prop where
  row : ∃ xs, w.ownsRow base 5 1 v n xs
  lo : base ≤ w.heap.size
  bel : Below base w0 w

set_option maxRecDepth 20000 in
set_option maxHeartbeats 3200000 in
theorem encodeInt3 (base n : Nat) (v : Value) (w0 w : World) (h : Own base n v w0 w) (hn : n ≤ 1000) :
    Calls Tryz.prog 107 #[v, .int .u64 3, .int .i64 4] w fun e w' => ∃ v', e = .returned v' ∧ Own base (n + 4) v' w0 w' := by
  obtain ⟨i0, hi, hz0, hz1, hz2⟩ := info_parts info5b
  go_enter Tryz.func107, Tryz.ntmps107
  go_wp2_with fail
  go_loopg [0, 7] 4 (fun gg s0 s7 wr => ∃ j : Nat, j + gg = 4 ∧ s7 = .int .i64 (3 - (j : Int)) ∧ Own base (n + j) s0 w0 wr)
  case atStart => exact ⟨0, by omega, rfl, h⟩
  case round =>
    clear h
    obtain ⟨j, hj, rfl, O⟩ := hrel
    have hj4 : j = 0 ∨ j = 1 ∨ j = 2 ∨ j = 3 ∨ j = 4 := by omega
    obtain ⟨⟨xs, hown⟩, hlo, hbel⟩ := O
    rcases hj4 with rfl | rfl | rfl | rfl | rfl
    case inr.inr.inr.inr =>
      go_wp2_with fail
      go_ret
      exact ⟨_, rfl, ⟨xs, hown⟩, hlo, hbel⟩
    all_goals
      go_wp2_with (at_builtin; refine wpList_append_own _ rfl _ _ 40 rfl base 5 i0 (.int .u8 0) 1 1 Tryz.underlying40 hi hz0 hz1 hz2 rfl (by decide) _ _ _ rfl (hown.alloc _) ⟨wr.heap.size, 0, none⟩ 1 1 [_] rfl rfl (cell_one_new _ _ _) ?_ ?_ ?_ ?_ ?_)
      all_goals (try (first | rfl | (unfold maxLen; omega) | omega | (simp; omega) | (intro u hu; simp at hu; subst hu; rfl)))
      intro v' w1 hown' hgrow _
      have b1 : Below base w0 w1 := (hbel.alloc hlo _).grown hgrow (by simp; omega) (fun k hk => by have := (hown.lt k hk).1; omega)
      have l1 : base ≤ w1.heap.size := by have := hgrow.size; simp at this; omega
      clear hgrow
      go_wp2_with fail
      go_roundg (gk - 1)
      case measure => omega
      case rel => first | exact ⟨1, by omega, rfl, ⟨_, hown'⟩, l1, b1⟩ | exact ⟨2, by omega, rfl, ⟨_, hown'⟩, l1, b1⟩ | exact ⟨3, by omega, rfl, ⟨_, hown'⟩, l1, b1⟩ | exact ⟨4, by omega, rfl, ⟨_, hown'⟩, l1, b1⟩
end Go.Proofs.YtoifjjgakblhhaaGreatDoor

/- A number, not below nothing, written behind what is there: all other blocks stay; the steps of a region that draws. -/
namespace Go.Proofs.YtoifjjgakblhhaaGreatDoor
open Go.RowKit Go.Sort

/-- A new block of one byte, beside the row that one writes. -/
structure Fresh (W : World) (A : Value) (g : Nat) (c : UInt8) : Prop where
  cell : W.cell? ⟨g, 0, none⟩ = some (.int .u8 (c.toNat : Int))
  ne : some g ≠ A.ownBlock
section
variable {w0 W W2 : World} {A A2 : Value} {l : List UInt8} {g : Nat} {c d : UInt8}
theorem Fresh.new (O : OwnB w0 A l W) (e : W2 = W.alloc (.cells #[.int .u8 (c.toNat : Int)] 5)) : Fresh W2 A W.heap.size c :=
  ⟨by rw [e, World.cell?_alloc_new]; rfl, O.ne⟩
theorem Fresh.after (F : Fresh W A g c) (h : Below W.heap.size W W2) : Fresh W2 A g c := ⟨(h.cell (World.block_lt_of_cell? W _ F.cell)).trans F.cell, F.ne⟩
theorem Fresh.alloc (F : Fresh W A g c) {o : Obj} (e : W2 = W.alloc o) : Fresh W2 A g c := F.after (by rw [e]; exact below1 _ _)
theorem Fresh.far (F : Fresh W A g c) (h : W.grownBy W2 A.ownBlock) : W2.cell? ⟨g, 0, none⟩ = some (.int .u8 (c.toNat : Int)) :=
  (h.cell_far ⟨g, 0, none⟩ (World.block_lt_of_cell? W _ F.cell) F.ne).trans F.cell
theorem Fresh.grown (F : Fresh W A g c) (h : W.grownBy W2 A.ownBlock) (hat : A2.ownBlock = A.ownBlock ∨ A2.ownBlock = some W.heap.size) : Fresh W2 A2 g c :=
  ⟨F.far h, fun e => by
    rcases hat with k | k
    · exact F.ne (e.trans k)
    · have h1 := World.block_lt_of_cell? W _ F.cell
      have h2 : g = W.heap.size := Option.some.inj (e.trans k)
      have h3 : g < W.heap.size := h1
      omega⟩
end

section
variable {ops : Array Oper} {o : Oper} {a : Act} {K : Act → World → Prop} {Q : Exit → Act → World → Prop} {E : Prop} {w0 w : World} {A : Value} {l : List UInt8}
end
section
variable {ops : Array Oper} {rest : List Oper} {o : Oper} {a : Act} {Q : Exit → Act → World → Prop} {w0 w : World} {A : Value} {l : List UInt8}
end
end Go.Proofs.YtoifjjgakblhhaaGreatDoor

/- How a value is shown: the kinds one by one. -/
namespace Go.Proofs.YtoifjjgakblhhaaGreatDoor
open Go.RowKit

end Go.Proofs.YtoifjjgakblhhaaGreatDoor

/- How a value is shown: iris, blanks, nodes, edges. -/
namespace Go.Proofs.YtoifjjgakblhhaaGreatDoor
open Go.RowKit

end Go.Proofs.YtoifjjgakblhhaaGreatDoor

/- How a value is shown: lists, given how their elements are; all kinds put together; Text. -/
namespace Go.Proofs.YtoifjjgakblhhaaGreatDoor
open Go.RowKit

end Go.Proofs.YtoifjjgakblhhaaGreatDoor

/- The document's own answer: whether a text may be an address, a name. -/
namespace Go.Proofs.YtoifjjgakblhhaaGreatDoor
open Go.RowKit

set_option maxHeartbeats 1600000 in
theorem refIri (s : ByteArray) (w : World) (hs : s.size ≤ maxLen) :
    Calls Tryz.prog 79 #[.string s] w fun e w' => e = .returned (.bool (addrP s)) ∧ w = w' := by
  unfold maxLen at hs
  by_cases h0 : s.size = 0
  · have hv : addrP s = false := by
      unfold addrP
      rw [decide_eq_false_iff_not]
      omega
    rw [hv]
    go_enter Tryz.func79, Tryz.ntmps79
    go_wp2_with fail
    go_ret
    exact ⟨rfl, rfl⟩
  · by_cases hbig : (1048576 : Int) < s.size
    · have hv : addrP s = false := by
        unfold addrP
        rw [decide_eq_false_iff_not]
        omega
      have h1 : ¬ (s.size : Int) < 1 := by omega
      rw [hv]
      go_enter Tryz.func79, Tryz.ntmps79
      go_wp2_with fail
      go_ret
      exact ⟨rfl, rfl⟩
    · have h1 : ¬ (s.size : Int) < 1 := by omega
      go_enter Tryz.func79, Tryz.ntmps79
      go_wp2_with fail
      go_loop [3] (fun i => ∃ k : Nat, k ≤ s.size ∧ i = .int .i64 k ∧ ∀ j (h : j < s.size), j < k → addrC s[j] = true) (fun i => s.size - (intOf i).toNat)
      case atStart => exact ⟨0, Nat.zero_le _, rfl, fun j _ h => absurd h (by omega)⟩
      case round =>
        obtain ⟨k, hk, rfl, hall⟩ := hrel
        have HA := Lib.hid hall
        clear hall
        by_cases hlt : k < s.size
        · by_cases h1 : (s[k].toNat : Int) ≤ 32
          · go_wp2_with fail
            go_ret
            exact ⟨by rw [addr_no hlt (by simp [addrC]; omega)]; rfl, rfl⟩
          · by_cases h2 : (s[k].toNat : Int) = 60
            · go_wp2_with fail
              go_ret
              exact ⟨by rw [addr_no hlt (by simp [addrC]; omega)]; rfl, rfl⟩
            · by_cases h3 : (s[k].toNat : Int) = 62
              · go_wp2_with fail
                go_ret
                exact ⟨by rw [addr_no hlt (by simp [addrC]; omega)]; rfl, rfl⟩
              · go_wp2_with fail
                go_round
                case rel => exact ⟨k + 1, by omega, by go_num, pastAll (p := fun _ => addrC) hlt HA.out (by simp [addrC]; omega)⟩
                case measure => simp [intOf]; omega
        · go_wp2_with fail
          go_ret
          have hv : addrP s = true := by
            unfold addrP
            rw [decide_eq_true_eq]
            exact ⟨by omega, by omega, fun j hj => HA.out j hj (by omega)⟩
          exact ⟨by rw [hv]; rfl, rfl⟩
set_option maxHeartbeats 3200000 in
theorem refName (s : ByteArray) (w : World) (hs : s.size ≤ maxLen) :
    Calls Tryz.prog 80 #[.string s] w fun e w' => e = .returned (.bool (nameP s)) ∧ w = w' := by
  unfold maxLen at hs
  by_cases h0 : s.size = 0
  · have hv : nameP s = false := by
      unfold nameP
      rw [decide_eq_false_iff_not]
      omega
    rw [hv]
    go_enter Tryz.func80, Tryz.ntmps80
    go_wp2_with fail
    go_ret
    exact ⟨rfl, rfl⟩
  have hpos : 0 < s.size := by omega
  have hlow : ¬ (s.size : Int) < 1 := by omega
  by_cases hbig : (64 : Int) < s.size
  · have hv : nameP s = false := by
      unfold nameP
      rw [decide_eq_false_iff_not]
      omega
    rw [hv]
    go_enter Tryz.func80, Tryz.ntmps80
    go_wp2_with fail
    go_ret
    exact ⟨rfl, rfl⟩
  by_cases hd : (48 : Int) ≤ s[0].toNat ∧ (s[0].toNat : Int) ≤ 57
  · have hv : nameP s = false := name_no hpos (by simp [nameC, letterB]; omega)
    rw [hv]
    obtain ⟨d1, d2⟩ := hd
    go_enter Tryz.func80, Tryz.ntmps80
    go_wp2_with fail
    go_ret
    exact ⟨rfl, rfl⟩
  have HD := Lib.hid hd
  have hdd : ¬ (48 : Int) ≤ s[0].toNat ∨ ¬ (s[0].toNat : Int) ≤ 57 := by omega
  clear hd
  rcases hdd with hdd | hdd
  all_goals
    go_enter Tryz.func80, Tryz.ntmps80
    go_wp2_with fail
    all_goals
      go_loop [3] (fun i => ∃ k : Nat, k ≤ s.size ∧ i = .int .i64 k ∧ ∀ j (h : j < s.size), j < k → nameC j s[j] = true) (fun i => s.size - (intOf i).toNat)
      case atStart => exact ⟨0, Nat.zero_le _, rfl, fun j _ h => absurd h (by omega)⟩
      case round =>
        clear hdd
        obtain ⟨k, hk, rfl, hall⟩ := hrel
        have HA := Lib.hid hall
        clear hall
        by_cases hlt : k < s.size
        · by_cases a1 : (97 : Int) ≤ s[k].toNat
          · by_cases a2 : (s[k].toNat : Int) ≤ 122
            · go_wp2_with fail
              go_round
              case rel => exact ⟨k + 1, by omega, by go_num, pastAll (p := nameC) hlt HA.out (by simp [nameC, letterB]; omega)⟩
              case measure => simp [intOf]; omega
            · have a3 : (65 : Int) ≤ s[k].toNat := by omega
              have a4 : ¬ (s[k].toNat : Int) ≤ 90 := by omega
              have a5 : (48 : Int) ≤ s[k].toNat := by omega
              have a6 : ¬ (s[k].toNat : Int) ≤ 57 := by omega
              have a7 : ¬ (s[k].toNat : Int) = 95 := by omega
              have e7 : ((s[k].toNat : Int) == 95) = false := by simpa using a7
              go_wp2_with fail
              go_ret
              exact ⟨by rw [name_no hlt (by simp [nameC, letterB, digitB]; omega)]; rfl, rfl⟩
          · by_cases a3 : (65 : Int) ≤ s[k].toNat
            · by_cases a4 : (s[k].toNat : Int) ≤ 90
              · go_wp2_with fail
                go_round
                case rel => exact ⟨k + 1, by omega, by go_num, pastAll (p := nameC) hlt HA.out (by simp [nameC, letterB]; omega)⟩
                case measure => simp [intOf]; omega
              · have a5 : (48 : Int) ≤ s[k].toNat := by omega
                have a6 : ¬ (s[k].toNat : Int) ≤ 57 := by omega
                by_cases a7 : (s[k].toNat : Int) = 95
                · have e7 : ((s[k].toNat : Int) == 95) = true := by simpa using a7
                  go_wp2_with fail
                  go_round
                  case rel => exact ⟨k + 1, by omega, by go_num, pastAll (p := nameC) hlt HA.out (by simp [nameC, letterB]; omega)⟩
                  case measure => simp [intOf]; omega
                · have e7 : ((s[k].toNat : Int) == 95) = false := by simpa using a7
                  go_wp2_with fail
                  go_ret
                  exact ⟨by rw [name_no hlt (by simp [nameC, letterB, digitB]; omega)]; rfl, rfl⟩
            · by_cases a5 : (48 : Int) ≤ s[k].toNat
              · by_cases a6 : (s[k].toNat : Int) ≤ 57
                · have hk0 : k ≠ 0 := by
                    rintro rfl
                    exact HD.out ⟨a5, a6⟩
                  go_wp2_with fail
                  go_round
                  case rel => exact ⟨k + 1, by omega, by go_num, pastAll (p := nameC) hlt HA.out (by simp [nameC, digitB, hk0]; omega)⟩
                  case measure => simp [intOf]; omega
                · have a7 : ¬ (s[k].toNat : Int) = 95 := by omega
                  have e7 : ((s[k].toNat : Int) == 95) = false := by simpa using a7
                  go_wp2_with fail
                  go_ret
                  exact ⟨by rw [name_no hlt (by simp [nameC, letterB, digitB]; omega)]; rfl, rfl⟩
              · have a7 : ¬ (s[k].toNat : Int) = 95 := by omega
                have e7 : ((s[k].toNat : Int) == 95) = false := by simpa using a7
                go_wp2_with fail
                go_ret
                exact ⟨by rw [name_no hlt (by simp [nameC, letterB, digitB]; omega)]; rfl, rfl⟩
        · go_wp2_with fail
          go_ret
          have hv : nameP s = true := by
            unfold nameP
            rw [decide_eq_true_eq]
            exact ⟨hpos, by omega, fun j hj => HA.out j hj (by omega)⟩
          exact ⟨by rw [hv]; rfl, rfl⟩
end Go.Proofs.YtoifjjgakblhhaaGreatDoor

/- The document's own answer: whether a value may be, kind by kind, but for lists. -/
namespace Go.Proofs.YtoifjjgakblhhaaGreatDoor
open Go.RowKit

theorem bareP_as (b : Bool) (n : Int) (t x : ByteArray) (len : Nat) : bareP b n t x len = (!b && !(n != 0) && !(!t.toList.isEmpty) && !(!x.toList.isEmpty) && !(decide (0 < len))) := by
  have e1 : decide (n = 0) = !(n != 0) := by cases h : (n != 0) <;> simp_all
  have e2 : decide (t.size = 0) = !(!t.toList.isEmpty) := by
    rw [Bool.not_not, Bool.eq_iff_iff, decide_eq_true_eq]
    exact (empty_iff t).symm
  have e3 : decide (x.size = 0) = !(!x.toList.isEmpty) := by
    rw [Bool.not_not, Bool.eq_iff_iff, decide_eq_true_eq]
    exact (empty_iff x).symm
  have e4 : decide (len = 0) = !(decide (0 < len)) := by
    rw [Bool.eq_iff_iff]
    simp
  unfold bareP
  rw [e1, e2, e3, e4]
theorem emptyB : (!(⟨#[]⟩ : ByteArray).toList.isEmpty) = false := by
  have := (empty_iff ⟨#[]⟩).2 rfl
  rw [this]
  rfl

theorem fitsK0 (b : Bool) (n : Int) (t x : ByteArray) (len : Nat) (r : Bool) : fitsP 0 b n t x len r = (!b && !(n != 0) && !(!t.toList.isEmpty) && !(!x.toList.isEmpty) && !(decide (0 < len))) := by
  rw [show fitsP 0 b n t x len r = bareP b n t x len from rfl]
  rw [bareP_as]
set_option maxRecDepth 20000 in
set_option maxHeartbeats 6400000 in
theorem refMay0 (b : Bool) (n : Int) (t x : ByteArray) (p : Option Addr) (len cap d : Nat) (r0 : Bool) (w : World) (hd : (d : Int) ≤ 60) (ht : t.size ≤ 2097152) (hx : x.size ≤ 2097152) :
    Calls Tryz.prog 39 #[.agg #[.int .i64 0, .bool b, .int .i64 n, .string t, .string x, .slice p len cap], .int .i64 d] w fun e w' => e = .returned (.bool (fitsP 0 b n t x len r0)) ∧ Below w.heap.size w w' := by
  have S := six_new (k := 0) (b := b) (n := n) (t := t) (x := x) (p := p) (len := len) (cap := cap) w rfl
  have b0 := below1 w (.cells #[.int .i64 0, .bool b, .int .i64 n, .string t, .string x, .slice p len cap] 28)
  have f0 := S.c0
  have f1 := S.c1
  have f2 := S.c2
  have f3 := S.c3
  have f4 := S.c4
  have f5 := S.c5
  rw [fitsK0]
  obtain ⟨r, hr⟩ : ∃ r, r = (!b && !(n != 0) && !(!t.toList.isEmpty) && !(!x.toList.isEmpty) && !(decide (0 < len))) := ⟨_, rfl⟩
  rw [← hr]
  obtain ⟨w1, hw1⟩ : ∃ w1, w1 = w.alloc (.cells #[.int .i64 0, .bool b, .int .i64 n, .string t, .string x, .slice p len cap] 28) := ⟨_, rfl⟩
  rw [← hw1] at S b0
  have HW := Lib.hid hw1
  have HR := Lib.hid hr
  clear hw1 hr
  go_enter Tryz.func39, Tryz.ntmps39
  go_upto_region 9 with fail
  rw [← HW.out]
  clear f0 f1 f2 f3 f4 f5
  have f0 := S.c0
  have f2 := S.c2
  have f3 := S.c3
  have f4 := S.c4
  have HR2 := HR.out
  clear HR
  generalize (n != 0) = nb at HR2 ⊢
  generalize (!t.toList.isEmpty) = tb at HR2 ⊢
  generalize (!x.toList.isEmpty) = xb at HR2 ⊢
  generalize decide (0 < len) = lb at HR2 ⊢
  have HR3 := Lib.hid HR2
  clear HR2 ht hx
  go_wp2_with fail
  all_goals
    go_ret
    exact ⟨by rw [HR3.out]; simp_all <;> (intros; omega), b0⟩

theorem fitsK1 (b : Bool) (n : Int) (t x : ByteArray) (len : Nat) (r : Bool) : fitsP 1 b n t x len r = (!(n != 0) && !(!t.toList.isEmpty) && !(!x.toList.isEmpty) && !(decide (0 < len))) := by
  rw [show fitsP 1 b n t x len r = bareP false n t x len from rfl]
  rw [bareP_as]
  simp
set_option maxRecDepth 20000 in
set_option maxHeartbeats 6400000 in
theorem refMay1 (b : Bool) (n : Int) (t x : ByteArray) (p : Option Addr) (len cap d : Nat) (r0 : Bool) (w : World) (hd : (d : Int) ≤ 60) (ht : t.size ≤ 2097152) (hx : x.size ≤ 2097152) :
    Calls Tryz.prog 39 #[.agg #[.int .i64 1, .bool b, .int .i64 n, .string t, .string x, .slice p len cap], .int .i64 d] w fun e w' => e = .returned (.bool (fitsP 1 b n t x len r0)) ∧ Below w.heap.size w w' := by
  have S := six_new (k := 1) (b := b) (n := n) (t := t) (x := x) (p := p) (len := len) (cap := cap) w rfl
  have b0 := below1 w (.cells #[.int .i64 1, .bool b, .int .i64 n, .string t, .string x, .slice p len cap] 28)
  have f0 := S.c0
  have f1 := S.c1
  have f2 := S.c2
  have f3 := S.c3
  have f4 := S.c4
  have f5 := S.c5
  rw [fitsK1]
  obtain ⟨r, hr⟩ : ∃ r, r = (!(n != 0) && !(!t.toList.isEmpty) && !(!x.toList.isEmpty) && !(decide (0 < len))) := ⟨_, rfl⟩
  rw [← hr]
  obtain ⟨w1, hw1⟩ : ∃ w1, w1 = w.alloc (.cells #[.int .i64 1, .bool b, .int .i64 n, .string t, .string x, .slice p len cap] 28) := ⟨_, rfl⟩
  rw [← hw1] at S b0
  have HW := Lib.hid hw1
  have HR := Lib.hid hr
  clear hw1 hr
  go_enter Tryz.func39, Tryz.ntmps39
  go_upto_region 9 with fail
  rw [← HW.out]
  clear f0 f1 f2 f3 f4 f5
  have f0 := S.c0
  have f2 := S.c2
  have f3 := S.c3
  have f4 := S.c4
  have HR2 := HR.out
  clear HR
  generalize (n != 0) = nb at HR2 ⊢
  generalize (!t.toList.isEmpty) = tb at HR2 ⊢
  generalize (!x.toList.isEmpty) = xb at HR2 ⊢
  generalize decide (0 < len) = lb at HR2 ⊢
  have HR3 := Lib.hid HR2
  clear HR2 ht hx
  go_wp2_with fail
  all_goals
    go_ret
    exact ⟨by rw [HR3.out]; simp_all <;> (intros; omega), b0⟩

theorem fitsK2 (b : Bool) (n : Int) (t x : ByteArray) (len : Nat) (r : Bool) : fitsP 2 b n t x len r = (!b && !(!t.toList.isEmpty) && !(!x.toList.isEmpty) && !(decide (0 < len))) := by
  rw [show fitsP 2 b n t x len r = bareP b 0 t x len from rfl]
  rw [bareP_as]
  simp
set_option maxRecDepth 20000 in
set_option maxHeartbeats 6400000 in
theorem refMay2 (b : Bool) (n : Int) (t x : ByteArray) (p : Option Addr) (len cap d : Nat) (r0 : Bool) (w : World) (hd : (d : Int) ≤ 60) (ht : t.size ≤ 2097152) (hx : x.size ≤ 2097152) :
    Calls Tryz.prog 39 #[.agg #[.int .i64 2, .bool b, .int .i64 n, .string t, .string x, .slice p len cap], .int .i64 d] w fun e w' => e = .returned (.bool (fitsP 2 b n t x len r0)) ∧ Below w.heap.size w w' := by
  have S := six_new (k := 2) (b := b) (n := n) (t := t) (x := x) (p := p) (len := len) (cap := cap) w rfl
  have b0 := below1 w (.cells #[.int .i64 2, .bool b, .int .i64 n, .string t, .string x, .slice p len cap] 28)
  have f0 := S.c0
  have f1 := S.c1
  have f2 := S.c2
  have f3 := S.c3
  have f4 := S.c4
  have f5 := S.c5
  rw [fitsK2]
  obtain ⟨r, hr⟩ : ∃ r, r = (!b && !(!t.toList.isEmpty) && !(!x.toList.isEmpty) && !(decide (0 < len))) := ⟨_, rfl⟩
  rw [← hr]
  obtain ⟨w1, hw1⟩ : ∃ w1, w1 = w.alloc (.cells #[.int .i64 2, .bool b, .int .i64 n, .string t, .string x, .slice p len cap] 28) := ⟨_, rfl⟩
  rw [← hw1] at S b0
  have HW := Lib.hid hw1
  have HR := Lib.hid hr
  clear hw1 hr
  go_enter Tryz.func39, Tryz.ntmps39
  go_upto_region 9 with fail
  rw [← HW.out]
  clear f0 f1 f2 f3 f4 f5
  have f0 := S.c0
  have f2 := S.c2
  have f3 := S.c3
  have f4 := S.c4
  have HR2 := HR.out
  clear HR
  generalize (n != 0) = nb at HR2 ⊢
  generalize (!t.toList.isEmpty) = tb at HR2 ⊢
  generalize (!x.toList.isEmpty) = xb at HR2 ⊢
  generalize decide (0 < len) = lb at HR2 ⊢
  have HR3 := Lib.hid HR2
  clear HR2 ht hx
  go_wp2_with fail
  all_goals
    go_ret
    exact ⟨by rw [HR3.out]; simp_all <;> (intros; omega), b0⟩

theorem fitsK3 (b : Bool) (n : Int) (t x : ByteArray) (len : Nat) (r : Bool) : fitsP 3 b n t x len r = (chk t.data.toList && (!b && !(n != 0) && !(!x.toList.isEmpty) && !(decide (0 < len)))) := by
  rw [show fitsP 3 b n t x len r = (chk t.data.toList && bareP b n ⟨#[]⟩ x len) from rfl]
  rw [bareP_as]
  rw [emptyB]
  simp
set_option maxRecDepth 20000 in
set_option maxHeartbeats 6400000 in
theorem refMay3 (b : Bool) (n : Int) (t x : ByteArray) (p : Option Addr) (len cap d : Nat) (r0 : Bool) (w : World) (hd : (d : Int) ≤ 60) (ht : t.size ≤ 2097152) (hx : x.size ≤ 2097152) :
    Calls Tryz.prog 39 #[.agg #[.int .i64 3, .bool b, .int .i64 n, .string t, .string x, .slice p len cap], .int .i64 d] w fun e w' => e = .returned (.bool (fitsP 3 b n t x len r0)) ∧ Below w.heap.size w w' := by
  have S := six_new (k := 3) (b := b) (n := n) (t := t) (x := x) (p := p) (len := len) (cap := cap) w rfl
  have b0 := below1 w (.cells #[.int .i64 3, .bool b, .int .i64 n, .string t, .string x, .slice p len cap] 28)
  have f0 := S.c0
  have f1 := S.c1
  have f2 := S.c2
  have f3 := S.c3
  have f4 := S.c4
  have f5 := S.c5
  rw [fitsK3]
  obtain ⟨r, hr⟩ : ∃ r, r = (chk t.data.toList && (!b && !(n != 0) && !(!x.toList.isEmpty) && !(decide (0 < len)))) := ⟨_, rfl⟩
  rw [← hr]
  have hC := fun W => refCheck t W (by omega)
  obtain ⟨w1, hw1⟩ : ∃ w1, w1 = w.alloc (.cells #[.int .i64 3, .bool b, .int .i64 n, .string t, .string x, .slice p len cap] 28) := ⟨_, rfl⟩
  rw [← hw1] at S b0
  have HW := Lib.hid hw1
  have HR := Lib.hid hr
  clear hw1 hr
  go_enter Tryz.func39, Tryz.ntmps39
  go_upto_region 9 with fail
  rw [← HW.out]
  clear f0 f1 f2 f3 f4 f5
  have f0 := S.c0
  have f2 := S.c2
  have f3 := S.c3
  have f4 := S.c4
  have HR2 := HR.out
  clear HR
  generalize (n != 0) = nb at HR2 ⊢
  generalize (!t.toList.isEmpty) = tb at HR2 ⊢
  generalize (!x.toList.isEmpty) = xb at HR2 ⊢
  generalize decide (0 < len) = lb at HR2 ⊢
  generalize chk t.data.toList = C at HR2 hC ⊢
  have HR3 := Lib.hid HR2
  clear HR2 ht hx
  go_wp2_with (go_at_call 78; (with_reducible refine (hC _).mono ?_); rintro e w' ⟨rfl, hb⟩; replace b0 := below_any b0 hb b0.size)
  all_goals
    go_ret
    exact ⟨by rw [HR3.out]; simp_all <;> (intros; omega), b0⟩
end Go.Proofs.YtoifjjgakblhhaaGreatDoor

/- The document's own answer: whether a value may be, kind by kind: more kinds. -/
namespace Go.Proofs.YtoifjjgakblhhaaGreatDoor
open Go.RowKit


theorem fitsK4 (b : Bool) (n : Int) (t x : ByteArray) (len : Nat) (r : Bool) : fitsP 4 b n t x len r = (decide ((t.size : Int) ≤ 1048576) && (!b && !(n != 0) && !(!x.toList.isEmpty) && !(decide (0 < len)))) := by
  rw [show fitsP 4 b n t x len r = (decide (t.size ≤ 1048576) && bareP b n ⟨#[]⟩ x len) from rfl]
  rw [bareP_as]
  rw [emptyB, show decide (t.size ≤ 1048576) = decide ((t.size : Int) ≤ 1048576) from decide_eq_decide.2 (by omega)]
  simp
set_option maxRecDepth 20000 in
set_option maxHeartbeats 6400000 in
theorem refMay4 (b : Bool) (n : Int) (t x : ByteArray) (p : Option Addr) (len cap d : Nat) (r0 : Bool) (w : World) (hd : (d : Int) ≤ 60) (ht : t.size ≤ 2097152) (hx : x.size ≤ 2097152) :
    Calls Tryz.prog 39 #[.agg #[.int .i64 4, .bool b, .int .i64 n, .string t, .string x, .slice p len cap], .int .i64 d] w fun e w' => e = .returned (.bool (fitsP 4 b n t x len r0)) ∧ Below w.heap.size w w' := by
  have S := six_new (k := 4) (b := b) (n := n) (t := t) (x := x) (p := p) (len := len) (cap := cap) w rfl
  have b0 := below1 w (.cells #[.int .i64 4, .bool b, .int .i64 n, .string t, .string x, .slice p len cap] 28)
  have f0 := S.c0
  have f1 := S.c1
  have f2 := S.c2
  have f3 := S.c3
  have f4 := S.c4
  have f5 := S.c5
  rw [fitsK4]
  obtain ⟨r, hr⟩ : ∃ r, r = (decide ((t.size : Int) ≤ 1048576) && (!b && !(n != 0) && !(!x.toList.isEmpty) && !(decide (0 < len)))) := ⟨_, rfl⟩
  rw [← hr]
  obtain ⟨w1, hw1⟩ : ∃ w1, w1 = w.alloc (.cells #[.int .i64 4, .bool b, .int .i64 n, .string t, .string x, .slice p len cap] 28) := ⟨_, rfl⟩
  rw [← hw1] at S b0
  have HW := Lib.hid hw1
  have HR := Lib.hid hr
  clear hw1 hr
  go_enter Tryz.func39, Tryz.ntmps39
  go_upto_region 9 with fail
  rw [← HW.out]
  clear f0 f1 f2 f3 f4 f5
  have f0 := S.c0
  have f2 := S.c2
  have f3 := S.c3
  have f4 := S.c4
  have HR2 := HR.out
  clear HR
  generalize (n != 0) = nb at HR2 ⊢
  generalize (!t.toList.isEmpty) = tb at HR2 ⊢
  generalize (!x.toList.isEmpty) = xb at HR2 ⊢
  generalize decide (0 < len) = lb at HR2 ⊢
  have HR3 := Lib.hid HR2
  clear HR2 ht hx
  go_wp2_with fail
  all_goals
    go_ret
    exact ⟨by rw [HR3.out]; simp_all <;> (intros; omega), b0⟩

theorem fitsK6 (b : Bool) (n : Int) (t x : ByteArray) (len : Nat) (r : Bool) : fitsP 6 b n t x len r = (decide (0 ≤ n) && (!b && !(!t.toList.isEmpty) && !(!x.toList.isEmpty) && !(decide (0 < len)))) := by
  rw [show fitsP 6 b n t x len r = (decide (0 ≤ n) && bareP b 0 t x len) from rfl]
  rw [bareP_as]
  simp
set_option maxRecDepth 20000 in
set_option maxHeartbeats 6400000 in
theorem refMay6 (b : Bool) (n : Int) (t x : ByteArray) (p : Option Addr) (len cap d : Nat) (r0 : Bool) (w : World) (hd : (d : Int) ≤ 60) (ht : t.size ≤ 2097152) (hx : x.size ≤ 2097152) :
    Calls Tryz.prog 39 #[.agg #[.int .i64 6, .bool b, .int .i64 n, .string t, .string x, .slice p len cap], .int .i64 d] w fun e w' => e = .returned (.bool (fitsP 6 b n t x len r0)) ∧ Below w.heap.size w w' := by
  have S := six_new (k := 6) (b := b) (n := n) (t := t) (x := x) (p := p) (len := len) (cap := cap) w rfl
  have b0 := below1 w (.cells #[.int .i64 6, .bool b, .int .i64 n, .string t, .string x, .slice p len cap] 28)
  have f0 := S.c0
  have f1 := S.c1
  have f2 := S.c2
  have f3 := S.c3
  have f4 := S.c4
  have f5 := S.c5
  rw [fitsK6]
  obtain ⟨r, hr⟩ : ∃ r, r = (decide (0 ≤ n) && (!b && !(!t.toList.isEmpty) && !(!x.toList.isEmpty) && !(decide (0 < len)))) := ⟨_, rfl⟩
  rw [← hr]
  obtain ⟨w1, hw1⟩ : ∃ w1, w1 = w.alloc (.cells #[.int .i64 6, .bool b, .int .i64 n, .string t, .string x, .slice p len cap] 28) := ⟨_, rfl⟩
  rw [← hw1] at S b0
  have HW := Lib.hid hw1
  have HR := Lib.hid hr
  clear hw1 hr
  go_enter Tryz.func39, Tryz.ntmps39
  go_upto_region 9 with fail
  rw [← HW.out]
  clear f0 f1 f2 f3 f4 f5
  have f0 := S.c0
  have f2 := S.c2
  have f3 := S.c3
  have f4 := S.c4
  have HR2 := HR.out
  clear HR
  generalize (n != 0) = nb at HR2 ⊢
  generalize (!t.toList.isEmpty) = tb at HR2 ⊢
  generalize (!x.toList.isEmpty) = xb at HR2 ⊢
  generalize decide (0 < len) = lb at HR2 ⊢
  have HR3 := Lib.hid HR2
  clear HR2 ht hx
  go_wp2_with fail
  all_goals
    go_ret
    exact ⟨by rw [HR3.out]; simp_all <;> (intros; omega), b0⟩

theorem fitsK7 (b : Bool) (n : Int) (t x : ByteArray) (len : Nat) (r : Bool) : fitsP 7 b n t x len r = (decide (0 ≤ n) && (!b && !(!t.toList.isEmpty) && !(!x.toList.isEmpty) && !(decide (0 < len)))) := by
  rw [show fitsP 7 b n t x len r = (decide (0 ≤ n) && bareP b 0 t x len) from rfl]
  rw [bareP_as]
  simp
set_option maxRecDepth 20000 in
set_option maxHeartbeats 6400000 in
theorem refMay7 (b : Bool) (n : Int) (t x : ByteArray) (p : Option Addr) (len cap d : Nat) (r0 : Bool) (w : World) (hd : (d : Int) ≤ 60) (ht : t.size ≤ 2097152) (hx : x.size ≤ 2097152) :
    Calls Tryz.prog 39 #[.agg #[.int .i64 7, .bool b, .int .i64 n, .string t, .string x, .slice p len cap], .int .i64 d] w fun e w' => e = .returned (.bool (fitsP 7 b n t x len r0)) ∧ Below w.heap.size w w' := by
  have S := six_new (k := 7) (b := b) (n := n) (t := t) (x := x) (p := p) (len := len) (cap := cap) w rfl
  have b0 := below1 w (.cells #[.int .i64 7, .bool b, .int .i64 n, .string t, .string x, .slice p len cap] 28)
  have f0 := S.c0
  have f1 := S.c1
  have f2 := S.c2
  have f3 := S.c3
  have f4 := S.c4
  have f5 := S.c5
  rw [fitsK7]
  obtain ⟨r, hr⟩ : ∃ r, r = (decide (0 ≤ n) && (!b && !(!t.toList.isEmpty) && !(!x.toList.isEmpty) && !(decide (0 < len)))) := ⟨_, rfl⟩
  rw [← hr]
  obtain ⟨w1, hw1⟩ : ∃ w1, w1 = w.alloc (.cells #[.int .i64 7, .bool b, .int .i64 n, .string t, .string x, .slice p len cap] 28) := ⟨_, rfl⟩
  rw [← hw1] at S b0
  have HW := Lib.hid hw1
  have HR := Lib.hid hr
  clear hw1 hr
  go_enter Tryz.func39, Tryz.ntmps39
  go_upto_region 9 with fail
  rw [← HW.out]
  clear f0 f1 f2 f3 f4 f5
  have f0 := S.c0
  have f2 := S.c2
  have f3 := S.c3
  have f4 := S.c4
  have HR2 := HR.out
  clear HR
  generalize (n != 0) = nb at HR2 ⊢
  generalize (!t.toList.isEmpty) = tb at HR2 ⊢
  generalize (!x.toList.isEmpty) = xb at HR2 ⊢
  generalize decide (0 < len) = lb at HR2 ⊢
  have HR3 := Lib.hid HR2
  clear HR2 ht hx
  go_wp2_with fail
  all_goals
    go_ret
    exact ⟨by rw [HR3.out]; simp_all <;> (intros; omega), b0⟩
end Go.Proofs.YtoifjjgakblhhaaGreatDoor

/- The document's own answer: whether a value may be, kind by kind: more kinds. -/
namespace Go.Proofs.YtoifjjgakblhhaaGreatDoor
open Go.RowKit


theorem fitsK8 (b : Bool) (n : Int) (t x : ByteArray) (len : Nat) (r : Bool) : fitsP 8 b n t x len r = (addrP t && (!b && !(n != 0) && !(!x.toList.isEmpty) && !(decide (0 < len)))) := by
  rw [show fitsP 8 b n t x len r = (addrP t && bareP b n ⟨#[]⟩ x len) from rfl]
  rw [bareP_as]
  rw [emptyB]
  simp
set_option maxRecDepth 20000 in
set_option maxHeartbeats 6400000 in
theorem refMay8 (b : Bool) (n : Int) (t x : ByteArray) (p : Option Addr) (len cap d : Nat) (r0 : Bool) (w : World) (hd : (d : Int) ≤ 60) (ht : t.size ≤ 2097152) (hx : x.size ≤ 2097152) :
    Calls Tryz.prog 39 #[.agg #[.int .i64 8, .bool b, .int .i64 n, .string t, .string x, .slice p len cap], .int .i64 d] w fun e w' => e = .returned (.bool (fitsP 8 b n t x len r0)) ∧ Below w.heap.size w w' := by
  have S := six_new (k := 8) (b := b) (n := n) (t := t) (x := x) (p := p) (len := len) (cap := cap) w rfl
  have b0 := below1 w (.cells #[.int .i64 8, .bool b, .int .i64 n, .string t, .string x, .slice p len cap] 28)
  have f0 := S.c0
  have f1 := S.c1
  have f2 := S.c2
  have f3 := S.c3
  have f4 := S.c4
  have f5 := S.c5
  rw [fitsK8]
  obtain ⟨r, hr⟩ : ∃ r, r = (addrP t && (!b && !(n != 0) && !(!x.toList.isEmpty) && !(decide (0 < len)))) := ⟨_, rfl⟩
  rw [← hr]
  have hC := fun W => refIri t W (by unfold maxLen; omega)
  obtain ⟨w1, hw1⟩ : ∃ w1, w1 = w.alloc (.cells #[.int .i64 8, .bool b, .int .i64 n, .string t, .string x, .slice p len cap] 28) := ⟨_, rfl⟩
  rw [← hw1] at S b0
  have HW := Lib.hid hw1
  have HR := Lib.hid hr
  clear hw1 hr
  go_enter Tryz.func39, Tryz.ntmps39
  go_upto_region 9 with fail
  rw [← HW.out]
  clear f0 f1 f2 f3 f4 f5
  have f0 := S.c0
  have f2 := S.c2
  have f3 := S.c3
  have f4 := S.c4
  have HR2 := HR.out
  clear HR
  generalize (n != 0) = nb at HR2 ⊢
  generalize (!t.toList.isEmpty) = tb at HR2 ⊢
  generalize (!x.toList.isEmpty) = xb at HR2 ⊢
  generalize decide (0 < len) = lb at HR2 ⊢
  generalize addrP t = C at HR2 hC ⊢
  have HR3 := Lib.hid HR2
  clear HR2 ht hx
  go_wp2_with (go_at_call 79; (with_reducible refine (hC _).mono ?_); rintro e w' ⟨rfl, rfl⟩)
  all_goals
    go_ret
    exact ⟨by rw [HR3.out]; simp_all <;> (intros; omega), b0⟩

theorem fitsK9 (b : Bool) (n : Int) (t x : ByteArray) (len : Nat) (r : Bool) : fitsP 9 b n t x len r = (nameP t && (!b && !(n != 0) && !(!x.toList.isEmpty) && !(decide (0 < len)))) := by
  rw [show fitsP 9 b n t x len r = (nameP t && bareP b n ⟨#[]⟩ x len) from rfl]
  rw [bareP_as]
  rw [emptyB]
  simp
set_option maxRecDepth 20000 in
set_option maxHeartbeats 6400000 in
theorem refMay9 (b : Bool) (n : Int) (t x : ByteArray) (p : Option Addr) (len cap d : Nat) (r0 : Bool) (w : World) (hd : (d : Int) ≤ 60) (ht : t.size ≤ 2097152) (hx : x.size ≤ 2097152) :
    Calls Tryz.prog 39 #[.agg #[.int .i64 9, .bool b, .int .i64 n, .string t, .string x, .slice p len cap], .int .i64 d] w fun e w' => e = .returned (.bool (fitsP 9 b n t x len r0)) ∧ Below w.heap.size w w' := by
  have S := six_new (k := 9) (b := b) (n := n) (t := t) (x := x) (p := p) (len := len) (cap := cap) w rfl
  have b0 := below1 w (.cells #[.int .i64 9, .bool b, .int .i64 n, .string t, .string x, .slice p len cap] 28)
  have f0 := S.c0
  have f1 := S.c1
  have f2 := S.c2
  have f3 := S.c3
  have f4 := S.c4
  have f5 := S.c5
  rw [fitsK9]
  obtain ⟨r, hr⟩ : ∃ r, r = (nameP t && (!b && !(n != 0) && !(!x.toList.isEmpty) && !(decide (0 < len)))) := ⟨_, rfl⟩
  rw [← hr]
  have hC := fun W => refName t W (by unfold maxLen; omega)
  obtain ⟨w1, hw1⟩ : ∃ w1, w1 = w.alloc (.cells #[.int .i64 9, .bool b, .int .i64 n, .string t, .string x, .slice p len cap] 28) := ⟨_, rfl⟩
  rw [← hw1] at S b0
  have HW := Lib.hid hw1
  have HR := Lib.hid hr
  clear hw1 hr
  go_enter Tryz.func39, Tryz.ntmps39
  go_upto_region 9 with fail
  rw [← HW.out]
  clear f0 f1 f2 f3 f4 f5
  have f0 := S.c0
  have f2 := S.c2
  have f3 := S.c3
  have f4 := S.c4
  have HR2 := HR.out
  clear HR
  generalize (n != 0) = nb at HR2 ⊢
  generalize (!t.toList.isEmpty) = tb at HR2 ⊢
  generalize (!x.toList.isEmpty) = xb at HR2 ⊢
  generalize decide (0 < len) = lb at HR2 ⊢
  generalize nameP t = C at HR2 hC ⊢
  have HR3 := Lib.hid HR2
  clear HR2 ht hx
  go_wp2_with (go_at_call 80; (with_reducible refine (hC _).mono ?_); rintro e w' ⟨rfl, rfl⟩)
  all_goals
    go_ret
    exact ⟨by rw [HR3.out]; simp_all <;> (intros; omega), b0⟩

theorem fitsK10 (b : Bool) (n : Int) (t x : ByteArray) (len : Nat) (r : Bool) : fitsP 10 b n t x len r = (decide ((t.size : Int) ≤ 1048576) && (addrP x && (!b && !(n != 0) && !(decide (0 < len))))) := by
  rw [show fitsP 10 b n t x len r = (decide (t.size ≤ 1048576) && (addrP x && bareP b n ⟨#[]⟩ ⟨#[]⟩ len)) from rfl]
  rw [bareP_as]
  rw [emptyB, show decide (t.size ≤ 1048576) = decide ((t.size : Int) ≤ 1048576) from decide_eq_decide.2 (by omega)]
  simp
set_option maxRecDepth 20000 in
set_option maxHeartbeats 6400000 in
theorem refMay10 (b : Bool) (n : Int) (t x : ByteArray) (p : Option Addr) (len cap d : Nat) (r0 : Bool) (w : World) (hd : (d : Int) ≤ 60) (ht : t.size ≤ 2097152) (hx : x.size ≤ 2097152) :
    Calls Tryz.prog 39 #[.agg #[.int .i64 10, .bool b, .int .i64 n, .string t, .string x, .slice p len cap], .int .i64 d] w fun e w' => e = .returned (.bool (fitsP 10 b n t x len r0)) ∧ Below w.heap.size w w' := by
  have S := six_new (k := 10) (b := b) (n := n) (t := t) (x := x) (p := p) (len := len) (cap := cap) w rfl
  have b0 := below1 w (.cells #[.int .i64 10, .bool b, .int .i64 n, .string t, .string x, .slice p len cap] 28)
  have f0 := S.c0
  have f1 := S.c1
  have f2 := S.c2
  have f3 := S.c3
  have f4 := S.c4
  have f5 := S.c5
  rw [fitsK10]
  obtain ⟨r, hr⟩ : ∃ r, r = (decide ((t.size : Int) ≤ 1048576) && (addrP x && (!b && !(n != 0) && !(decide (0 < len))))) := ⟨_, rfl⟩
  rw [← hr]
  have hC := fun W => refIri x W (by unfold maxLen; omega)
  obtain ⟨w1, hw1⟩ : ∃ w1, w1 = w.alloc (.cells #[.int .i64 10, .bool b, .int .i64 n, .string t, .string x, .slice p len cap] 28) := ⟨_, rfl⟩
  rw [← hw1] at S b0
  have HW := Lib.hid hw1
  have HR := Lib.hid hr
  clear hw1 hr
  go_enter Tryz.func39, Tryz.ntmps39
  go_upto_region 9 with fail
  rw [← HW.out]
  clear f0 f1 f2 f3 f4 f5
  have f0 := S.c0
  have f2 := S.c2
  have f3 := S.c3
  have f4 := S.c4
  have HR2 := HR.out
  clear HR
  generalize (n != 0) = nb at HR2 ⊢
  generalize (!t.toList.isEmpty) = tb at HR2 ⊢
  generalize (!x.toList.isEmpty) = xb at HR2 ⊢
  generalize decide (0 < len) = lb at HR2 ⊢
  generalize addrP x = C at HR2 hC ⊢
  have HR3 := Lib.hid HR2
  clear HR2 ht hx
  go_wp2_with (go_at_call 79; (with_reducible refine (hC _).mono ?_); rintro e w' ⟨rfl, rfl⟩)
  all_goals
    go_ret
    exact ⟨by rw [HR3.out]; simp_all <;> (intros; omega), b0⟩
end Go.Proofs.YtoifjjgakblhhaaGreatDoor
