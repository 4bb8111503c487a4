/- Texts of one kind, one behind the other: each says ahead of itself what it shows. -/
import Derived.Test.YtoifjjgakblhhaaGreatDoorHbb
import Derived.Test.YtoifjjgakblhhaaGreatDoorHan
import Derived.Deep.LoopGhost
import Derived.Deep.Cut
import Derived.Deep.CutRange
import Derived.Deep.CutBlock
import Derived.Deep.DeepCutAuto
/- Whether lists are not too deep in one another: it answers; so does light. -/
namespace Go.Proofs.YtoifjjgakblhhaaGreatDoor
open Go.RowKit

/-- What deep answers of the list of a value that lies somewhere: one of the two. -/
def DeepAt (v : Val) : Prop := ∀ (W : World) (d : Int) (k : Int) (b : Bool) (n : Int) (t x : ByteArray) (q : List Val) (p : Option Addr) (cap : Nat), v = .mk k b n t x q → q.length ≤ 2097152 → Held W (.slice p q.length cap) q →
  Calls Tryz.prog 36 #[.slice p q.length cap, .int .i64 d] W fun e w' => ∃ r, e = .returned (.bool r) ∧ Below W.heap.size W w'

set_option maxRecDepth 20000 in
set_option maxHeartbeats 1600000 in
theorem deepSome (l : List Val) (g off cap : Nat) (d : Int) (w : World) (hl : Holds w g off l) (hn : l.length ≤ 2097152) (each : ∀ u ∈ l, DeepAt u) :
    Calls Tryz.prog 36 #[.slice (some ⟨g, off, none⟩) l.length cap, .int .i64 d] w fun e w' => ∃ r, e = .returned (.bool r) ∧ Below w.heap.size w w' := by
  obtain ⟨n, hln⟩ : ∃ n, n = l.length := ⟨_, rfl⟩
  rw [← hln] at hn ⊢
  have HL := Lib.hid hln
  have HH := Lib.hid hl
  have HE := Lib.hid each
  clear hl hln each
  go_enter Tryz.func36, Tryz.ntmps36
  go_wp2_with fail
  go_loopg [5] n (fun gg s5 wr => ∃ j : Nat, j + gg = n ∧ s5 = .int .i64 j ∧ Below w.heap.size w wr)
  case atStart => exact ⟨0, by omega, rfl, Below.refl _ _⟩
  case round =>
    obtain ⟨j, hjg, rfl, hb⟩ := hrel
    by_cases hlt : (j : Int) < n
    · have hj1 : j < l.length := by have := HL.out; omega
      obtain ⟨k, b, i, t, x, q, p, cp, o⟩ := (Holds.at_ l off HH.out j hj1).opens
      have o1 := o.below hb
      have c5 := o1.c5
      have hc := fun D => HE.out l[j] (List.getElem_mem hj1) wr D k b i t x q p cp o.e o.hf.hn o1.hl
      have z := hb.size
      clear o o1
      by_cases hd : 100 < d
      · go_wp2_with fail
        go_ret
        first | exact hb | exact ⟨_, rfl, hb⟩ | exact ⟨rfl, hb⟩ | exact ⟨.inl rfl, hb⟩ | exact ⟨.inr rfl, hb⟩
      · go_wp2_with (go_at_call 36; (with_reducible refine (hc _).mono ?_); rintro e w1 ⟨r, rfl, hb1⟩; replace hb := below_any hb hb1 z; clear hb1)
        · go_ret
          first | exact hb | exact ⟨_, rfl, hb⟩ | exact ⟨rfl, hb⟩ | exact ⟨.inl rfl, hb⟩ | exact ⟨.inr rfl, hb⟩
        · go_roundg (gk - 1)
          case measure => omega
          case rel => exact ⟨j + 1, by omega, by go_num, hb⟩
    · go_wp2_with fail
      go_ret
      first | exact hb | exact ⟨_, rfl, hb⟩ | exact ⟨rfl, hb⟩ | exact ⟨.inl rfl, hb⟩ | exact ⟨.inr rfl, hb⟩
theorem deep_list (q : List Val) (p : Option Addr) (cap : Nat) (d : Int) (w : World) (hl : Held w (.slice p q.length cap) q) (hn : q.length ≤ 2097152) (each : ∀ u ∈ q, DeepAt u) :
    Calls Tryz.prog 36 #[.slice p q.length cap, .int .i64 d] w fun e w' => ∃ r, e = .returned (.bool r) ∧ Below w.heap.size w w' := by
  cases q with
  | nil =>
    go_enter Tryz.func36, Tryz.ntmps36
    go_wp2_with fail
    go_loopg [5] 0 (fun gg s5 wr => gg = 0 ∧ s5 = .int .i64 0 ∧ wr = w)
    case atStart => exact ⟨rfl, rfl, rfl⟩
    case round =>
      obtain ⟨_, rfl, rfl⟩ := hrel
      go_wp2_with fail
      go_ret
      first | exact Below.refl _ _ | exact ⟨_, rfl, Below.refl _ _⟩ | exact ⟨.inr rfl, Below.refl _ _⟩
  | cons v r =>
    obtain ⟨g, off, rfl, hh⟩ := hl.form
    exact deepSome (v :: r) g off cap d w hh hn each
mutual
theorem deepVal : (v : Val) → DeepAt v
  | .mk k b n t x q => fun W d k1 b1 n1 t1 x1 q1 p cap e hn hl => by
    cases e
    exact deep_list q p cap d W hl hn (deepEach q)
theorem deepEach : (q : List Val) → ∀ u ∈ q, DeepAt u
  | [], _, h => absurd h (by simp)
  | v :: r, u, h => by
    rcases List.mem_cons.1 h with h | h
    · rw [h]; exact deepVal v
    · exact deepEach r u h
end
set_option maxHeartbeats 1600000 in
theorem lightC (q : List Val) (p : Option Addr) (cap : Nat) (w : World) (hl : Held w (.slice p q.length cap) q) (hn : q.length ≤ 2097152) :
    Calls Tryz.prog 10 #[.slice p q.length cap] w fun e w' => ∃ r, e = .returned (.bool r) ∧ Below w.heap.size w w' := by
  have h1 := (size_list q p cap w hl hn (sizeEach q))
  have h2 := fun W (h : Below w.heap.size w W) => deep_list q p cap 0 W (Held.below q hl h) hn (deepEach q)
  generalize sizeAll q 0 = z at h1
  clear hl hn
  by_cases hz : z ≤ 9000
  · go_enter Tryz.func10, Tryz.ntmps10
    go_wp2_with (first
      | (go_at_call 35; (with_reducible refine h1.mono ?_); rintro e w1 ⟨rfl, m, rfl⟩; have b0 : Below w.heap.size w (w.drewN m) := below_drewN (Below.refl _ _) m)
      | (go_at_call 36; (with_reducible refine (h2 _ b0).mono ?_); rintro e w2 ⟨r, rfl, hb2⟩; replace b0 := below_any b0 hb2 b0.size))
    go_ret
    first | exact b0 | exact ⟨_, rfl, b0⟩ | exact ⟨rfl, b0⟩ | exact ⟨.inl rfl, b0⟩ | exact ⟨.inr rfl, b0⟩
  · go_enter Tryz.func10, Tryz.ntmps10
    go_wp2_with (go_at_call 35; (with_reducible refine h1.mono ?_); rintro e w1 ⟨rfl, m, rfl⟩; have b0 : Below w.heap.size w (w.drewN m) := below_drewN (Below.refl _ _) m)
    go_ret
    first | exact b0 | exact ⟨_, rfl, b0⟩ | exact ⟨rfl, b0⟩ | exact ⟨.inl rfl, b0⟩ | exact ⟨.inr rfl, b0⟩
end Go.Proofs.YtoifjjgakblhhaaGreatDoor

/- What a law's round keeps: its argument's box; the value that has nothing in it. -/
namespace Go.Proofs.YtoifjjgakblhhaaGreatDoor
open Go.RowKit

/-- What the law's round keeps: its argument's box; what lay below. -/
structure LInv (w : World) (L ln : Value) (W : World) : Prop where
  cell : W.cell? ⟨w.heap.size, 0, none⟩ = some L
  cell1 : W.cell? ⟨w.heap.size, 1, none⟩ = some ln
  lt : w.heap.size < W.heap.size
  bel : Below w.heap.size w W
theorem LInv.step {w W W2 : World} {L ln : Value} (h : LInv w L ln W) (k : Below W.heap.size W W2) : LInv w L ln W2 :=
  ⟨(k.cell (p := ⟨w.heap.size, 0, none⟩) h.lt).trans h.cell, (k.cell (p := ⟨w.heap.size, 1, none⟩) h.lt).trans h.cell1, Nat.lt_of_lt_of_le h.lt k.size, below_any h.bel k (Nat.le_of_lt h.lt)⟩
theorem LInv.start (w : World) (L ln : Value) : LInv w L ln (w.alloc (.cells #[L, ln] 24)) :=
  ⟨cell_of (heap_new _ _ rfl) _ rfl, cell_of (heap_new _ _ rfl) _ rfl, by simp, below1 _ _⟩
theorem lFineNull : Fine 0 ⟨#[]⟩ ⟨#[]⟩ ([] : List Val).length := ⟨by decide, by decide, by decide, by decide, by decide⟩
theorem lHeldNull (W : World) : Held W (.slice none ([] : List Val).length 0) [] := by unfold Held; exact ⟨none, 0, rfl⟩

end Go.Proofs.YtoifjjgakblhhaaGreatDoor

/- The law ValueBack, walked. -/
namespace Go.Proofs.YtoifjjgakblhhaaGreatDoor
open Go.RowKit

/-- What the inner loop keeps: the argument's box, the bytes. -/
structure BInv (w : World) (L ln B : Value) (X : List UInt8) (W : World) : Prop where
  inv : LInv w L ln W
  src : Src W B X
theorem BInv.step {w W W2 : World} {L ln B : Value} {X : List UInt8} (h : BInv w L ln B X W) (k : Below W.heap.size W W2) : BInv w L ln B X W2 := ⟨h.inv.step k, h.src.below k⟩
theorem Src.form {w : World} {A : Value} {l : List UInt8} (h : Src w A l) (hn : l ≠ []) : ∃ g off cap, A = .slice (some ⟨g, off, none⟩) l.length cap ∧ l.length ≤ cap ∧ cap ≤ maxLen := by
  obtain ⟨p, cap, e, h1, h2, h3⟩ := h
  rcases h3 with ⟨_, h3⟩ | ⟨g, off, e2, _⟩
  · exact absurd h3 hn
  · exact ⟨g, off, cap, by rw [e, e2], h1, h2⟩
theorem Src.cells {w : World} {g off len cap : Nat} {l : List UInt8} (h : Src w (.slice (some ⟨g, off, none⟩) len cap) l) : ∀ j c, l[j]? = some c → w.cell? ⟨g, off + j, none⟩ = some (.int .u8 c.toNat) := by
  obtain ⟨p, cap2, e, h1, h2, h3⟩ := h
  rcases h3 with ⟨e2, _⟩ | ⟨g2, off2, e2, _, hc⟩
  · rw [e2] at e; cases e
  · rw [e2] at e
    cases e
    exact hc
theorem Src.bts {w : World} {A : Value} {l : List UInt8} (h : Src w A l) : Bts w A l := by
  obtain ⟨p, cap, e, _, _, h3⟩ := h
  refine ⟨p, cap, e, ?_⟩
  rcases h3 with ⟨_, h3⟩ | ⟨g, off, e2, _, hc⟩
  · exact .inl h3
  · exact .inr ⟨g, off, e2, hc⟩

set_option maxRecDepth 200000 in
set_option maxHeartbeats 40000000 in
theorem backSome (l : List Val) (g off cap : Nat) (lang : Int) (w : World) (hG : Gd w) (hT : Tab w) (hl : Holds w g off l) (hl2 : Held w (.slice (some ⟨g, off, none⟩) l.length cap) l) (hn : l.length ≤ 2097152) (hw : wAll l ≤ 1048576) :
    Calls Tryz.prog 7 #[.agg #[.slice (some ⟨g, off, none⟩) l.length cap, .int .i64 lang]] w fun e w' => e = .returned (.bool true) ∧ Below w.heap.size w w' := by
  obtain ⟨i0, hi, hz0, hz1, hz2⟩ := info_parts info5
  have I0 := LInv.start w (.slice (some ⟨g, off, none⟩) l.length cap) (.int .i64 lang)
  obtain ⟨W1, hW1⟩ : ∃ W1, W1 = w.alloc (.cells #[.slice (some ⟨g, off, none⟩) l.length cap, .int .i64 lang] 24) := ⟨_, rfl⟩
  rw [← hW1] at I0
  have hli := lightC l (some ⟨g, off, none⟩) cap W1 (Held.below l hl2 I0.bel) hn
  have hwk := fun W (h : Below w.heap.size w W) => wakesAt W (hG.below h) (hT.below h)
  have hfa := Holds.fine l hl
  obtain ⟨n, hln⟩ : ∃ n, n = l.length := ⟨_, rfl⟩
  rw [← hln] at hn I0 hli hW1 ⊢
  have i0c := I0.cell
  have HW1 := Lib.hid hW1
  have HL := Lib.hid hln
  have HH := Lib.hid hl
  have HWT := Lib.hid hw
  have HFA := Lib.hid hfa
  have HGG := Lib.hid hG
  clear hl hln hW1 hl2 hG hT hw hfa
  go_enter Tryz.func7, Tryz.ntmps7
  go_wp2_with (first
    | (go_at_call 10; rw [← HW1.out]; (with_reducible refine hli.mono ?_); rintro e w' ⟨r, rfl, hb⟩; replace I0 := I0.step hb; have i0c := I0.cell; clear hb; cases r)
    | (go_at_call 11; (with_reducible refine (hwk _ I0.bel).mono ?_); rintro e w' ⟨rfl, hb⟩; replace I0 := I0.step hb; clear hb))
  · go_ret
    exact ⟨rfl, I0.bel⟩
  go_loopg [3] n (fun gg s3 wr => ∃ j : Nat, j + gg = n ∧ s3 = .int .i64 j ∧ LInv w (.slice (some ⟨g, off, none⟩) n cap) (.int .i64 lang) wr)
  case atStart => exact ⟨0, by omega, rfl, I0⟩
  case round =>
    clear I0 i0c hli
    obtain ⟨j, hjg, rfl, I⟩ := hrel
    have hp := I.cell
    have hpp := I.lt
    by_cases hlt : (j : Int) < n
    · by_cases h20 : (j : Int) < 10
      · have hj1 : j < l.length := by have := HL.out; omega
        obtain ⟨k, b, m, t, x, q, p, cp, o⟩ := (Holds.at_ l off HH.out j hj1).opens
        have hwt : 13 * wOne l[j] ≤ 800000000 := by
          have h1 := wAll_mem (List.getElem_mem hj1)
          have h2 := HWT.out
          omega
        have hO : ∀ W, LInv w (.slice (some ⟨g, off, none⟩) n cap) (.int .i64 lang) W → Opens W g (off + j * 6) l[j] k b m t x q p cp := fun W h => o.below h.bel
        have HO := Lib.hid hO
        have o1 := hO _ I
        cases hm : mayP l[j] 0 with
        | false =>
          have he := fun W (h : LInv w (.slice (some ⟨g, off, none⟩) n cap) (.int .i64 lang) W) => encodeNo l[j] k b m t x q p cp W (HGG.out.below h.bel) o.e o.hf (Held.below q o.hl h.bel) hm
          have hck := fun W (h : LInv w (.slice (some ⟨g, off, none⟩) n cap) (.int .i64 lang) W) => checkAtV l[j] k b m t x q (.slice p q.length cp) W o.e (HGG.out.below h.bel) o.hf.ht o.hf.hx (Held.below q o.hl h.bel)
          rw [hm] at hck
          have HE := Lib.hid he
          have HC := Lib.hid hck
          clear he hck o hO hwt hm
          go_wp2_with (first
            | ((with_reducible refine wpList_loadMid6 (.tmp 35) g (off + j * 6) k b m t x (.slice p q.length cp) o1.c0 o1.c1 o1.c2 o1.c3 o1.c4 o1.c5 ?_ ?_ ?_ ?_); rfl; rfl; rfl)
            | ((with_reducible refine wpList_loadMid6 (.tmp 45) g (off + j * 6) k b m t x (.slice p q.length cp) o1.c0 o1.c1 o1.c2 o1.c3 o1.c4 o1.c5 ?_ ?_ ?_ ?_); rfl; rfl; rfl)
            | (go_at_call 28; (with_reducible refine (HE.out _ I).mono ?_); rintro e w2 ⟨rfl, hb⟩; replace I := I.step hb; have hp := I.cell; replace o1 := HO.out _ I; clear hb)
            | (go_at_call 13; (with_reducible refine (HC.out _ I).mono ?_); rintro e w3 ⟨rfl, hb⟩; replace I := I.step hb; have hp := I.cell; clear hb))
          go_roundg (gk - 1)
          case measure => omega
          case rel => exact ⟨j + 1, by omega, by go_num, I⟩
        | true =>
          have hfv : fineV l[j] := fine_mem HFA.out (List.getElem_mem hj1)
          have he := fun W (h : LInv w (.slice (some ⟨g, off, none⟩) n cap) (.int .i64 lang) W) => encodeYes l[j] k b m t x q p cp W (HGG.out.below h.bel) o.e o.hf (Held.below q o.hl h.bel) hwt hm
          have hd1 := dec_enc l[j] hfv hm
          have hd2 := dec_more l[j] hfv hm 0
          obtain ⟨Y, c, hy1, hy2⟩ := encP_last l[j]
          have hd3 := dec_less l[j] hfv hm Y c hy1
          have hXl := encP_len l[j]
          have hXn := encP_ne l[j]
          have hsame := fun (u : Val) (hf2 : fineV u) (hm2 : mayP u 0 = true) => enc_same l[j] u hfv hm hf2 hm2
          obtain ⟨X, hX⟩ : ∃ X, X = encP l[j] := ⟨_, rfl⟩
          rw [← hX] at he hd1 hd2 hy1 hy2 hXl hXn hsame
          obtain ⟨N1, hN1⟩ : ∃ N1, X.length = N1 + 1 := ⟨X.length - 1, by have := List.length_pos_iff.2 hXn; omega⟩
          have hYl : Y.length = N1 := by rw [hy1, List.length_append, List.length_singleton] at hN1; omega
          have hXb : X.length ≤ 900000000 := by omega
          have hNb : N1 + 1 ≤ 900000000 := by omega
          have hXc : ∀ W B, Src W B X → ∃ g4 off4 cap4, B = (.slice (some ⟨g4, off4, none⟩) (N1 + 1) cap4) ∧ N1 + 1 ≤ cap4 ∧ cap4 ≤ maxLen := fun W B h => by
            obtain ⟨g4, off4, cap4, e, h1, h2⟩ := h.form hXn
            rw [hN1] at e h1
            exact ⟨g4, off4, cap4, e, h1, h2⟩
          have hde : ∀ W A w0, LInv w (.slice (some ⟨g, off, none⟩) n cap) (.int .i64 lang) W → OwnB w0 A X W → Calls Tryz.prog 31 #[A] W fun e w' => ∃ (p' : Option Addr) (cap' : Nat), e = .returned (.tuple #[.agg #[.int .i64 k, .bool b, .int .i64 m, .string t, .string x, .slice p' q.length cap'], .int .i64 0]) ∧ Held w' (.slice p' q.length cap') q ∧ Below W.heap.size W w' := fun W A w0 h hA => (decodeAt X A W (HGG.out.below h.bel) hA.src (by omega)).mono (by
            rintro e w' (⟨h, _⟩ | ⟨k1, b1, n1, t1, x1, q1, p1, cap1, h, _, he, hh, hb⟩)
            · rw [hd1] at h; cases h
            · rw [hd1, o.e] at h
              simp only [Option.some.injEq, Val.mk.injEq] at h
              obtain ⟨rfl, rfl, rfl, rfl, rfl, rfl⟩ := h
              exact ⟨p1, cap1, he, hh.held, hb⟩)
          have hdn : ∀ (L : List UInt8), decP L = none → L.length ≤ 1000000000 → ∀ W A w0, LInv w (.slice (some ⟨g, off, none⟩) n cap) (.int .i64 lang) W → OwnB w0 A L W → Calls Tryz.prog 31 #[A] W fun e w' => e = .returned (.tuple #[.agg #[.int .i64 0, .bool false, .int .i64 0, .string ⟨#[]⟩, .string ⟨#[]⟩, .slice none 0 0], .int .i64 6]) ∧ Below W.heap.size W w' := fun L hL hLl W A w0 h hA => (decodeAt L A W (HGG.out.below h.bel) hA.src hLl).mono (by
            rintro e w' (⟨_, h⟩ | ⟨k1, b1, n1, t1, x1, q1, p1, cap1, h, _⟩)
            · exact h
            · rw [hL] at h; cases h)
          have hdm := hdn (X ++ [0]) hd2 (by simp; omega)
          have hdl := hdn Y hd3 (by omega)
          have hsm : ∀ W (p' : Option Addr) (cap' : Nat), LInv w (.slice (some ⟨g, off, none⟩) n cap) (.int .i64 lang) W → Held W (.slice p' q.length cap') q → Calls Tryz.prog 18 #[.agg #[.int .i64 k, .bool b, .int .i64 m, .string t, .string x, .slice p' q.length cap'], .agg #[.int .i64 k, .bool b, .int .i64 m, .string t, .string x, .slice p q.length cp]] W fun e w' => e = .returned (.bool true) ∧ Below W.heap.size W w' := fun W p' cap' h hh => by
            have := sameZAll (.mk k b m t x q) W k b m t x q p' cap' (.mk k b m t x q) k b m t x q p cp rfl rfl o.hf.hn hh (Held.below q o.hl h.bel)
            rwa [sameP_self] at this
          have HE := Lib.hid he
          have HD := Lib.hid hde
          have HDM := Lib.hid hdm
          have HDL := Lib.hid hdl
          have HSM := Lib.hid hsm
          have HSA := Lib.hid hsame
          have HXC := Lib.hid hXc
          have HY := Lib.hid (And.intro hy1 (And.intro hy2 hYl))
          have HNX := Lib.hid hN1
          clear he hde hdn hdm hdl hsm hsame hXc hd1 hd2 hd3 hy1 hy2 hYl hX hXl hXn hN1 o hO hwt hm hfv
          go_upto_region 10 with (first
            | ((with_reducible refine wpList_loadMid6 (.tmp 35) g (off + j * 6) k b m t x (.slice p q.length cp) o1.c0 o1.c1 o1.c2 o1.c3 o1.c4 o1.c5 ?_ ?_ ?_ ?_); rfl; rfl; rfl)
            | (go_at_call 28; (with_reducible refine (HE.out _ I).mono ?_); rintro e w2 ⟨B4, rfl, hsrc, hb⟩; replace I := I.step hb; have hp := I.cell; clear hb))
          obtain ⟨g4, off4, cap4, rfl, hc1, hc2⟩ := HXC.out _ _ hsrc
          have J : BInv w (.slice (some ⟨g, off, none⟩) n cap) (.int .i64 lang) (.slice (some ⟨g4, off4, none⟩) (N1 + 1) cap4) X w2 := ⟨I, hsrc⟩
          have hcp : ∀ W, BInv w (.slice (some ⟨g, off, none⟩) n cap) (.int .i64 lang) (.slice (some ⟨g4, off4, none⟩) (N1 + 1) cap4) X W → Calls Tryz.prog 32 #[(.slice (some ⟨g4, off4, none⟩) (N1 + 1) cap4)] W fun e w' => ∃ A, e = .returned A ∧ OwnB W A X w' := fun W h => by
            have := copyB X g4 off4 cap4 W h.src.cells (by omega)
            rwa [HNX.out] at this
          have hcy : ∀ W, BInv w (.slice (some ⟨g, off, none⟩) n cap) (.int .i64 lang) (.slice (some ⟨g4, off4, none⟩) (N1 + 1) cap4) X W → Calls Tryz.prog 32 #[.slice (some ⟨g4, off4, none⟩) N1 cap4] W fun e w' => ∃ A, e = .returned A ∧ OwnB W A Y w' := fun W h => by
            have := copyB Y g4 off4 cap4 W (fun i c hi => h.src.cells i c (by
              rw [HY.out.1]
              rw [List.getElem?_append_left (List.getElem?_eq_some_iff.1 hi).1]
              exact hi)) (by have := HY.out.2.2; omega)
            rwa [HY.out.2.2] at this
          have HCP := Lib.hid hcp
          have HCY := Lib.hid hcy
          have hx1 : ¬((N1 : Int) + 1 = 0) := by omega
          have hcm : cap4 ≤ 9223372036854775807 := by unfold maxLen at hc2; omega
          clear hcp hcy hsrc I hp hc2
          go_upto_region 13 with (first
            | (go_at_call 32; (with_reducible refine (HCP.out _ J).mono ?_); rintro e w3 ⟨A3, rfl, O3⟩; replace J := J.step O3.bel)
            | (go_at_call 31; (with_reducible refine (HD.out _ _ _ J.inv O3).mono ?_); rintro e w4 ⟨p', cap', rfl, hh, hb⟩; replace J := J.step hb; clear hb))
          have S6 : Six (w4.alloc (.cells #[.int .i64 k, .bool b, .int .i64 m, .string t, .string x, .slice p' q.length cap'] 28)) w4.heap.size k b m t x p' q.length cap' := six_new _ rfl
          replace J := J.step (below1 w4 (.cells #[.int .i64 k, .bool b, .int .i64 m, .string t, .string x, .slice p' q.length cap'] 28))
          replace hh := Held.below q hh (below1 w4 (.cells #[.int .i64 k, .bool b, .int .i64 m, .string t, .string x, .slice p' q.length cap'] 28))
          generalize w4.alloc (.cells #[.int .i64 k, .bool b, .int .i64 m, .string t, .string x, .slice p' q.length cap'] 28) = W4 at S6 J hh ⊢
          clear O3
          have HH4 := Lib.hid hh
          clear hh
          go_wp2_with (first
            | (go_at_call 32; (with_reducible refine (HCP.out _ J).mono ?_); rintro e w5 ⟨A5, rfl, O5⟩; have hown5 := O5.own; have hlo5 := O5.lo)
            | (at_builtin; refine wpList_append_own _ rfl _ _ 40 rfl W4.heap.size 5 i0 (.int .u8 0) 1 1 Tryz.underlying40 hi hz0 hz1 hz2 rfl (by decide) _ _ _ rfl (hown5.alloc _) ⟨w5.heap.size, 0, none⟩ 1 1 [_] rfl rfl (cell_one_new _ (.int .u8 0) _) ?_ ?_ ?_ ?_ ?_))
          all_goals (try (first | rfl | (unfold maxLen; omega) | omega | (simp; omega) | (intro u hu; simp at hu; subst hu; rfl)))
          intro v6 w6 hown6 hgrow6 _
          have O6 := (O5.alloc (.cells #[.int .u8 0] 5)).say (l' := X ++ [0]) hown6 hgrow6 (by simp) (by rw [vals_append]; rfl)
          replace J := J.step O6.bel
          replace S6 := S6.below O6.bel
          have hh := Held.below q HH4.out O6.bel
          clear hown6 hgrow6 hown5 hlo5 O5 HH4
          have HH4 := Lib.hid hh
          clear hh
          go_upto_region 14 with (go_at_call 31; (with_reducible refine (HDM.out _ _ _ J.inv O6).mono ?_); rintro e w7 ⟨rfl, hb⟩; replace J := J.step hb; replace S6 := S6.below hb; replace HH4 := Lib.hid (Held.below q HH4.out hb); clear hb)
          replace J := J.step (below1 w7 (.cells #[.int .i64 0, .bool false, .int .i64 0, .string ⟨#[]⟩, .string ⟨#[]⟩, .slice none 0 0] 28))
          replace S6 := S6.below (below1 w7 (.cells #[.int .i64 0, .bool false, .int .i64 0, .string ⟨#[]⟩, .string ⟨#[]⟩, .slice none 0 0] 28))
          have hh := Held.below q HH4.out (below1 w7 (.cells #[.int .i64 0, .bool false, .int .i64 0, .string ⟨#[]⟩, .string ⟨#[]⟩, .slice none 0 0] 28))
          generalize w7.alloc (.cells #[.int .i64 0, .bool false, .int .i64 0, .string ⟨#[]⟩, .string ⟨#[]⟩, .slice none 0 0] 28) = W7 at S6 J hh ⊢
          clear O6 HH4
          have HH4 := Lib.hid hh
          clear hh
          go_upto_region 15 with (first
            | (go_at_call 32; (with_reducible refine (HCY.out _ J).mono ?_); rintro e w8 ⟨A8, rfl, O8⟩; replace J := J.step O8.bel; replace S6 := S6.below O8.bel; replace HH4 := Lib.hid (Held.below q HH4.out O8.bel))
            | (go_at_call 31; (with_reducible refine (HDL.out _ _ _ J.inv O8).mono ?_); rintro e w9 ⟨rfl, hb⟩; replace J := J.step hb; replace S6 := S6.below hb; replace HH4 := Lib.hid (Held.below q HH4.out hb); clear hb))
          replace J := J.step (below1 w9 (.cells #[.int .i64 0, .bool false, .int .i64 0, .string ⟨#[]⟩, .string ⟨#[]⟩, .slice none 0 0] 28))
          replace S6 := S6.below (below1 w9 (.cells #[.int .i64 0, .bool false, .int .i64 0, .string ⟨#[]⟩, .string ⟨#[]⟩, .slice none 0 0] 28))
          have hh := Held.below q HH4.out (below1 w9 (.cells #[.int .i64 0, .bool false, .int .i64 0, .string ⟨#[]⟩, .string ⟨#[]⟩, .slice none 0 0] 28))
          generalize w9.alloc (.cells #[.int .i64 0, .bool false, .int .i64 0, .string ⟨#[]⟩, .string ⟨#[]⟩, .slice none 0 0] 28) = W9 at S6 J hh ⊢
          clear O8 HH4
          have HJ := Lib.hid J
          have hr1 : ∀ W, Below W9.heap.size W9 W → W.rangeAt w4.heap.size 0 [.int .i64 k, .bool b, .int .i64 m, .string t, .string x, .slice p' q.length cap'] := fun W h => World.rangeAt_of_block (S6.below h) 0 6
          have hr2 : ∀ W, Below W9.heap.size W9 W → W.rangeAt g (off + j * 6) [.int .i64 k, .bool b, .int .i64 m, .string t, .string x, .slice p q.length cp] := fun W h => (HO.out _ (HJ.out.step h).inv).range
          have hs18 : ∀ W, Below W9.heap.size W9 W → Calls Tryz.prog 18 #[.agg #[.int .i64 k, .bool b, .int .i64 m, .string t, .string x, .slice p' q.length cap'], .agg #[.int .i64 k, .bool b, .int .i64 m, .string t, .string x, .slice p q.length cp]] W fun e w' => e = .returned (.bool true) ∧ Below W.heap.size W w' := fun W h => HSM.out W p' cap' (HJ.out.step h).inv (Held.below q hh h)
          have hcl : ∀ W, Below W9.heap.size W9 W → W.cell? ⟨w.heap.size, 0, none⟩ = some (.slice (some ⟨g, off, none⟩) n cap) := fun W h => (HJ.out.step h).inv.cell
          have HR1 := Lib.hid hr1
          have HR2 := Lib.hid hr2
          have HS18 := Lib.hid hs18
          have HCL := Lib.hid hcl
          clear hr1 hr2 hs18 hcl hh S6 J
          refine wp_region_held_drew (S := fun W => Below W9.heap.size W9 W) (by kernel_rfl) (Below.refl _ _).drew (fun hHeld => ?_)
          refine wpAnyH_take (i := 0) (v := (.int .i64 0)) rfl (by kernel_rfl) (by kernel_rfl) (by kernel_rfl) (fun _ _ _ h => h) (Or.inl ⟨by rfl, fun W _ => by go_simp⟩) hHeld ?_
          try simp only [Act.put, List.getElem_toArray, List.getElem_cons_succ, List.getElem_cons_zero, List.setIfInBounds_toArray, List.set_cons_zero, List.set_cons_succ]
          refine wpAnyH_take (i := 1) (v := (.bool false)) rfl (by kernel_rfl) (by kernel_rfl) (by kernel_rfl) (fun _ _ _ h => h) (Or.inl ⟨by rfl, fun W _ => by go_simp⟩) hHeld ?_
          try simp only [Act.put, List.getElem_toArray, List.getElem_cons_succ, List.getElem_cons_zero, List.setIfInBounds_toArray, List.set_cons_zero, List.set_cons_succ]
          refine wpAnyH_take (i := 2) (v := (.bool false)) rfl (by kernel_rfl) (by kernel_rfl) (by kernel_rfl) (fun _ _ _ h => h) (Or.inl ⟨by rfl, fun W _ => by go_simp⟩) hHeld ?_
          try simp only [Act.put, List.getElem_toArray, List.getElem_cons_succ, List.getElem_cons_zero, List.setIfInBounds_toArray, List.set_cons_zero, List.set_cons_succ]
          refine wpAnyH_take (i := 3) rfl (by kernel_rfl) (by kernel_rfl) (by kernel_rfl) (fun _ _ _ h => h) (yieldsIf_load_mid (by rfl) 28 (.tmp 6) rfl w4.heap.size 0 rfl _ _ (fun w h => HR1.out w h) Tryz.underlying28 rfl info28) hHeld ?_
          try simp only [Act.put, List.getElem_toArray, List.getElem_cons_succ, List.getElem_cons_zero, List.setIfInBounds_toArray, List.set_cons_zero, List.set_cons_succ]
          refine wpAnyH_take (i := 4) (v := (.pointer (some ⟨w.heap.size, 0, none⟩))) rfl (by kernel_rfl) (by kernel_rfl) (by kernel_rfl) (fun _ _ _ h => h) (Or.inl ⟨by rfl, fun W _ => by go_simp⟩) hHeld ?_
          try simp only [Act.put, List.getElem_toArray, List.getElem_cons_succ, List.getElem_cons_zero, List.setIfInBounds_toArray, List.set_cons_zero, List.set_cons_succ]
          refine wpAnyH_take (i := 5) (v := (.slice (some ⟨g, off, none⟩) n cap)) rfl (by kernel_rfl) (by kernel_rfl) (by kernel_rfl) (fun _ _ _ h => h) (Or.inl ⟨by rfl, fun W h => by have c0 := HCL.out W h; go_simp⟩) hHeld ?_
          try simp only [Act.put, List.getElem_toArray, List.getElem_cons_succ, List.getElem_cons_zero, List.setIfInBounds_toArray, List.set_cons_zero, List.set_cons_succ]
          refine wpAnyH_take (i := 6) (v := (.int .i64 j)) rfl (by kernel_rfl) (by kernel_rfl) (by kernel_rfl) (fun _ _ _ h => h) (Or.inl ⟨by rfl, fun W _ => by go_simp⟩) hHeld ?_
          try simp only [Act.put, List.getElem_toArray, List.getElem_cons_succ, List.getElem_cons_zero, List.setIfInBounds_toArray, List.set_cons_zero, List.set_cons_succ]
          refine wpAnyH_take (i := 7) (v := (.pointer (some ⟨g, off + j * 6, none⟩))) rfl (by kernel_rfl) (by kernel_rfl) (by kernel_rfl) (fun _ _ _ h => h) (Or.inl ⟨by rfl, fun W _ => by go_simp⟩) hHeld ?_
          try simp only [Act.put, List.getElem_toArray, List.getElem_cons_succ, List.getElem_cons_zero, List.setIfInBounds_toArray, List.set_cons_zero, List.set_cons_succ]
          refine wpAnyH_take (i := 8) rfl (by kernel_rfl) (by kernel_rfl) (by kernel_rfl) (fun _ _ _ h => h) (yieldsIf_load_mid (by rfl) 28 (.tmp 86) rfl g (off + j * 6) rfl _ _ (fun w h => HR2.out w h) Tryz.underlying28 rfl info28) hHeld ?_
          try simp only [Act.put, List.getElem_toArray, List.getElem_cons_succ, List.getElem_cons_zero, List.setIfInBounds_toArray, List.set_cons_zero, List.set_cons_succ]
          refine wpAnyH_ready (rs := [9]) (by kernel_rfl) (by simp) ?_
          refine AllReadyH.cons rfl (fun K hK => ?_) AllReadyH.nil
          rw [if_pos (by rfl)]
          go_simp
          refine (HS18.out _ hHeld).mono ?_
          rintro e w10 ⟨rfl, hb10⟩
          refine hK.out _ _ (below_any hHeld hb10 hHeld.size) (fun hHeld2 => ?_)
          clear hK K hb10 hHeld
          try simp only [Act.put, List.getElem_toArray, List.getElem_cons_succ, List.getElem_cons_zero, List.setIfInBounds_toArray, List.set_cons_zero, List.set_cons_succ]
          refine wpAnyH_take (i := 10) (v := (.bool false)) rfl (by kernel_rfl) (by kernel_rfl) (by kernel_rfl) (fun _ _ _ h => h) (Or.inl ⟨by rfl, fun W _ => by go_simp⟩) hHeld2 ?_
          try simp only [Act.put, List.getElem_toArray, List.getElem_cons_succ, List.getElem_cons_zero, List.setIfInBounds_toArray, List.set_cons_zero, List.set_cons_succ]
          refine wpAnyH_take (i := 11) (v := (.bool false)) rfl (by kernel_rfl) (by kernel_rfl) (by kernel_rfl) (fun _ _ _ h => h) (Or.inl ⟨by rfl, fun W _ => by go_simp⟩) hHeld2 ?_
          try simp only [Act.put, List.getElem_toArray, List.getElem_cons_succ, List.getElem_cons_zero, List.setIfInBounds_toArray, List.set_cons_zero, List.set_cons_succ]
          refine wpAnyH_take (i := 12) (v := (.bool false)) rfl (by kernel_rfl) (by kernel_rfl) (by kernel_rfl) (fun _ _ _ h => h) (Or.inl ⟨by rfl, fun W _ => by go_simp⟩) hHeld2 ?_
          try simp only [Act.put, List.getElem_toArray, List.getElem_cons_succ, List.getElem_cons_zero, List.setIfInBounds_toArray, List.set_cons_zero, List.set_cons_succ]
          refine wpAnyH_take (i := 13) (v := (.int .i64 6)) rfl (by kernel_rfl) (by kernel_rfl) (by kernel_rfl) (fun _ _ _ h => h) (Or.inl ⟨by rfl, fun W _ => by go_simp⟩) hHeld2 ?_
          try simp only [Act.put, List.getElem_toArray, List.getElem_cons_succ, List.getElem_cons_zero, List.setIfInBounds_toArray, List.set_cons_zero, List.set_cons_succ]
          refine wpAnyH_take (i := 14) (v := (.bool false)) rfl (by kernel_rfl) (by kernel_rfl) (by kernel_rfl) (fun _ _ _ h => h) (Or.inl ⟨by rfl, fun W _ => by go_simp⟩) hHeld2 ?_
          try simp only [Act.put, List.getElem_toArray, List.getElem_cons_succ, List.getElem_cons_zero, List.setIfInBounds_toArray, List.set_cons_zero, List.set_cons_succ]
          refine wpAnyH_take (i := 15) (v := (.bool false)) rfl (by kernel_rfl) (by kernel_rfl) (by kernel_rfl) (fun _ _ _ h => h) (Or.inl ⟨by rfl, fun W _ => by go_simp⟩) hHeld2 ?_
          try simp only [Act.put, List.getElem_toArray, List.getElem_cons_succ, List.getElem_cons_zero, List.setIfInBounds_toArray, List.set_cons_zero, List.set_cons_succ]
          refine wpAnyH_take (i := 16) (v := (.bool false)) rfl (by kernel_rfl) (by kernel_rfl) (by kernel_rfl) (fun _ _ _ h => h) (Or.inl ⟨by rfl, fun W _ => by go_simp⟩) hHeld2 ?_
          try simp only [Act.put, List.getElem_toArray, List.getElem_cons_succ, List.getElem_cons_zero, List.setIfInBounds_toArray, List.set_cons_zero, List.set_cons_succ]
          refine wpAnyH_take (i := 17) (v := (.int .i64 6)) rfl (by kernel_rfl) (by kernel_rfl) (by kernel_rfl) (fun _ _ _ h => h) (Or.inl ⟨by rfl, fun W _ => by go_simp⟩) hHeld2 ?_
          try simp only [Act.put, List.getElem_toArray, List.getElem_cons_succ, List.getElem_cons_zero, List.setIfInBounds_toArray, List.set_cons_zero, List.set_cons_succ]
          refine wpAnyH_take (i := 18) (v := (.bool false)) rfl (by kernel_rfl) (by kernel_rfl) (by kernel_rfl) (fun _ _ _ h => h) (Or.inl ⟨by rfl, fun W _ => by go_simp⟩) hHeld2 ?_
          try simp only [Act.put, List.getElem_toArray, List.getElem_cons_succ, List.getElem_cons_zero, List.setIfInBounds_toArray, List.set_cons_zero, List.set_cons_succ]
          refine wpAnyH_take (i := 19) (v := (.bool false)) rfl (by kernel_rfl) (by kernel_rfl) (by kernel_rfl) (fun _ _ _ h => h) (Or.inl ⟨by rfl, fun W _ => by go_simp⟩) hHeld2 ?_
          try simp only [Act.put, List.getElem_toArray, List.getElem_cons_succ, List.getElem_cons_zero, List.setIfInBounds_toArray, List.set_cons_zero, List.set_cons_succ]
          refine wpAnyH_done (by kernel_rfl) ?_ _
          have J := HJ.out.step hHeld2
          clear hHeld2 HR1 HR2 HS18 HCL HJ
          go_wp2_with fail
          have HJ := Lib.hid J
          clear J
          go_loopg [12] j (fun gg s12 wi => ∃ i : Nat, i + gg = j ∧ s12 = .int .i64 i ∧ BInv w (.slice (some ⟨g, off, none⟩) n cap) (.int .i64 lang) (.slice (some ⟨g4, off4, none⟩) (N1 + 1) cap4) X wi)
          case atStart => exact ⟨0, by omega, rfl, HJ.out⟩
          case round =>
            clear HJ
            obtain ⟨i, hig, rfl, J⟩ := hrel
            have hp := J.inv.cell
            by_cases hli : (i : Int) < j
            · skip
              have hi1 : i < l.length := by omega
              have hin : i < n := by omega
              have hin2 : (i : Int) < n := by omega
              obtain ⟨k2, b2, m2, t2, x2, q2, p2, cp2, oi⟩ := (Holds.at_ l off HH.out i hi1).opens
              have hwt2 : 13 * wOne l[i] ≤ 800000000 := by
                have h1 := wAll_mem (List.getElem_mem hi1)
                have h2 := HWT.out
                omega
              have hO2 : ∀ W, LInv w (.slice (some ⟨g, off, none⟩) n cap) (.int .i64 lang) W → Opens W g (off + i * 6) l[i] k2 b2 m2 t2 x2 q2 p2 cp2 := fun W h => oi.below h.bel
              have HO2 := Lib.hid hO2
              have o2 := hO2 _ J.inv
              cases hm2 : mayP l[i] 0 with
              | false =>
                have he := fun W (h : LInv w (.slice (some ⟨g, off, none⟩) n cap) (.int .i64 lang) W) => encodeNo l[i] k2 b2 m2 t2 x2 q2 p2 cp2 W (HGG.out.below h.bel) oi.e oi.hf (Held.below q2 oi.hl h.bel) hm2
                have HE2 := Lib.hid he
                clear he oi hO2 hwt2 hm2
                go_wp2_with (first
                  | ((with_reducible refine wpList_loadMid6 (.tmp 108) g (off + i * 6) k2 b2 m2 t2 x2 (.slice p2 q2.length cp2) o2.c0 o2.c1 o2.c2 o2.c3 o2.c4 o2.c5 ?_ ?_ ?_ ?_); rfl; rfl; rfl)
                  | (go_at_call 28; (with_reducible refine (HE2.out _ J.inv).mono ?_); rintro e w2 ⟨rfl, hb⟩; replace J := J.step hb; have hp := J.inv.cell; clear hb))
                go_quiet (fail)
                go_wp2_with fail
                go_roundg (gk - 1)
                case measure => omega
                case rel => exact ⟨i + 1, by omega, by go_num, J.step (below_drewN (Below.refl _ _) _)⟩
              | true =>
                have hfv2 : fineV l[i] := fine_mem HFA.out (List.getElem_mem hi1)
                have he := fun W (h : LInv w (.slice (some ⟨g, off, none⟩) n cap) (.int .i64 lang) W) => encodeYes l[i] k2 b2 m2 t2 x2 q2 p2 cp2 W (HGG.out.below h.bel) oi.e oi.hf (Held.below q2 oi.hl h.bel) hwt2 hm2
                have hsa := HSA.out l[i] hfv2 hm2
                have hXl2 := encP_len l[i]
                have hq18 := fun W (h : LInv w (.slice (some ⟨g, off, none⟩) n cap) (.int .i64 lang) W) => sameZAll l[j] W k b m t x q p cp l[i] k2 b2 m2 t2 x2 q2 p2 cp2 (HO.out W h).e oi.e (HO.out W h).hf.hn (HO.out W h).hl (Held.below q2 oi.hl h.bel)
                obtain ⟨Y2, hY2⟩ : ∃ Y2, Y2 = encP l[i] := ⟨_, rfl⟩
                obtain ⟨dd, hdd⟩ : ∃ dd, dd = sameP l[j] l[i] := ⟨_, rfl⟩
                rw [← hY2] at he hsa hXl2
                rw [← hdd] at hsa hq18
                have hq30 : ∀ W B C, Src W B X → Src W C Y2 → Calls Tryz.prog 30 #[B, C] W fun e w' => e = .returned (.bool dd) ∧ Below W.heap.size W w' := fun W B C hB hC => by
                  have := eqBts X Y2 B C W hB.bts hC.bts (by omega) (by omega)
                  rwa [hsa] at this
                have HE2 := Lib.hid he
                have HQ18 := Lib.hid hq18
                have HQ30 := Lib.hid hq30
                clear he oi hO2 hwt2 hm2 hq18 hq30 hsa hXl2 hY2 hdd hfv2
                go_upto_region 21 with (first
                  | ((with_reducible refine wpList_loadMid6 (.tmp 108) g (off + i * 6) k2 b2 m2 t2 x2 (.slice p2 q2.length cp2) o2.c0 o2.c1 o2.c2 o2.c3 o2.c4 o2.c5 ?_ ?_ ?_ ?_); rfl; rfl; rfl)
                  | (go_at_call 28; (with_reducible refine (HE2.out _ J.inv).mono ?_); rintro e w2 ⟨C2, rfl, hC2, hb⟩; replace J := J.step hb; clear hb hp))
                have HJ := Lib.hid J
                have HC2 := Lib.hid hC2
                obtain ⟨WI, hWI⟩ : ∃ WI, WI = w2 := ⟨_, rfl⟩
                have hr1 : ∀ W, Below w2.heap.size w2 W → W.rangeAt g (off + j * 6) [.int .i64 k, .bool b, .int .i64 m, .string t, .string x, .slice p q.length cp] := fun W h => (HO.out _ (HJ.out.step h).inv).range
                have hr2 : ∀ W, Below w2.heap.size w2 W → W.rangeAt g (off + i * 6) [.int .i64 k2, .bool b2, .int .i64 m2, .string t2, .string x2, .slice p2 q2.length cp2] := fun W h => (HO2.out _ (HJ.out.step h).inv).range
                have hs18 : ∀ W, Below w2.heap.size w2 W → Calls Tryz.prog 18 #[.agg #[.int .i64 k, .bool b, .int .i64 m, .string t, .string x, .slice p q.length cp], .agg #[.int .i64 k2, .bool b2, .int .i64 m2, .string t2, .string x2, .slice p2 q2.length cp2]] W fun e w' => e = .returned (.bool dd) ∧ Below W.heap.size W w' := fun W h => HQ18.out W (HJ.out.step h).inv
                have hs30 : ∀ W, Below w2.heap.size w2 W → Calls Tryz.prog 30 #[(.slice (some ⟨g4, off4, none⟩) (N1 + 1) cap4), C2] W fun e w' => e = .returned (.bool dd) ∧ Below W.heap.size W w' := fun W h => HQ30.out W _ _ (HJ.out.step h).src (HC2.out.below h)
                have hcl : ∀ W, Below w2.heap.size w2 W → W.cell? ⟨w.heap.size, 0, none⟩ = some (.slice (some ⟨g, off, none⟩) n cap) := fun W h => (HJ.out.step h).inv.cell
                have HR1 := Lib.hid hr1
                have HR2 := Lib.hid hr2
                have HS18 := Lib.hid hs18
                have HS30 := Lib.hid hs30
                have HCL := Lib.hid hcl
                clear hr1 hr2 hs18 hs30 hcl J hC2 o2 hWI
                refine wp_region_held_drew (S := fun W => Below w2.heap.size w2 W) (by kernel_rfl) (Below.refl _ _).drew (fun hHeld => ?_)
                refine wpAnyH_take (i := 0) (v := (.int .i64 0)) rfl (by kernel_rfl) (by kernel_rfl) (by kernel_rfl) (fun _ _ _ h => h) (Or.inl ⟨by rfl, fun W _ => by go_simp⟩) hHeld ?_
                try simp only [Act.put, List.getElem_toArray, List.getElem_cons_succ, List.getElem_cons_zero, List.setIfInBounds_toArray, List.set_cons_zero, List.set_cons_succ]
                refine wpAnyH_take (i := 1) (v := (.bool true)) rfl (by kernel_rfl) (by kernel_rfl) (by kernel_rfl) (fun _ _ _ h => h) (Or.inl ⟨by rfl, fun W _ => by go_simp⟩) hHeld ?_
                try simp only [Act.put, List.getElem_toArray, List.getElem_cons_succ, List.getElem_cons_zero, List.setIfInBounds_toArray, List.set_cons_zero, List.set_cons_succ]
                refine wpAnyH_take (i := 2) (v := (.bool true)) rfl (by kernel_rfl) (by kernel_rfl) (by kernel_rfl) (fun _ _ _ h => h) (Or.inl ⟨by rfl, fun W _ => by go_simp⟩) hHeld ?_
                try simp only [Act.put, List.getElem_toArray, List.getElem_cons_succ, List.getElem_cons_zero, List.setIfInBounds_toArray, List.set_cons_zero, List.set_cons_succ]
                refine wpAnyH_take (i := 3) (v := (.slice (some ⟨g4, off4, none⟩) (N1 + 1) cap4)) rfl (by kernel_rfl) (by kernel_rfl) (by kernel_rfl) (fun _ _ _ h => h) (Or.inl ⟨by rfl, fun W _ => by go_simp⟩) hHeld ?_
                try simp only [Act.put, List.getElem_toArray, List.getElem_cons_succ, List.getElem_cons_zero, List.setIfInBounds_toArray, List.set_cons_zero, List.set_cons_succ]
                refine wpAnyH_take (i := 4) (v := C2) rfl (by kernel_rfl) (by kernel_rfl) (by kernel_rfl) (fun _ _ _ h => h) (Or.inl ⟨by rfl, fun W _ => by go_simp⟩) hHeld ?_
                try simp only [Act.put, List.getElem_toArray, List.getElem_cons_succ, List.getElem_cons_zero, List.setIfInBounds_toArray, List.set_cons_zero, List.set_cons_succ]
                refine wpAnyH_take (i := 6) (v := (.pointer (some ⟨w.heap.size, 0, none⟩))) rfl (by kernel_rfl) (by kernel_rfl) (by kernel_rfl) (fun _ _ _ h => h) (Or.inl ⟨by rfl, fun W _ => by go_simp⟩) hHeld ?_
                try simp only [Act.put, List.getElem_toArray, List.getElem_cons_succ, List.getElem_cons_zero, List.setIfInBounds_toArray, List.set_cons_zero, List.set_cons_succ]
                refine wpAnyH_take (i := 7) (v := (.slice (some ⟨g, off, none⟩) n cap)) rfl (by kernel_rfl) (by kernel_rfl) (by kernel_rfl) (fun _ _ _ h => h) (Or.inl ⟨by rfl, fun W h => by have c0 := HCL.out W h; go_simp⟩) hHeld ?_
                try simp only [Act.put, List.getElem_toArray, List.getElem_cons_succ, List.getElem_cons_zero, List.setIfInBounds_toArray, List.set_cons_zero, List.set_cons_succ]
                refine wpAnyH_take (i := 8) (v := (.int .i64 j)) rfl (by kernel_rfl) (by kernel_rfl) (by kernel_rfl) (fun _ _ _ h => h) (Or.inl ⟨by rfl, fun W _ => by go_simp⟩) hHeld ?_
                try simp only [Act.put, List.getElem_toArray, List.getElem_cons_succ, List.getElem_cons_zero, List.setIfInBounds_toArray, List.set_cons_zero, List.set_cons_succ]
                refine wpAnyH_take (i := 9) (v := (.pointer (some ⟨g, off + j * 6, none⟩))) rfl (by kernel_rfl) (by kernel_rfl) (by kernel_rfl) (fun _ _ _ h => h) (Or.inl ⟨by rfl, fun W _ => by go_simp⟩) hHeld ?_
                try simp only [Act.put, List.getElem_toArray, List.getElem_cons_succ, List.getElem_cons_zero, List.setIfInBounds_toArray, List.set_cons_zero, List.set_cons_succ]
                refine wpAnyH_take (i := 10) rfl (by kernel_rfl) (by kernel_rfl) (by kernel_rfl) (fun _ _ _ h => h) (yieldsIf_load_mid (by rfl) 28 (.tmp 122) rfl g (off + j * 6) rfl _ _ (fun w h => HR1.out w h) Tryz.underlying28 rfl info28) hHeld ?_
                try simp only [Act.put, List.getElem_toArray, List.getElem_cons_succ, List.getElem_cons_zero, List.setIfInBounds_toArray, List.set_cons_zero, List.set_cons_succ]
                refine wpAnyH_take (i := 11) (v := (.pointer (some ⟨w.heap.size, 0, none⟩))) rfl (by kernel_rfl) (by kernel_rfl) (by kernel_rfl) (fun _ _ _ h => h) (Or.inl ⟨by rfl, fun W _ => by go_simp⟩) hHeld ?_
                try simp only [Act.put, List.getElem_toArray, List.getElem_cons_succ, List.getElem_cons_zero, List.setIfInBounds_toArray, List.set_cons_zero, List.set_cons_succ]
                refine wpAnyH_take (i := 12) (v := (.slice (some ⟨g, off, none⟩) n cap)) rfl (by kernel_rfl) (by kernel_rfl) (by kernel_rfl) (fun _ _ _ h => h) (Or.inl ⟨by rfl, fun W h => by have c0 := HCL.out W h; go_simp⟩) hHeld ?_
                try simp only [Act.put, List.getElem_toArray, List.getElem_cons_succ, List.getElem_cons_zero, List.setIfInBounds_toArray, List.set_cons_zero, List.set_cons_succ]
                refine wpAnyH_take (i := 13) (v := (.int .i64 i)) rfl (by kernel_rfl) (by kernel_rfl) (by kernel_rfl) (fun _ _ _ h => h) (Or.inl ⟨by rfl, fun W _ => by go_simp⟩) hHeld ?_
                try simp only [Act.put, List.getElem_toArray, List.getElem_cons_succ, List.getElem_cons_zero, List.setIfInBounds_toArray, List.set_cons_zero, List.set_cons_succ]
                refine wpAnyH_take (i := 14) (v := (.pointer (some ⟨g, off + i * 6, none⟩))) rfl (by kernel_rfl) (by kernel_rfl) (by kernel_rfl) (fun _ _ _ h => h) (Or.inl ⟨by rfl, fun W _ => by go_simp⟩) hHeld ?_
                try simp only [Act.put, List.getElem_toArray, List.getElem_cons_succ, List.getElem_cons_zero, List.setIfInBounds_toArray, List.set_cons_zero, List.set_cons_succ]
                refine wpAnyH_take (i := 15) rfl (by kernel_rfl) (by kernel_rfl) (by kernel_rfl) (fun _ _ _ h => h) (yieldsIf_load_mid (by rfl) 28 (.tmp 127) rfl g (off + i * 6) rfl _ _ (fun w h => HR2.out w h) Tryz.underlying28 rfl info28) hHeld ?_
                try simp only [Act.put, List.getElem_toArray, List.getElem_cons_succ, List.getElem_cons_zero, List.setIfInBounds_toArray, List.set_cons_zero, List.set_cons_succ]
                refine wpAnyH_ready (rs := [5]) (by kernel_rfl) (by simp) ?_
                refine AllReadyH.cons rfl (fun K hK => ?_) AllReadyH.nil
                · skip
                  rw [if_pos (by rfl)]
                  go_simp
                  refine (HS30.out _ hHeld).mono ?_
                  rintro e w10 ⟨rfl, hb10⟩
                  refine hK.out _ _ (below_any hHeld hb10 hHeld.size) (fun hHeld2 => ?_)
                  clear hK K hb10 hHeld
                  try simp only [Act.put, List.getElem_toArray, List.getElem_cons_succ, List.getElem_cons_zero, List.setIfInBounds_toArray, List.set_cons_zero, List.set_cons_succ]
                  refine wpAnyH_ready (rs := [16]) (by kernel_rfl) (by simp) ?_
                  refine AllReadyH.cons rfl (fun K hK => ?_) AllReadyH.nil
                  rw [if_pos (by rfl)]
                  go_simp
                  refine (HS18.out _ hHeld2).mono ?_
                  rintro e w11 ⟨rfl, hb10⟩
                  refine hK.out _ _ (below_any hHeld2 hb10 hHeld2.size) (fun hHeld3 => ?_)
                  clear hK K hb10 hHeld2
                  try simp only [Act.put, List.getElem_toArray, List.getElem_cons_succ, List.getElem_cons_zero, List.setIfInBounds_toArray, List.set_cons_zero, List.set_cons_succ]
                  refine wpAnyH_take (i := 17) (v := (.bool false)) rfl (by kernel_rfl) (by kernel_rfl) (by kernel_rfl) (fun _ _ _ h => h) (Or.inl ⟨by rfl, fun W _ => by go_simp⟩) hHeld3 ?_
                  try simp only [Act.put, List.getElem_toArray, List.getElem_cons_succ, List.getElem_cons_zero, List.setIfInBounds_toArray, List.set_cons_zero, List.set_cons_succ]
                  refine wpAnyH_take (i := 18) (v := (.bool false)) rfl (by kernel_rfl) (by kernel_rfl) (by kernel_rfl) (fun _ _ _ h => h) (Or.inl ⟨by rfl, fun W _ => by go_simp⟩) hHeld3 ?_
                  try simp only [Act.put, List.getElem_toArray, List.getElem_cons_succ, List.getElem_cons_zero, List.setIfInBounds_toArray, List.set_cons_zero, List.set_cons_succ]
                  refine wpAnyH_done (by kernel_rfl) ?_ _
                  have J := HJ.out.step hHeld3
                  clear hHeld3 HR1 HR2 HS18 HS30 HCL HJ HC2
                  go_wp2_with fail
                  go_roundg (gk - 1)
                  case measure => omega
                  case rel => exact ⟨i + 1, by omega, by go_num, J⟩
            · skip
              have HJ := Lib.hid J
              clear J hp
              go_wp2_with fail
              go_roundg (n - (j + 1))
              case measure => omega
              case rel => exact ⟨j + 1, by omega, by go_num, HJ.out.inv⟩
      · go_wp2_with (go_at_call 11; (with_reducible refine (hwk _ I.bel).mono ?_); rintro e w' ⟨rfl, hb⟩; replace I := I.step hb)
        go_ret
        exact ⟨rfl, I.bel⟩
    · go_wp2_with (go_at_call 11; (with_reducible refine (hwk _ I.bel).mono ?_); rintro e w' ⟨rfl, hb⟩; replace I := I.step hb)
      go_ret
      exact ⟨rfl, I.bel⟩
end Go.Proofs.YtoifjjgakblhhaaGreatDoor
