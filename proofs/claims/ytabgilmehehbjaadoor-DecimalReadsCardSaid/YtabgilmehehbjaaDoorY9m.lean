/- The law DecimalReads, walked. -/
import Derived.Test.YtabgilmehehbjaaDoorY8m
import Derived.Test.YtabgilmehehbjaaDoorGx
import Derived.Test.YtabgilmehehbjaaDoorEm
import Derived.Deep.RegionHeld3
namespace Go.Proofs.YtabgilmehehbjaaDoor
open Go.ChangeShapes Go.WideShapes Go.ChangeAt Go.RowKit

theorem readAgree (a : ByteArray) (ha : a.size ≤ 300) :
    ∃ x k, (∀ W, Gd W → Calls Tryd.prog 11 #[.string a] W fun e w' => e = .returned (.tuple #[.string x, .int .i64 k]) ∧ Below W.heap.size W w') ∧
      (∀ W, Calls Tryd.prog 12 #[.string a] W fun e w' => e = .returned (.tuple #[.string x, .int .i64 k]) ∧ Below W.heap.size W w') := by
  obtain ⟨x, k, hv, _, _⟩ := readV_form (readP a.data.toList)
  refine ⟨x, k, fun W hG => ?_, fun W => ?_⟩
  · have := readAt a W hG (by omega)
    rwa [hv] at this
  · have := refRead a W (by omega)
    unfold readSaid at this
    rwa [hv] at this
/-- The whole numbers that a slice holds. -/
def IntsP (w : World) (p : Option Addr) (n : Nat) (Z : Nat → Int) : Prop := ∀ i, i < n → ∃ b off, p = some ⟨b, off, none⟩ ∧ w.cell? ⟨b, off + i, none⟩ = some (.int .i64 (Z i))
theorem IntsP.below {w w' : World} {p : Option Addr} {n : Nat} {Z : Nat → Int} (h : IntsP w p n Z) (k : Below w.heap.size w w') : IntsP w' p n Z := fun i hi => by
  obtain ⟨b, off, e, hc⟩ := h i hi
  exact ⟨b, off, e, (k.cell (p := ⟨b, off + i, none⟩) (World.block_lt_of_cell? w _ hc)).trans hc⟩
def Bnd (Z : Nat → Int) (n : Nat) : Prop := ∀ i, i < n → -9223372036854775808 ≤ Z i ∧ Z i ≤ 9223372036854775807
/-- The numbers that came in. -/
def Nums2 (W : World) (L : Value) : Prop := ∃ p n cap Z, L = .slice p n cap ∧ IntsP W p n Z ∧ n ≤ maxLen ∧ Bnd Z n
theorem wf_bounds {n : Int} (h : (Lit.int .i64 n).wf = true) : -9223372036854775808 ≤ n ∧ n ≤ 9223372036854775807 := by
  simp [Lit.wf, IntKind.min, IntKind.max, IntKind.signed, IntKind.bits] at h
  omega
theorem nums2_of_trod {H : Type} {enc : TypeId × Value → H} {W : World} {n : Nat} {L : Value} {y : DataW H × List MemPlace} (h : DataW.trod enc Tryd.prog W 0 (fun _ => true) true n 23 [L] = some y) : Nums2 W L := by
  rcases open_ints Tryd.underlying23 Tryd.underlying2 (by kernel_rfl) h with ⟨e, _⟩ | ⟨a, len, cap, zs, e, _, hl, hm, hn, _, hc, hs⟩
  · obtain rfl : L = .slice none 0 0 := by simpa using e
    exact ⟨_, _, _, fun _ => 0, rfl, fun i hi => absurd hi (Nat.not_lt_zero i), by omega, fun i hi => absurd hi (Nat.not_lt_zero i)⟩
  · obtain rfl : L = .slice (some a) len cap := by simpa using e
    have hn' : zs.length = cap := by simpa using hn
    by_cases h1 : len = 0
    · subst h1
      exact ⟨_, _, _, fun _ => 0, rfl, fun i hi => absurd hi (Nat.not_lt_zero i), by omega, fun i hi => absurd hi (Nat.not_lt_zero i)⟩
    · have h0 := hc 0 (by omega)
      have hsp : a.spot = none := by
        cases k : a.spot with
        | none => rfl
        | some m =>
          rw [show a.add 0 = a from rfl] at h0
          unfold World.cell? at h0
          rw [k] at h0
          split at h0 <;> simp at h0
      obtain ⟨b, off, spot⟩ := a
      simp only at hsp
      subst hsp
      refine ⟨_, len, cap, fun i => zs.getD i 0, rfl, ?_, by omega, ?_⟩
      · intro i hi
        have := hc i (by omega)
        rw [show (Addr.mk b off none).add i = ⟨b, off + i, none⟩ by unfold Addr.add; split <;> simp_all] at this
        exact ⟨b, off, rfl, this⟩
      · intro i hi
        have hi' : i < zs.length := by omega
        have := wf_bounds (hs zs[i] (List.getElem_mem hi'))
        simpa [List.getD, hi'] using this

/-- What holds at every call of the law's rounds. -/
structure InvR (w : World) (p : Option Addr) (n cap : Nat) (S : Nat → ByteArray) (q : Option Addr) (m cap2 : Nat) (Z : Nat → Int) (wr : World) : Prop where
  cell : wr.cell? ⟨w.heap.size, 0, none⟩ = some (.slice p n cap)
  cell2 : wr.cell? ⟨w.heap.size, 1, none⟩ = some (.slice q m cap2)
  lt : w.heap.size < wr.heap.size
  bel : Below w.heap.size w wr
  g : Gd wr
  t : Tab wr
  e : Er wr
  s : StrsP wr p n S
  z : IntsP wr q m Z
theorem InvR.step {w wr w' : World} {p q : Option Addr} {n cap m cap2 : Nat} {S : Nat → ByteArray} {Z : Nat → Int} (h : InvR w p n cap S q m cap2 Z wr) (k : Below wr.heap.size wr w') : InvR w p n cap S q m cap2 Z w' :=
  ⟨(k.cell (p := ⟨w.heap.size, 0, none⟩) h.lt).trans h.cell, (k.cell (p := ⟨w.heap.size, 1, none⟩) h.lt).trans h.cell2, Nat.lt_of_lt_of_le h.lt k.size, below_any h.bel k (Nat.le_of_lt h.lt), h.g.below k, h.t.below k, h.e.below k, h.s.below k, h.z.below k⟩
theorem InvR.drew {w wr : World} {p q : Option Addr} {n cap m cap2 : Nat} {S : Nat → ByteArray} {Z : Nat → Int} (h : InvR w p n cap S q m cap2 Z wr) : InvR w p n cap S q m cap2 Z wr.drew := h.step (Below.refl _ _).drew
theorem InvR.start {w : World} {p q : Option Addr} {n cap m cap2 : Nat} {S : Nat → ByteArray} {Z : Nat → Int} (hG : Gd w) (hT : Tab w) (hE : Er w) (hS : StrsP w p n S) (hZ : IntsP w q m Z) :
    InvR w p n cap S q m cap2 Z (w.alloc (.cells #[.slice p n cap, .slice q m cap2] 25)) := by
  have hb0 : Below w.heap.size w (w.alloc (.cells #[.slice p n cap, .slice q m cap2] 25)) := (Below.refl _ _).alloc (Nat.le_refl _) _
  exact ⟨cell_of (heap_new _ _ rfl) _ rfl, cell_of (heap_new _ _ rfl) _ rfl, by simp, hb0, hG.below hb0, hT.below hb0, hE.below hb0, hS.below hb0, hZ.below hb0⟩
/-- The cells that the comparison reads, beside what holds. -/
theorem held_step {w wr w' : World} {p q : Option Addr} {n cap m cap2 b off i : Nat} {S : Nat → ByteArray} {Z : Nat → Int} {a : ByteArray}
    (h : (wr.cell? ⟨w.heap.size, 0, none⟩ = some (.slice p n cap) ∧ wr.cell? ⟨b, off + i, none⟩ = some (.string a)) ∧ InvR w p n cap S q m cap2 Z wr) (k : Below wr.heap.size wr w') :
    (w'.cell? ⟨w.heap.size, 0, none⟩ = some (.slice p n cap) ∧ w'.cell? ⟨b, off + i, none⟩ = some (.string a)) ∧ InvR w p n cap S q m cap2 Z w' :=
  ⟨⟨(h.2.step k).cell, (k.cell (p := ⟨b, off + i, none⟩) (World.block_lt_of_cell? wr _ h.1.2)).trans h.1.2⟩, h.2.step k⟩


set_option maxRecDepth 20000 in
set_option maxHeartbeats 6400000 in
theorem readsSome (p : Option Addr) (n cap : Nat) (S : Nat → ByteArray) (q : Option Addr) (m cap2 : Nat) (Z : Nat → Int) (w : World) (hG : Gd w) (hT : Tab w) (hE : Er w) (hS : StrsP w p n S) (hZ : IntsP w q m Z) (hn : n ≤ maxLen) (hm : m ≤ maxLen) (hz : ∀ i, i < n → (S i).size ≤ maxLen) (hbd : Bnd Z m) :
    Calls Tryd.prog 3 #[.agg #[.slice p n cap, .slice q m cap2]] w fun e w' => e = .returned (.bool true) ∧ Below w.heap.size w w' := by
  unfold maxLen at hn hm
  have I0 := Lib.hid (InvR.start (cap := cap) (cap2 := cap2) hG hT hE hS hZ)
  have HBD := Lib.hid hbd
  clear hG hT hE hS hZ hz hbd
  go_enter Tryd.func3, Tryd.ntmps3
  go_upto_block 0 with fail
  go_cut [3] (fun s3 wx => InvR w p n cap S q m cap2 Z wx)
  case first =>
    go_wp2_with fail
    go_loopg [3] n (fun gg s3 wr => ∃ i : Nat, i + gg = n ∧ s3 = .int .i64 i ∧ InvR w p n cap S q m cap2 Z wr)
    case atStart => exact ⟨0, by omega, rfl, I0.out⟩
    case round =>
      clear I0
      obtain ⟨i, hig, rfl, I⟩ := hrel
      have HI := Lib.hid I
      have hp := I.cell
      clear I
      by_cases hlt : (i : Int) < n
      · by_cases h48 : (i : Int) < 48
        · obtain ⟨b, off, hpe, hca⟩ := HI.out.s i (by omega)
          subst hpe
          obtain ⟨a, ha⟩ : ∃ a, a = S i := ⟨_, rfl⟩
          rw [← ha] at hca
          have HH0 := Lib.hid (And.intro (And.intro hp hca) HI.out)
          have ca := hca
          clear ha hca
          by_cases sa : a.size ≤ 300
          · have SA : Hid (true = decide (a.size ≤ 300)) := Lib.hid (by simp [sa])
            obtain ⟨x1, k1, D1, E1⟩ := readAgree a sa
            obtain ⟨x2, k2, D2, E2⟩ := toIntAgree a sa
            have F1 := Lib.hid (And.intro D1 E1)
            have F2 := Lib.hid (And.intro D2 E2)
            obtain ⟨c, hc⟩ : ∃ c, c = chk a.data.toList := ⟨_, rfl⟩
            have HC := Lib.hid hc
            have HSA := Lib.hid sa
            clear D1 D2 E1 E2 sa hc
            go_upto_region 9 with (first
              | (go_at_call 10; (with_reducible refine (shortB a _ _ SA).mono ?_); rintro e w' ⟨rfl, rfl⟩)
              | (go_at_call 11; (with_reducible refine (F1.out.1 _ HI.out.g).mono ?_); rintro e w1 ⟨rfl, hb⟩; have H1 := Lib.hid (held_step HH0.out hb); have hp1 := H1.out.1.1; have ca1 := H1.out.1.2; clear hb)
              | (go_at_call 12; (with_reducible refine (F1.out.2 _).mono ?_); rintro e w2 ⟨rfl, hb⟩; have H2 := Lib.hid (held_step H1.out hb); have hp2 := H2.out.1.1; have ca2 := H2.out.1.2; clear hb)
              | (go_at_call 13; (with_reducible refine (F2.out.1 _ H2.out.2.g H2.out.2.e).mono ?_); rintro e w3 ⟨rfl, hb⟩; have H3 := Lib.hid (held_step H2.out hb); have hp3 := H3.out.1.1; have ca3 := H3.out.1.2; clear hb)
              | (go_at_call 14; (with_reducible refine (F2.out.2 _).mono ?_); rintro e w4 ⟨rfl, hb⟩; have H4 := Lib.hid (held_step H3.out hb); clear hb hp hp1 hp2 hp3 ca ca1 ca2 ca3))
            have hi0 : (0 : Int) ≤ i := by omega
            have hsa9 : a.size < 4294967281 := by have := HSA.out; omega
            have hsa8 : a.size ≤ 1000000000 := by have := HSA.out; omega
            go_region_held3 (fun w' => (w'.cell? ⟨w.heap.size, 0, none⟩ = some (.slice (some ⟨b, off, none⟩) n cap) ∧ w'.cell? ⟨b, off + i, none⟩ = some (.string a)) ∧ InvR w (some ⟨b, off, none⟩) n cap S q m cap2 Z w')
              (first | (exact held_step H4.out (Below.refl _ _).drew) | (exact held_step (by assumption) (by assumption)) | assumption)
              (first
                | (go_at_call 15; refine (checkB a c _ (InvR.g (And.right (by assumption : (_ ∧ _) ∧ InvR w (some ⟨b, off, none⟩) n cap S q m cap2 Z _))) hsa9 HC).mono ?_; rintro e wz ⟨rfl, hbz⟩)
                | (go_at_call 16; refine (refCheckB a c _ hsa8 HC).mono ?_; rintro e wz ⟨rfl, hbz⟩))
            all_goals
              have HFIN := Lib.hid (And.right (by assumption : (_ ∧ _) ∧ InvR w (some ⟨b, off, none⟩) n cap S q m cap2 Z _))
              go_wp2_with fail
              go_roundg (gk - 1)
              case measure => omega
              case rel => exact ⟨i + 1, by omega, by go_num, HFIN.out⟩
          · have SA : Hid (false = decide (a.size ≤ 300)) := Lib.hid (by simp; omega)
            clear HH0
            go_wp2_with (go_at_call 10; (with_reducible refine (shortB a _ _ SA).mono ?_); rintro e w' ⟨rfl, rfl⟩)
            go_roundg (gk - 1)
            case measure => omega
            case rel => exact ⟨i + 1, by omega, by go_num, HI.out⟩
        · go_wp2_with fail
          go_meet
          case rel => exact HI.out
      · go_wp2_with fail
        go_meet
        case rel => exact HI.out
  case rest =>
    have HI0 := Lib.hid hcut
    clear hcut I0
    go_wp2_with fail
    go_loopg [12] m (fun gg s12 wr => ∃ i : Nat, i + gg = m ∧ s12 = .int .i64 i ∧ InvR w p n cap S q m cap2 Z wr)
    case atStart => exact ⟨0, by omega, rfl, HI0.out⟩
    case round =>
      clear HI0
      obtain ⟨i, hig, rfl, I⟩ := hrel
      have HI := Lib.hid I
      have hp := I.cell2
      clear I
      by_cases hlt : (i : Int) < m
      · by_cases h48 : (i : Int) < 48
        · obtain ⟨b, off, hpe, hca⟩ := HI.out.z i (by omega)
          subst hpe
          obtain ⟨hb1, hb2⟩ := HBD.out i (by omega)
          obtain ⟨z, hz⟩ : ∃ z, z = Z i := ⟨_, rfl⟩
          rw [← hz] at hca hb1 hb2
          obtain ⟨T, D1, D2, D3⟩ := intAgree z hb1 hb2
          have F1 := Lib.hid (And.intro D1 (And.intro D2 D3))
          have HCA := Lib.hid hca
          have ca := hca
          clear D1 D2 D3 hz hca
          go_wp2_with (first
            | (go_at_call 17; (with_reducible refine (F1.out.1 _ HI.out.t).mono ?_); rintro e w1 ⟨rfl, hb⟩; have H1 := Lib.hid (HI.out.step hb); have G1 := Lib.hid ((hb.cell (p := ⟨b, off + i, none⟩) (World.block_lt_of_cell? wr _ HCA.out)).trans HCA.out); have hp1 := H1.out.cell2; have ca1 := G1.out; clear hb)
            | (go_at_call 13; (with_reducible refine (F1.out.2.2 _ H1.out.g H1.out.e).mono ?_); rintro e w2 ⟨rfl, hb⟩; have H2 := Lib.hid (H1.out.step hb); have G2 := Lib.hid ((hb.cell (p := ⟨b, off + i, none⟩) (World.block_lt_of_cell? w1 _ G1.out)).trans G1.out); have hp2 := H2.out.cell2; have ca2 := G2.out; clear hb)
            | (go_at_call 18; (with_reducible refine (F1.out.2.1 _).mono ?_); rintro e w3 ⟨rfl, hb⟩; have H3 := Lib.hid (H2.out.step hb); have G3 := Lib.hid ((hb.cell (p := ⟨b, off + i, none⟩) (World.block_lt_of_cell? w2 _ G2.out)).trans G2.out); have hp3 := H3.out.cell2; have ca3 := G3.out; clear hb))
          go_roundg (gk - 1)
          case measure => omega
          case rel => exact ⟨i + 1, by omega, by go_num, H3.out⟩
        · go_wp2_with (go_at_call 19; (with_reducible refine (wakesAt _ HI.out.g HI.out.t).mono ?_); rintro e w1 ⟨rfl, hb1⟩)
          go_ret
          exact ⟨rfl, (HI.out.step hb1).bel⟩
      · go_wp2_with (go_at_call 19; (with_reducible refine (wakesAt _ HI.out.g HI.out.t).mono ?_); rintro e w1 ⟨rfl, hb1⟩)
        go_ret
        exact ⟨rfl, (HI.out.step hb1).bel⟩
end Go.Proofs.YtabgilmehehbjaaDoor
