/- Texts of one kind, one behind the other: each says ahead of itself what it shows. -/
import Derived.Laws.StructEq
import Derived.Test.YtanbgdhmfjgihaaGreatDoorLar
import Derived.Test.YtanbgdhmfjgihaaGreatDoorLan
import Derived.Test.YtanbgdhmfjgihaaGreatDoorLaa
import Derived.Test.YtanbgdhmfjgihaaGreatDoorLap
import Derived.Test.YtanbgdhmfjgihaaGreatDoorLai
import Derived.WalkKit
import Derived.OwnWalk
import Derived.Maps.AppendAt
import Derived.Deep.LoopGhost
import Derived.Deep.MidRow
/- slices.Compact at rows of three numbers. -/
namespace Go.Proofs.YtanbgdhmfjgihaaGreatDoor
open Go.RowKit

deriving instance DecidableEq for VR
theorem VR.len3 (x : VR) : x.enc.length = 3 := rfl
theorem equal81 (a b c x y z : Int) (w : World) : (Op.equalIn 10000 81 (.agg #[.int .i64 a, .int .i64 b, .int .i64 c]) (.agg #[.int .i64 x, .int .i64 y, .int .i64 z])).run Tryz.prog w = .ok (a == x && b == y && c == z) w := by
  have s3 : ∀ w, (sizeOf 3).run Tryz.prog w = .ok 1 w := fun w => by kernel_rfl
  have p0 : ∀ u v t w, (part 3 #[.int .i64 u, .int .i64 v, .int .i64 t] 0).run Tryz.prog w = .ok (.int .i64 u) w := fun u v t w => by kernel_rfl
  have p1 : ∀ u v t w, (part 3 #[.int .i64 u, .int .i64 v, .int .i64 t] 1).run Tryz.prog w = .ok (.int .i64 v) w := fun u v t w => by kernel_rfl
  have p2 : ∀ u v t w, (part 3 #[.int .i64 u, .int .i64 v, .int .i64 t] 2).run Tryz.prog w = .ok (.int .i64 t) w := fun u v t w => by kernel_rfl
  have e0 : ∀ u v w, (Op.equalIn 9999 3 (.int .i64 u) (.int .i64 v)).run Tryz.prog w = .ok (u == v) w := fun u v w => by
    rw [run_equalIn_int w 9998 3 .i64 .i64 u v Tryz.underlying3]
  rw [Op.equalIn]
  by_cases h1 : a = x
  · by_cases h2 : b = y
    · by_cases h3 : c = z
      · simp [run_underlying Tryz.underlying81, Std.Legacy.Range.forIn_eq_forIn_range', Std.Legacy.Range.size, List.range', s3, p0, p1, p2, e0, Result.andThen, h1, h2, h3]
      · simp [run_underlying Tryz.underlying81, Std.Legacy.Range.forIn_eq_forIn_range', Std.Legacy.Range.size, List.range', s3, p0, p1, p2, e0, Result.andThen, h1, h2, h3]
    · simp [run_underlying Tryz.underlying81, Std.Legacy.Range.forIn_eq_forIn_range', Std.Legacy.Range.size, List.range', s3, p0, p1, e0, Result.andThen, h1, h2]
  · simp [run_underlying Tryz.underlying81, Std.Legacy.Range.forIn_eq_forIn_range', Std.Legacy.Range.size, List.range', s3, p0, e0, Result.andThen, h1]
theorem guard81 : Tryz.prog.eqGuardType Tryz.prog.depth 81 = false := by kernel_rfl
theorem guard81E (x y : Operand) (xs ys : Array Value) (w : World) : (eqGuard .eql 81 x y (.agg xs) (.agg ys)).run Tryz.prog w = .ok () w := run_eqGuard_agg w .eql 81 x y xs ys guard81
theorem guard81N (x y : Operand) (xs ys : Array Value) (w : World) : (eqGuard .neq 81 x y (.agg xs) (.agg ys)).run Tryz.prog w = .ok () w := run_eqGuard_agg w .neq 81 x y xs ys guard81
def VR.same (r s : VR) : Bool := r.a == s.a && r.b == s.b && r.c == s.c
theorem VR.same_eq (r s : VR) : r.same s = true ↔ r = s := by
  obtain ⟨a, b, c⟩ := r
  obtain ⟨x, y, z⟩ := s
  unfold VR.same
  simp [and_assoc]
theorem only_lowR {g : Nat} {x y z : World} (h : Only g x y) (k : Low y.heap.size y z) : Only g x z := h.trans (Only.of_low k)
theorem wpList_loadVR {ops : Array Oper} {rest : List Oper} {o : Oper} {a : Act} {w : World} {Q : Exit → Act → World → Prop} (x : Operand) (g off : Nat) (e : VR) (h6 : w.rangeAt g off e.enc)
    (hgd : o.guard = none) (ho : o.op = .load 81 x) (hx : a.eval x = .pointer (some ⟨g, off, none⟩))
    (h : wpList Tryz.prog ops Q rest (a.put o.dst (.agg e.enc.toArray)) w) : wpList Tryz.prog ops Q (o :: rest) a w :=
  wpList_load_mid hgd 81 x ho g off hx e.enc _ h6 Tryz.underlying81 rfl info81 h
theorem wpList_storeVR {ops : Array Oper} {rest : List Oper} {o : Oper} {a : Act} {w : World} {Q : Exit → Act → World → Prop} (x y : Operand) (g off : Nat) (e : VR) (hth : w.there g off 3)
    (hgd : o.guard = none) (ho : o.op = .store 81 x y) (hx : a.eval x = .pointer (some ⟨g, off, none⟩)) (hy : a.eval y = .agg e.enc.toArray)
    (h : wpList Tryz.prog ops Q rest (a.put o.dst undef) (w.setCells g off e.enc)) : wpList Tryz.prog ops Q (o :: rest) a w :=
  wpList_store_mid hgd 81 x y ho g off e.enc.toArray hx hy hth info81 (all_oneCell_toArray e.one) h
theorem zero81 (w : World) : (zeroValue 81).run Tryz.prog w = .ok (.agg #[.int .i64 0, .int .i64 0, .int .i64 0]) w := Tryz.zeroValue81 w
set_option maxHeartbeats 6400000 in
set_option maxRecDepth 20000 in
theorem compactR (blk off cap : Nat) (d : Array VR) (w : World) (hE : Elems VR.enc 3 w blk off d) (hblk : blk < w.heap.size) (hsz : d.size < 1099511627776) (hcap : d.size ≤ cap) :
    Calls Tryz.prog 82 #[.slice (some ⟨blk, off, none⟩) d.size cap] w fun e w' => ∃ (dk : Array VR), e = .returned (.slice (some ⟨blk, off, none⟩) dk.size cap) ∧ dk.toList = Go.Lib.compactUpTo d d.size ∧ Elems VR.enc 3 w' blk off dk ∧ Only blk w w' := by
  have all : (∀ j, j < d.size → Go.Lib.keeps d j = true) → d.toList = Go.Lib.compactUpTo d d.size := fun h => by
    rw [Go.Lib.compactUpTo_all d d.size h, Go.Lib.range_map_get]
  have ALL := Lib.hid all
  have HE := Lib.hid hE
  clear all hE
  by_cases h2 : d.size < 2
  · go_enter Tryz.func82, Tryz.ntmps82
    go_wp2_with fail
    go_ret
    exact ⟨d, rfl, ALL.out fun j hj => Go.Lib.keeps_lt_one _ j (by omega), HE.out, Only.refl _ _⟩
  · go_enter Tryz.func82, Tryz.ntmps82
    go_wp2_with fail
    go_loopg [3] d.size (fun gg s5 wr => ∃ i : Nat, s5 = .int .i64 ((i : Int) + 1) ∧ i + 1 ≤ d.size ∧ d.size - (i + 1) ≤ gg ∧ Low w.heap.size w wr ∧ Hid (∀ j, j < i + 1 → Go.Lib.keeps d j = true))
    case atStart => exact ⟨0, rfl, by omega, by omega, Low.refl _ _, Lib.hid (Go.Lib.keeps_lt_one _)⟩
    case round =>
      obtain ⟨i, rfl, hi, hgg, bw, hall⟩ := hrel
      by_cases hlt : i + 1 < d.size
      · have E := HE.out.low hblk bw
        obtain ⟨ea, hea⟩ : ∃ x, x = d[i + 1]! := ⟨_, rfl⟩
        obtain ⟨eb, heb⟩ : ∃ x, x = d[i]! := ⟨_, rfl⟩
        have ra := (E (i + 1) hlt).1
        have rb := (E i (by omega)).1
        rw [← hea] at ra
        rw [← heb] at rb
        have RA : Hid (∀ W, Low wr.heap.size wr W → W.rangeAt blk (off + (i + 1) * 3) ea.enc) := Lib.hid fun W h => range_below ra h.is
        have RB : Hid (∀ W, Low wr.heap.size wr W → W.rangeAt blk (off + i * 3) eb.enc) := Lib.hid fun W h => range_below rb h.is
        obtain ⟨r, hr⟩ : ∃ r, r = ea.same eb := ⟨_, rfl⟩
        have HQ : Hid (∀ W, (Op.equalIn 10000 81 (.agg ea.enc.toArray) (.agg eb.enc.toArray)).run Tryz.prog W = .ok r W) := Lib.hid fun W => by rw [hr]; exact equal81 _ _ _ _ _ _ W
        have KR : Hid (r = true ↔ d[i + 1]! = d[i]!) := Lib.hid (by rw [← hea, ← heb, hr]; exact VR.same_eq ea eb)
        clear E ra rb hea heb hr
        have hlti : (i : Int) + 1 < d.size := by omega
        have t1 : ((i : Int) + 1).toNat = i + 1 := by omega
        have t2 : ¬ (i : Int) + 1 < 0 := by omega
        have t3 : IntKind.i64.wrap (i : Int) = i := IntWalk.i64_in _ (by omega)
        have t4 : (i : Int) < d.size := by omega
        go_upto_region 6 with fail
        refine wp_region_held_drew (S := fun W => Low wr.heap.size wr W) (by kernel_rfl) (Low.refl _ _).drew (fun hHeld => ?_)
        refine wpAnyH_take (i := 0) (v := .slice (some ⟨blk, off, none⟩) d.size cap) rfl (by kernel_rfl) (by kernel_rfl) (by kernel_rfl) (fun _ _ _ h => h) (Or.inl ⟨by rfl, fun W _ => by go_simp⟩) hHeld ?_
        try simp only [putS]
        refine wpAnyH_take (i := 1) (v := .int .i64 ((i : Int) + 1)) rfl (by kernel_rfl) (by kernel_rfl) (by kernel_rfl) (fun _ _ _ h => h) (Or.inl ⟨by rfl, fun W _ => by go_simp⟩) hHeld ?_
        try simp only [putS]
        refine wpAnyH_take (i := 2) (v := .pointer (some ⟨blk, off + (i + 1) * 3, none⟩)) rfl (by kernel_rfl) (by kernel_rfl) (by kernel_rfl) (fun _ _ _ h => h) (Or.inl ⟨by rfl, fun W _ => by go_simp⟩) hHeld ?_
        try simp only [putS]
        refine wpAnyH_take (i := 3) rfl (by kernel_rfl) (by kernel_rfl) (by kernel_rfl) (fun _ _ _ h => h) (yieldsIf_load_mid (by rfl) 81 (.tmp 18) rfl blk (off + (i + 1) * 3) rfl ea.enc _ (fun w h => RA.out w h) Tryz.underlying81 rfl info81) hHeld ?_
        try simp only [putS]
        refine wpAnyH_take (i := 4) (v := .slice (some ⟨blk, off, none⟩) d.size cap) rfl (by kernel_rfl) (by kernel_rfl) (by kernel_rfl) (fun _ _ _ h => h) (Or.inl ⟨by rfl, fun W _ => by go_simp⟩) hHeld ?_
        try simp only [putS]
        refine wpAnyH_take (i := 5) (v := .int .i64 ((i : Int) + 1)) rfl (by kernel_rfl) (by kernel_rfl) (by kernel_rfl) (fun _ _ _ h => h) (Or.inl ⟨by rfl, fun W _ => by go_simp⟩) hHeld ?_
        try simp only [putS]
        refine wpAnyH_take (i := 6) (v := .int .i64 i) rfl (by kernel_rfl) (by kernel_rfl) (by kernel_rfl) (fun _ _ _ h => h) (Or.inl ⟨by rfl, fun W _ => by go_simp⟩) hHeld ?_
        try simp only [putS]
        refine wpAnyH_take (i := 7) (v := .pointer (some ⟨blk, off + i * 3, none⟩)) rfl (by kernel_rfl) (by kernel_rfl) (by kernel_rfl) (fun _ _ _ h => h) (Or.inl ⟨by rfl, fun W _ => by go_simp⟩) hHeld ?_
        try simp only [putS]
        refine wpAnyH_take (i := 8) rfl (by kernel_rfl) (by kernel_rfl) (by kernel_rfl) (fun _ _ _ h => h) (yieldsIf_load_mid (by rfl) 81 (.tmp 23) rfl blk (off + i * 3) rfl eb.enc _ (fun w h => RB.out w h) Tryz.underlying81 rfl info81) hHeld ?_
        try simp only [putS]
        refine wpAnyH_take (i := 9) (v := .bool r) rfl (by kernel_rfl) (by kernel_rfl) (by kernel_rfl) (fun _ _ _ h => h) (Or.inl ⟨by rfl, fun W _ => by have g81 := guard81E; have q81 := HQ.out W; go_simp⟩) hHeld ?_
        try simp only [putS]
        refine wpAnyH_done (by kernel_rfl) ?_ _
        replace bw := bw.trans (hHeld.mono bw.size)
        cases r with
        | false =>
            go_wp2_with fail
            go_roundg (d.size - (i + 1 + 1))
            case measure => omega
            case rel =>
              refine ⟨i + 1, by go_num, by omega, Nat.le_refl _, bw, Lib.hid fun j hj => ?_⟩
              by_cases e : j = i + 1
              · subst e
                exact Go.Lib.keeps_pos (fun h => absurd (KR.out.2 h) (by decide))
              · exact hall.out j (by omega)
        | true =>
            have hst := Go.Lib.CompInv.start (d := d) (k0 := i + 1) hall.out (Go.Lib.keeps_neg (by omega) (KR.out.1 rfl))
            have HST := Lib.hid hst
            clear hst KR
            have hcap3 : (i : Int) + 1 ≤ cap := by omega
            have hle3 : (i : Int) + 1 ≤ d.size := by omega
            have E3 := HE.out.low hblk bw
            have bo : Only blk w wr.drew := Only.of_low bw
            generalize wr.drew = w3 at *
            go_wp2_with fail
            go_loopg [3, 5] d.size (fun gg s5 s7 wr => ∃ (kk c : Nat) (dk : Array VR), s5 = .int .i64 kk ∧ s7 = .int .i64 ((c : Int) + 1) ∧ i + 1 + (c + 1) ≤ d.size ∧ d.size - (i + 1 + (c + 1)) ≤ gg ∧ Only blk w wr ∧ dk.size = d.size ∧ Hid (Elems VR.enc 3 wr blk off dk) ∧ Hid (Go.Lib.CompInv d (i + 1 + (c + 1)) kk dk))
            case atStart => exact ⟨i + 1, 0, d, by go_num, rfl, by omega, by omega, bo, rfl, Lib.hid E3, HST⟩
            case round =>
              clear E3 bo bw hall
              obtain ⟨kk, c, dk, rfl, rfl, hle, hgg2, bo, hds, hE, hI⟩ := hrel
              have hkk := hI.out.lt
              by_cases hlt2 : i + 1 + (c + 1) < d.size
              · obtain ⟨ec, hec⟩ : ∃ x, x = dk[i + 1 + (c + 1)]! := ⟨_, rfl⟩
                obtain ⟨ed, hed⟩ : ∃ x, x = dk[i + 1 + c]! := ⟨_, rfl⟩
                have ra := (hE.out (i + 1 + (c + 1)) (by omega)).1
                have rb := (hE.out (i + 1 + c) (by omega)).1
                rw [← hec, show off + (i + 1 + (c + 1)) * 3 = off + (i + 1) * 3 + (c + 1) * 3 by omega] at ra
                rw [← hed, show off + (i + 1 + c) * 3 = off + (i + 1) * 3 + c * 3 by omega] at rb
                have RA : Hid (∀ W, Low wr.heap.size wr W → W.rangeAt blk (off + (i + 1) * 3 + (c + 1) * 3) ec.enc) := Lib.hid fun W h => range_below ra h.is
                have RB : Hid (∀ W, Low wr.heap.size wr W → W.rangeAt blk (off + (i + 1) * 3 + c * 3) ed.enc) := Lib.hid fun W h => range_below rb h.is
                obtain ⟨r, hr⟩ : ∃ r, r = ec.same ed := ⟨_, rfl⟩
                have HQ : Hid (∀ W, (Op.equalIn 10000 81 (.agg ec.enc.toArray) (.agg ed.enc.toArray)).run Tryz.prog W = .ok r W) := Lib.hid fun W => by rw [hr]; exact equal81 _ _ _ _ _ _ W
                have hv1 := hI.out.high (i + 1 + (c + 1)) (by omega)
                have hv2 := hI.out.high (i + 1 + c) (by omega)
                rw [← hec] at hv1
                rw [← hed] at hv2
                have KR : Hid (r = true ↔ d[i + 1 + (c + 1)]! = d[i + 1 + c]!) := Lib.hid (by rw [← hv1, ← hv2, hr]; exact VR.same_eq ec ed)
                have HV1 := Lib.hid hv1
                have hblk2 : blk < wr.heap.size := Nat.lt_of_lt_of_le hblk bo.size
                clear ra rb hec hed hr hv1 hv2
                have hlti2 : (c : Int) + 1 < (d.size - (i + 1) : Nat) := by omega
                have t5 : ((c : Int) + 1).toNat = c + 1 := by omega
                have t6 : ¬ (c : Int) + 1 < 0 := by omega
                have t7 : IntKind.i64.wrap (c : Int) = c := IntWalk.i64_in _ (by omega)
                have t8 : (c : Int) < (d.size - (i + 1) : Nat) := by omega
                go_upto_region 11 with fail
                refine wp_region_held_drew (S := fun W => Low wr.heap.size wr W) (by kernel_rfl) (Low.refl _ _).drew (fun hHeld => ?_)
                refine wpAnyH_take (i := 0) (v := .slice (some ⟨blk, off + (i + 1) * 3, none⟩) (d.size - (i + 1)) (cap - (i + 1))) rfl (by kernel_rfl) (by kernel_rfl) (by kernel_rfl) (fun _ _ _ h => h) (Or.inl ⟨by rfl, fun W _ => by go_simp⟩) hHeld ?_
                try simp only [putS]
                refine wpAnyH_take (i := 1) (v := .int .i64 ((c : Int) + 1)) rfl (by kernel_rfl) (by kernel_rfl) (by kernel_rfl) (fun _ _ _ h => h) (Or.inl ⟨by rfl, fun W _ => by go_simp⟩) hHeld ?_
                try simp only [putS]
                refine wpAnyH_take (i := 2) (v := .pointer (some ⟨blk, off + (i + 1) * 3 + (c + 1) * 3, none⟩)) rfl (by kernel_rfl) (by kernel_rfl) (by kernel_rfl) (fun _ _ _ h => h) (Or.inl ⟨by rfl, fun W _ => by go_simp⟩) hHeld ?_
                try simp only [putS]
                refine wpAnyH_take (i := 3) rfl (by kernel_rfl) (by kernel_rfl) (by kernel_rfl) (fun _ _ _ h => h) (yieldsIf_load_mid (by rfl) 81 (.tmp 37) rfl blk (off + (i + 1) * 3 + (c + 1) * 3) rfl ec.enc _ (fun w h => RA.out w h) Tryz.underlying81 rfl info81) hHeld ?_
                try simp only [putS]
                refine wpAnyH_take (i := 4) (v := .slice (some ⟨blk, off + (i + 1) * 3, none⟩) (d.size - (i + 1)) (cap - (i + 1))) rfl (by kernel_rfl) (by kernel_rfl) (by kernel_rfl) (fun _ _ _ h => h) (Or.inl ⟨by rfl, fun W _ => by go_simp⟩) hHeld ?_
                try simp only [putS]
                refine wpAnyH_take (i := 5) (v := .int .i64 ((c : Int) + 1)) rfl (by kernel_rfl) (by kernel_rfl) (by kernel_rfl) (fun _ _ _ h => h) (Or.inl ⟨by rfl, fun W _ => by go_simp⟩) hHeld ?_
                try simp only [putS]
                refine wpAnyH_take (i := 6) (v := .int .i64 c) rfl (by kernel_rfl) (by kernel_rfl) (by kernel_rfl) (fun _ _ _ h => h) (Or.inl ⟨by rfl, fun W _ => by go_simp⟩) hHeld ?_
                try simp only [putS]
                refine wpAnyH_take (i := 7) (v := .pointer (some ⟨blk, off + (i + 1) * 3 + c * 3, none⟩)) rfl (by kernel_rfl) (by kernel_rfl) (by kernel_rfl) (fun _ _ _ h => h) (Or.inl ⟨by rfl, fun W _ => by go_simp⟩) hHeld ?_
                try simp only [putS]
                refine wpAnyH_take (i := 8) rfl (by kernel_rfl) (by kernel_rfl) (by kernel_rfl) (fun _ _ _ h => h) (yieldsIf_load_mid (by rfl) 81 (.tmp 42) rfl blk (off + (i + 1) * 3 + c * 3) rfl ed.enc _ (fun w h => RB.out w h) Tryz.underlying81 rfl info81) hHeld ?_
                try simp only [putS]
                refine wpAnyH_take (i := 9) (v := .bool (!r)) rfl (by kernel_rfl) (by kernel_rfl) (by kernel_rfl) (fun _ _ _ h => h) (Or.inl ⟨by rfl, fun W _ => by have g81 := guard81N; have q81 := HQ.out W; go_simp⟩) hHeld ?_
                try simp only [putS]
                refine wpAnyH_done (by kernel_rfl) ?_ _
                cases r with
                | true =>
                  go_wp2_with fail
                  go_roundg (d.size - (i + 1 + (c + 1 + 1)))
                  case measure => omega
                  case rel => exact ⟨kk, c + 1, dk, rfl, by go_num, by omega, Nat.le_refl _, only_lowR bo hHeld, hds, Lib.hid (hE.out.low hblk2 hHeld), Lib.hid (hI.out.skip (Go.Lib.keeps_neg (by omega) (KR.out.1 (by first | rfl | trivial))))⟩
                | false =>
                  have E3 := hE.out.low hblk2 hHeld
                  have rc := RA.out _ hHeld
                  have hth := (E3 kk (by omega)).2
                  have E4 := E3.set VR.len3 kk (by omega) ec
                  have bo2 := (only_lowR bo hHeld).trans (only_setCells blk ec.enc (off + kk * 3) wr.drew)
                  have I4 := hI.out.keep hlt2 (Go.Lib.keeps_pos (fun h => absurd (KR.out.2 h) (by decide)))
                  rw [← HV1.out] at I4
                  have hkk3 : (kk : Int) < d.size := by omega
                  have HE4 := Lib.hid E4
                  have HI4 := Lib.hid I4
                  clear E4 I4 E3 hE hI bo HV1 KR RB HQ
                  generalize wr.drew = w3 at *
                  go_wp2_with (first
                    | ((with_reducible refine wpList_loadVR (.tmp 49) blk (off + (i + 1) * 3 + (c + 1) * 3) ec rc ?_ ?_ ?_ ?_); rfl; rfl; rfl)
                    | ((with_reducible refine wpList_storeVR (.tmp 51) (.tmp 50) blk (off + kk * 3) ec hth ?_ ?_ ?_ ?_ ?_); rfl; rfl; rfl; rfl; clear hth rc; generalize w3.setCells blk (off + kk * 3) ec.enc = w4 at *))
                  go_roundg (d.size - (i + 1 + (c + 1 + 1)))
                  case measure => omega
                  case rel => exact ⟨kk + 1, c + 1, dk.setIfInBounds kk ec, by go_num, by go_num, by omega, Nat.le_refl _, bo2, by simpa using hds, HE4, HI4⟩
              · have hend : i + 1 + (c + 1) = d.size := by omega
                have hnl : ¬ (c : Int) + 1 < (d.size - (i + 1) : Nat) := by omega
                have hth := hE.out.there (by decide) kk (by omega)
                rw [hds] at hth
                have hcl : ∀ ty, (Builtin.clear_ #[71] ty #[.slice (some ⟨blk, off + kk * 3, none⟩) (d.size - kk) (cap - kk)]).run Tryz.prog wr = .ok (.tuple #[]) (wr.setCells blk (off + kk * 3) (Builtin.zeroCells #[.int .i64 0, .int .i64 0, .int .i64 0] (d.size - kk)).toList) := fun ty =>
                  run_clear_row Tryz.prog wr 71 81 ty _ Tryz.underlying71 zero81 (by
                    intro v hv
                    simp only [Builtin.zeroCells, Array.toList_map, List.mem_map, Array.toList_range, List.mem_range] at hv
                    obtain ⟨q, _, rfl⟩ := hv
                    have hq : q % 3 < 3 := Nat.mod_lt _ (by decide)
                    show (#[Value.int .i64 0, .int .i64 0, .int .i64 0][q % 3]!).oneCell' = true
                    generalize q % 3 = z at hq
                    match z, hq with
                    | 0, _ | 1, _ | 2, _ => rfl) blk (off + kk * 3) (cap - kk) (by omega) hth
                have E4 := hE.out.tail VR.len3 kk (by omega) (Builtin.zeroCells #[.int .i64 0, .int .i64 0, .int .i64 0] (d.size - kk)).toList
                have bo2 := bo.trans (only_setCells blk (Builtin.zeroCells #[.int .i64 0, .int .i64 0, .int .i64 0] (d.size - kk)).toList (off + kk * 3) wr)
                have hsz2 : (dk.take kk).size = kk := by simp; omega
                have hres : (dk.take kk).toList = Go.Lib.compactUpTo d d.size := by
                  have hI' := hI.out
                  rw [hend] at hI'
                  refine List.ext_getElem (by simp [hI'.len]; omega) fun j h1 h2 => ?_
                  have hj : j < kk := by rw [← hI'.len]; exact h2
                  have := hI'.low j hj
                  rw [List.getElem?_eq_getElem h2] at this
                  rw [Option.some.inj this, Array.getElem_toList, getElem!_pos dk j (by omega)]
                  simp
                have HF := Lib.hid (And.intro hres E4)
                have hkc : kk ≤ cap := by omega
                have hkd : kk ≤ d.size := by omega
                have hkc3 : (kk : Int) ≤ cap := by omega
                have hkd3 : (kk : Int) ≤ d.size := by omega
                clear hres E4 hE hI hth bo
                generalize (Builtin.zeroCells #[.int .i64 0, .int .i64 0, .int .i64 0] (d.size - kk)).toList = zs at *
                go_wp2_with fail
                go_ret
                exact ⟨dk.take kk, by rw [hsz2]; rfl, HF.out.1, HF.out.2, bo2⟩
      · have hend : i + 1 = d.size := by omega
        have hn : ¬ (i : Int) + 1 < d.size := by omega
        go_wp2_with fail
        go_ret
        exact ⟨d, rfl, ALL.out fun j hj => hall.out j (by omega), HE.out.low hblk bw, Only.of_low bw⟩
end Go.Proofs.YtanbgdhmfjgihaaGreatDoor

/- A list of values copied: none of it lies where the old one lay. -/
namespace Go.Proofs.YtanbgdhmfjgihaaGreatDoor
open Go.RowKit

/-- What a round keeps. -/
structure Acc (w : World) (l : List Val) (A : Value) (wr : World) : Prop where
  own : ∃ xs, wr.ownsRow w.heap.size 39 6 A l.length xs ∧ CellsF wr (fun g => w.heap.size ≤ g ∧ g < wr.heap.size ∧ A.ownBlock ≠ some g) xs l
  bel : Below w.heap.size w wr
theorem own_below {w w' : World} {base : Nat} {e : TypeId} {size : Nat} {v : Value} {n : Nat} {xs : List Value} (h : w.ownsRow base e size v n xs) (b : Below w.heap.size w w') : w'.ownsRow base e size v n xs := by
  refine ⟨h.1, ?_⟩
  rcases h.2 with h0 | ⟨g, cap, cur, e1, h1, h2, h3⟩
  · exact .inl h0
  · exact .inr ⟨g, cap, cur, e1, h1, (b.block g (lt_of_heap h2)).trans h2, h3⟩
theorem info28b : (Tryz.prog.info? 39).map (fun i => (i.zero, i.size, i.bytes)) = some (some (.agg #[.int .i64 0, .bool false, .int .i64 0, .string ⟨#[]⟩, .string ⟨#[]⟩, .slice none 0 0]), 6, 80) := by kernel_rfl
theorem cell_six_new (w : World) (a b c d e f : Value) (t : TypeId) : ∀ j u, [a, b, c, d, e, f][j]? = some u → (w.alloc (.cells #[a, b, c, d, e, f] t)).cell? ((⟨w.heap.size, 0, none⟩ : Addr).add j) = some u := by
  intro j u hj
  rw [Addr.add_mid, Nat.zero_add]
  exact cell_of (heap_new w _ rfl) j (by simpa using hj)
end Go.Proofs.YtanbgdhmfjgihaaGreatDoor

/- The copies that the document's own text makes of values. -/
namespace Go.Proofs.YtanbgdhmfjgihaaGreatDoor
open Go.RowKit

end Go.Proofs.YtanbgdhmfjgihaaGreatDoor

/- Values whose lists lie apart from one another: each in blocks of its own. -/
namespace Go.Proofs.YtanbgdhmfjgihaaGreatDoor
open Go.RowKit

theorem range_heap {w w' : World} {g : Nat} (h : w'.heap[g]? = w.heap[g]?) {o : Nat} {cs : List Value} (r : w.rangeAt g o cs) : w'.rangeAt g o cs := fun j v hv => (World.cell?_of_block (a := ⟨g, o + j, none⟩) h).trans (r j v hv)
theorem there_heap {w w' : World} {g : Nat} (h : w'.heap[g]? = w.heap[g]?) {o n : Nat} (r : w.there g o n) : w'.there g o n := fun j hj =>
  ⟨by rw [World.cell?_of_block (a := ⟨g, o + j, none⟩) h]; exact (r j hj).1, by rw [World.frozen?_of_block (a := ⟨g, o + j, none⟩) h]; exact (r j hj).2⟩
mutual
/-- A value lies at off, and all lists in it in blocks from s to e. -/
def OneT (w : World) (g off s e : Nat) : Val → Prop
  | .mk k b n t x l => ∃ L, w.rangeAt g off [.int .i64 k, .bool b, .int .i64 n, .string t, .string x, L] ∧ w.there g off 6 ∧ Fine n t x l.length ∧ HeldT w s e L l
/-- A list, and all that lie in it, in blocks from lo to hi: no two in one. -/
def HeldT (w : World) (lo hi : Nat) (L : Value) : List Val → Prop
  | [] => ∃ p cap, L = .slice p 0 cap
  | v :: r => ∃ g off cap s e, L = .slice (some ⟨g, off, none⟩) (r.length + 1) cap ∧ lo ≤ g ∧ g < hi ∧ lo ≤ s ∧ s ≤ e ∧ e ≤ hi ∧ ¬ (s ≤ g ∧ g < e) ∧ OneT w g off s e v ∧ RestT w g (off + 6) e hi r
/-- Values one behind the other; the lists in them in blocks from lo to hi, in their order. -/
def RestT (w : World) (g off lo hi : Nat) : List Val → Prop
  | [] => True
  | v :: r => ∃ s e, lo ≤ s ∧ s ≤ e ∧ e ≤ hi ∧ ¬ (s ≤ g ∧ g < e) ∧ OneT w g off s e v ∧ RestT w g (off + 6) e hi r
end
mutual
theorem OneT.held {w : World} {g off s e : Nat} : (v : Val) → OneT w g off s e v → HoldsOne w g off v
  | .mk k b n t x l, h => by
    unfold OneT at h
    unfold HoldsOne
    obtain ⟨L, r, _, hf, hl⟩ := h
    exact ⟨r 0 _ rfl, r 1 _ rfl, r 2 _ rfl, r 3 _ rfl, r 4 _ rfl, hf, L, r 5 _ rfl, HeldT.held l hl⟩
theorem HeldT.held {w : World} {lo hi : Nat} {L : Value} : (l : List Val) → HeldT w lo hi L l → Held w L l
  | [], h => by
    unfold HeldT at h
    unfold Held
    exact h
  | v :: r, h => by
    unfold HeldT at h
    unfold Held
    obtain ⟨g, off, cap, s, e, rfl, _, _, _, _, _, _, hv, hr⟩ := h
    exact ⟨g, off, cap, rfl, OneT.held v hv, RestT.held r hr⟩
theorem RestT.held {w : World} {g off lo hi : Nat} : (l : List Val) → RestT w g off lo hi l → Holds w g off l
  | [], _ => by unfold Holds; trivial
  | v :: r, h => by
    unfold RestT at h
    unfold Holds
    obtain ⟨s, e, _, _, _, _, hv, hr⟩ := h
    exact ⟨OneT.held v hv, RestT.held r hr⟩
end
/-- What keeps the values of block g from off on. -/
structure Keep (w w' : World) (g off lo hi : Nat) : Prop where
  rng : ∀ o cs, off ≤ o → w.rangeAt g o cs → w'.rangeAt g o cs
  thr : ∀ o n, off ≤ o → w.there g o n → w'.there g o n
  blk : ∀ i, lo ≤ i → i < hi → i ≠ g → w'.heap[i]? = w.heap[i]?
theorem Keep.more {w w' : World} {g off lo hi off2 lo2 hi2 : Nat} (h : Keep w w' g off lo hi) (h1 : off ≤ off2) (h2 : lo ≤ lo2) (h3 : hi2 ≤ hi) : Keep w w' g off2 lo2 hi2 :=
  ⟨fun o cs ho => h.rng o cs (by omega), fun o n ho => h.thr o n (by omega), fun i a b c => h.blk i (by omega) (by omega) c⟩
theorem Keep.heap {w w' : World} {g off lo hi : Nat} (hg : w'.heap[g]? = w.heap[g]?) (h : ∀ i, lo ≤ i → i < hi → w'.heap[i]? = w.heap[i]?) : Keep w w' g off lo hi :=
  ⟨fun _ _ _ r => range_heap hg r, fun _ _ _ r => there_heap hg r, fun i a b _ => h i a b⟩
mutual
theorem OneT.keep {w w' : World} {g off s e : Nat} (h : Keep w w' g off s e) (hn : ¬ (s ≤ g ∧ g < e)) : (v : Val) → OneT w g off s e v → OneT w' g off s e v
  | .mk k b n t x l, hv => by
    unfold OneT at hv ⊢
    obtain ⟨L, r, th, hf, hl⟩ := hv
    exact ⟨L, h.rng _ _ (Nat.le_refl _) r, h.thr _ _ (Nat.le_refl _) th, hf, HeldT.stays (fun i a b => h.blk i a b (fun q => hn ⟨q ▸ a, q ▸ b⟩)) l hl⟩
theorem HeldT.stays {w w' : World} {lo hi : Nat} {L : Value} (h : ∀ i, lo ≤ i → i < hi → w'.heap[i]? = w.heap[i]?) : (l : List Val) → HeldT w lo hi L l → HeldT w' lo hi L l
  | [], hl => by
    unfold HeldT at hl ⊢
    exact hl
  | v :: r, hl => by
    unfold HeldT at hl ⊢
    obtain ⟨g, off, cap, s, e, rfl, h1, h2, h3, h4, h5, h6, hv, hr⟩ := hl
    have k : Keep w w' g off lo hi := Keep.heap (h g h1 h2) h
    exact ⟨g, off, cap, s, e, rfl, h1, h2, h3, h4, h5, h6, OneT.keep (k.more (Nat.le_refl _) h3 h5) h6 v hv, RestT.keep (k.more (by omega) (by omega) (Nat.le_refl _)) r hr⟩
theorem RestT.keep {w w' : World} {g off lo hi : Nat} (h : Keep w w' g off lo hi) : (l : List Val) → RestT w g off lo hi l → RestT w' g off lo hi l
  | [], _ => by unfold RestT; trivial
  | v :: r, hl => by
    unfold RestT at hl ⊢
    obtain ⟨s, e, h3, h4, h5, h6, hv, hr⟩ := hl
    exact ⟨s, e, h3, h4, h5, h6, OneT.keep (h.more (Nat.le_refl _) h3 h5) h6 v hv, RestT.keep (h.more (by omega) (by omega) (Nat.le_refl _)) r hr⟩
end
theorem RestT.high {w : World} {g : Nat} : (l : List Val) → (off lo hi hi2 : Nat) → hi ≤ hi2 → RestT w g off lo hi l → RestT w g off lo hi2 l
  | [], _, _, _, _, _, _ => by unfold RestT; trivial
  | v :: r, off, lo, hi, hi2, h, hl => by
    unfold RestT at hl ⊢
    obtain ⟨s, e, h3, h4, h5, h6, hv, hr⟩ := hl
    exact ⟨s, e, h3, h4, by omega, h6, hv, RestT.high r _ _ _ _ h hr⟩
theorem HeldT.mk {w : World} {lo hi : Nat} {g off cap : Nat} {l : List Val} (h1 : lo ≤ g) (h2 : g < hi) (h : RestT w g off lo hi l) : HeldT w lo hi (.slice (some ⟨g, off, none⟩) l.length cap) l := by
  cases l with
  | nil => unfold HeldT; exact ⟨_, _, rfl⟩
  | cons v r =>
    unfold RestT at h
    unfold HeldT
    obtain ⟨s, e, h3, h4, h5, h6, hv, hr⟩ := h
    exact ⟨g, off, cap, s, e, rfl, h1, h2, h3, h4, h5, h6, hv, hr⟩
/-- The cells of values, their lists apart from each other and from the block own. -/
def CellsT (w : World) (own : Option Nat) (lo hi : Nat) : List Value → List Val → Prop
  | xs, [] => xs = []
  | xs, .mk k b n t x q :: r => ∃ L ys s e, xs = .int .i64 k :: .bool b :: .int .i64 n :: .string t :: .string x :: L :: ys ∧ Fine n t x q.length ∧ lo ≤ s ∧ s ≤ e ∧ e ≤ hi ∧ (∀ g, own = some g → ¬ (s ≤ g ∧ g < e)) ∧ HeldT w s e L q ∧ CellsT w own e hi ys r
theorem CellsT.stays {w w' : World} {own : Option Nat} {hi : Nat} : (l : List Val) → (lo : Nat) → {xs : List Value} → (∀ i, lo ≤ i → i < hi → own ≠ some i → w'.heap[i]? = w.heap[i]?) → CellsT w own lo hi xs l → CellsT w' own lo hi xs l
  | [], _, _, _, h => by unfold CellsT at h ⊢; exact h
  | .mk k b n t x q :: l, lo, _, hs, h => by
    unfold CellsT at h ⊢
    obtain ⟨L, ys, s, e, rfl, hf, g1, g2, g3, g4, hq, hr⟩ := h
    exact ⟨L, ys, s, e, rfl, hf, g1, g2, g3, g4, hq.stays (fun i a b => hs i (by omega) (by omega) (fun o => g4 i o ⟨a, b⟩)) q, CellsT.stays l e (fun i a b => hs i (by omega) b) hr⟩
theorem CellsT.high {w : World} {own : Option Nat} {hi hi2 : Nat} (h2 : hi ≤ hi2) : (l : List Val) → (lo : Nat) → {xs : List Value} → CellsT w own lo hi xs l → CellsT w own lo hi2 xs l
  | [], _, _, h => by unfold CellsT at h ⊢; exact h
  | .mk k b n t x q :: l, lo, _, h => by
    unfold CellsT at h ⊢
    obtain ⟨L, ys, s, e, rfl, hf, g1, g2, g3, g4, hq, hr⟩ := h
    exact ⟨L, ys, s, e, rfl, hf, g1, g2, by omega, g4, hq, CellsT.high h2 l e hr⟩
theorem CellsT.rest {w : World} {g hi : Nat} : (l : List Val) → (off lo : Nat) → {xs : List Value} → CellsT w (some g) lo hi xs l → w.rangeAt g off xs → w.there g off (l.length * 6) → RestT w g off lo hi l
  | [], _, _, _, _, _, _ => by unfold RestT; trivial
  | .mk k b n t x q :: l, off, lo, _, h, hr, ht => by
    unfold CellsT at h
    obtain ⟨L, ys, s, e, rfl, hf, g1, g2, g3, g4, hq, hl⟩ := h
    unfold RestT
    refine ⟨s, e, g1, g2, g3, g4 g rfl, ?_, CellsT.rest l (off + 6) e hl (fun j v hv => ?_) (fun j hj => ?_)⟩
    · unfold OneT
      refine ⟨L, fun j v hv => hr j v ?_, fun j hj => ht j (by simp only [List.length_cons]; omega), hf, hq⟩
      match j, hv with
      | 0, hv => exact hv
      | 1, hv => exact hv
      | 2, hv => exact hv
      | 3, hv => exact hv
      | 4, hv => exact hv
      | 5, hv => exact hv
      | j + 6, hv => simp at hv
    · have := hr (j + 6) v hv
      rwa [show off + (j + 6) = off + 6 + j by omega] at this
    · have := ht (j + 6) (by simp only [List.length_cons]; omega)
      rwa [show off + (j + 6) = off + 6 + j by omega] at this
end Go.Proofs.YtanbgdhmfjgihaaGreatDoor

/- The copies that the document's own text makes: their lists lie apart. -/
namespace Go.Proofs.YtanbgdhmfjgihaaGreatDoor
open Go.RowKit

/-- What a round keeps. -/
structure AccT (w : World) (l : List Val) (A : Value) (wr : World) : Prop where
  own : ∃ xs hi, wr.ownsRow w.heap.size 39 6 A l.length xs ∧ CellsT wr A.ownBlock w.heap.size hi xs l ∧ w.heap.size ≤ hi ∧ hi ≤ wr.heap.size
  bel : Below w.heap.size w wr
end Go.Proofs.YtanbgdhmfjgihaaGreatDoor
