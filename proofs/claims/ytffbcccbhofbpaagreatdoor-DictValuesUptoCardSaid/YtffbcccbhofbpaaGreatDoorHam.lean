/- Texts of one kind, one behind the other: each says ahead of itself what it shows. -/
import Derived.Test.YtffbcccbhofbpaaGreatDoorHal
import Derived.BigGuardPart
import Derived.StillTailTactics
import Derived.Deep.RegionLaw
import Derived.Deep.AppendLies
import Derived.IntWalk
import Derived.Deep.DeepCutAuto
/- How the document reads a text: byte by byte, at most one point. No Go stands here. -/
namespace Go.Proofs.YtffbcccbhofbpaaGreatDoor

theorem cut_pre (x t : List UInt8) (h : x.all isDig = true) : Lib.cut (x ++ t) [46] = (x ++ (Lib.cut t [46]).1, (Lib.cut t [46]).2.1, (Lib.cut t [46]).2.2) := by
  induction x with
  | nil => rfl
  | cons c r ih =>
    rw [List.all_cons, Bool.and_eq_true] at h
    have hc : c ≠ 46 := fun e => by rw [e] at h; exact absurd h.1 (by decide)
    rw [List.cons_append, cut_step c _ hc, ih h.2]
    rfl
/-- What 'parsed' asks of a text without its sign. -/
def okP (r : List UInt8) : Bool := digs (Lib.cut r [46]).1 && (!(Lib.cut r [46]).2.2 || digs (Lib.cut r [46]).2.1)
theorem splitP_ok (l : List UInt8) : splitP l = if okP (sgn l).2 then some ((sgn l).1, (Lib.cut (sgn l).2 [46]).1, (Lib.cut (sgn l).2 [46]).2.1) else none := rfl

/-- The bytes that have been looked at: digits, the point among them or not. -/
def Seen (t : List UInt8) (p : Int) : Prop :=
  (p = -1 ∧ t.all isDig = true) ∨ ∃ x y, t = x ++ 46 :: y ∧ p = x.length ∧ x.all isDig = true ∧ y.all isDig = true
theorem Seen.start : Seen [] (-1) := .inl ⟨rfl, rfl⟩
theorem Seen.digit {t : List UInt8} {p : Int} {c : UInt8} (h : Seen t p) (hc : isDig c = true) : Seen (t ++ [c]) p := by
  rcases h with ⟨e, h⟩ | ⟨x, y, e, hp, hx, hy⟩
  · exact .inl ⟨e, by rw [List.all_append, h]; simp [hc]⟩
  · exact .inr ⟨x, y ++ [c], by rw [e]; simp, hp, hx, by rw [List.all_append, hy]; simp [hc]⟩
theorem Seen.point {t : List UInt8} {p : Int} (h : Seen t p) (hp : p < 0) : Seen (t ++ [46]) t.length := by
  rcases h with ⟨_, h⟩ | ⟨x, y, _, e, _⟩
  · exact .inr ⟨t, [], rfl, rfl, h, rfl⟩
  · omega
theorem Seen.bound {t : List UInt8} {p : Int} (h : Seen t p) : -1 ≤ p ∧ p < t.length ∨ p = -1 := by
  rcases h with ⟨e, _⟩ | ⟨x, y, e, hp, _⟩
  · exact .inr e
  · left; rw [e, hp]; simp; omega
theorem all_not {x : List UInt8} {c : UInt8} (hc : isDig c = false) (t : List UInt8) : digs (x ++ c :: t) = false := by
  unfold digs
  rw [List.all_append, List.all_cons, hc]
  simp
/-- A byte that is no digit, and no first point: the text has no form. -/
theorem Seen.bad {t u : List UInt8} {p : Int} {c : UInt8} (h : Seen t p) (hc : isDig c = false) (hp : c ≠ 46 ∨ 0 ≤ p) : okP (t ++ c :: u) = false := by
  unfold okP
  rcases h with ⟨e, h⟩ | ⟨x, y, e, hp', hx, hy⟩
  · have hn : c ≠ 46 := by rcases hp with k | k
                           · exact k
                           · omega
    rw [cut_pre t _ h, cut_step c u hn]
    simp only
    rw [all_not hc]
    rfl
  · rw [e, show x ++ 46 :: y ++ c :: u = x ++ 46 :: (y ++ c :: u) by simp, cut_dig x _ hx]
    simp only
    rw [all_not hc]
    simp
/-- At the end. -/
theorem Seen.all {t : List UInt8} {p : Int} (h : Seen t p) : okP t = decide (t.length ≠ 0 ∧ p ≠ 0 ∧ p ≠ (t.length : Int) - 1) := by
  unfold okP
  rcases h with ⟨e, h⟩ | ⟨x, y, e, hp', hx, hy⟩
  · have := cut_pre t [] h
    rw [List.append_nil, cut_nil, List.append_nil] at this
    rw [this, e]
    unfold digs
    cases t with
    | nil => rfl
    | cons c r => simp [h]
  · rw [e, cut_dig x y hx, hp']
    simp only
    unfold digs
    rw [hx, hy]
    cases x with
    | nil => simp
    | cons c r =>
      cases y with
      | nil => simp
      | cons d q => simp; omega
/-- The parts. -/
theorem Seen.parts {t : List UInt8} {p : Int} (h : Seen t p) : (t.filter (· != 46)) = (Lib.cut t [46]).1 ++ (Lib.cut t [46]).2.1 ∧ ((Lib.cut t [46]).2.1.length : Int) = if p < 0 then 0 else (t.length : Int) - 1 - p := by
  have keep : ∀ l : List UInt8, l.all isDig = true → l.filter (· != 46) = l := fun l hl => by
    rw [List.filter_eq_self]
    intro c hc
    have := List.all_eq_true.1 hl c hc
    simp only [bne_iff_ne, ne_eq]
    intro e; rw [e] at this; exact absurd this (by decide)
  rcases h with ⟨e, h⟩ | ⟨x, y, e, hp', hx, hy⟩
  · have := cut_pre t [] h
    rw [List.append_nil, cut_nil, List.append_nil] at this
    rw [this, e]
    simp [keep t h]
  · rw [e, cut_dig x y hx, hp']
    simp only [List.filter_append, keep x hx]
    rw [List.filter_cons_of_neg (by simp), keep y hy]
    refine ⟨rfl, ?_⟩
    rw [if_neg (by omega)]
    simp; omega

/-- A text's digits, the lowest first. -/
def revD (l : List UInt8) : List Nat := (l.map fun c => c.toNat - 48).reverse
theorem revD_cons (c : UInt8) (l : List UInt8) : revD (c :: l) = revD l ++ [c.toNat - 48] := by simp [revD]
theorem revD_len (l : List UInt8) : (revD l).length = l.length := by simp [revD]
theorem val10_rev (l : List UInt8) : val10 (revD l) = valD l := by
  induction l with
  | nil => rfl
  | cons c r ih =>
    have e := vT_app (revD r) (c.toNat - 48)
    rw [revD_cons]
    unfold val10
    rw [show (revD r ++ [c.toNat - 48]).length = (revD r).length + 1 by simp, e]
    show val10 (revD r) + _ = _
    rw [ih, revD_len]
    show _ = (c.toNat - 48) * 10 ^ r.length + valD r
    omega
theorem small_rev (l : List UInt8) (h : l.all isDig = true) : Small (revD l) := by
  induction l with
  | nil => intro j; simp [revD, dig]
  | cons c r ih =>
    rw [List.all_cons, Bool.and_eq_true] at h
    rw [revD_cons]
    exact small_app (ih h.2) (by have := (isDig_iff c).1 h.1; omega)
/-- What is parsed is what the text says, scaled by 10 ^ 54. -/
theorem num54_rev (a b : List UInt8) (hb : b.length ≤ 54) : num54 a b = val10 (revD (a ++ b)) * 10 ^ (54 - b.length) := by
  rw [val10_rev, valD_append, Nat.add_mul]
  unfold num54
  rw [Nat.mul_assoc, ← Nat.pow_add, show b.length + (54 - b.length) = 54 by omega]
end Go.Proofs.YtffbcccbhofbpaaGreatDoor

/- A number of the document's in a block; a text parsed, as far as its sign and its bytes. -/
namespace Go.Proofs.YtffbcccbhofbpaaGreatDoor
open Go.RowKit

theorem info44 : (Tryz.prog.info? 117).map (·.size) = some 3 := by kernel_rfl
/-- A number of the document's lies in block g. -/
def Rec (w : World) (g : Nat) (n : Bool) (v : Value) (sc : Int) : Prop := w.heap[g]? = some (.cells #[.bool n, v, .int .i64 sc] 117)
theorem Rec.lt {w : World} {g : Nat} {n : Bool} {v : Value} {sc : Int} (h : Rec w g n v sc) : g < w.heap.size := lt_of_heap h
theorem Rec.below {w w' : World} {g : Nat} {n : Bool} {v : Value} {sc : Int} (h : Rec w g n v sc) (k : Below w.heap.size w w') : Rec w' g n v sc := (k.block g (lt_of_heap h)).trans h
theorem Rec.only {w w' : World} {g b : Nat} {n : Bool} {v : Value} {sc : Int} (h : Rec w g n v sc) (k : Only b w w') (e : g ≠ b) : Rec w' g n v sc := (k.block g (lt_of_heap h) e).trans h
theorem Rec.alloc {w : World} {g : Nat} {n : Bool} {v : Value} {sc : Int} (h : Rec w g n v sc) (o : Obj) : Rec (w.alloc o) g n v sc := heap_old _ h
theorem Rec.c0 {w : World} {g : Nat} {n : Bool} {v : Value} {sc : Int} (h : Rec w g n v sc) : w.cell? ⟨g, 0, none⟩ = some (.bool n) := cell_of h _ rfl
theorem Rec.c1 {w : World} {g : Nat} {n : Bool} {v : Value} {sc : Int} (h : Rec w g n v sc) : w.cell? ⟨g, 1, none⟩ = some v := cell_of h _ rfl
theorem Rec.c2 {w : World} {g : Nat} {n : Bool} {v : Value} {sc : Int} (h : Rec w g n v sc) : w.cell? ⟨g, 2, none⟩ = some (.int .i64 sc) := cell_of h _ rfl
theorem Rec.set0 {w : World} {g : Nat} {n : Bool} {v : Value} {sc : Int} (h : Rec w g n v sc) (m : Bool) : Rec (w.setCell ⟨g, 0, none⟩ (.bool m)) g m v sc := heap_set h 0 _
theorem Rec.set1 {w : World} {g : Nat} {n : Bool} {v : Value} {sc : Int} (h : Rec w g n v sc) (u : Value) : Rec (w.setCell ⟨g, 1, none⟩ u) g n u sc := heap_set h 1 _
theorem Rec.set2 {w : World} {g : Nat} {n : Bool} {v : Value} {sc : Int} (h : Rec w g n v sc) (z : Int) : Rec (w.setCell ⟨g, 2, none⟩ (.int .i64 z)) g n v z := heap_set h 2 _

theorem wpList_load44 {ops : Array Oper} {rest : List Oper} {o : Oper} {a : Act} {w : World} {Q : Exit → Act → World → Prop} {n : Bool} {v : Value} {sc : Int} (x : Operand) (g : Nat) (hg : Rec w g n v sc)
    (hgd : o.guard = none) (ho : o.op = .load 117 x) (hx : a.eval x = .pointer (some ⟨g, 0, none⟩))
    (h : wpList Tryz.prog ops Q rest (a.put o.dst (.agg #[.bool n, v, .int .i64 sc])) w) : wpList Tryz.prog ops Q (o :: rest) a w :=
  wpList_load_row hgd 117 x ho g hx 117 _ (0, 0) _ hg Tryz.underlying117 rfl (by exact info44) h
theorem wpList_store44 {ops : Array Oper} {rest : List Oper} {o : Oper} {a : Act} {w : World} {Q : Exit → Act → World → Prop} {n m : Bool} {v u : Value} {sc sd : Int} (x y : Operand) (g : Nat) (hg : Rec w g n v sc) (h1 : u.oneCell' = true)
    (hgd : o.guard = none) (ho : o.op = .store 117 x y) (hx : a.eval x = .pointer (some ⟨g, 0, none⟩)) (hy : a.eval y = .agg #[.bool m, u, .int .i64 sd])
    (h : ∀ w', Only g w w' → Rec w' g m u sd → wpList Tryz.prog ops Q rest (a.put o.dst undef) w') : wpList Tryz.prog ops Q (o :: rest) a w :=
  wpList_plain hgd fun _ hK => by
    unfold Oper.wp execOp
    simp only [ho, hx, hy, Instr.storeAt, Instr.sureAddr, Sem.run_bind, Sem.run_pure, Result.andThen_ok, run_storeVar_row (P := Tryz.prog) w g 117 117 _ #[.bool m, u, .int .i64 sd] hg (by exact info44) rfl (by simp [h1]; exact ⟨rfl, rfl⟩)]
    exact hK _ _ (h _ (Only.setRow w _) (heap_setRow hg))
theorem results44 {fn : Func} {p q : Tmp} (h : fn.results = #[.cell p 117, .tmp q]) (tmps : Array Value) {w : World} {g : Nat} {n : Bool} {v : Value} {sc : Int} (x : Value)
    (hp : tmps.getD p undef = .pointer (some ⟨g, 0, none⟩)) (hq : tmps.getD q undef = x) (hg : Rec w g n v sc) : (results fn tmps).run Tryz.prog w = .ok (.tuple #[.agg #[.bool n, v, .int .i64 sc], x]) w := by
  have hp' : tmps[p]?.getD undef = .pointer (some ⟨g, 0, none⟩) := by simpa using hp
  have hq' : tmps[q]?.getD undef = x := by simpa using hq
  have hl := run_loadVar_row (P := Tryz.prog) w g 117 117 _ (0, 0) _ hg Tryz.underlying117 rfl (by exact info44)
  simp [results, h, hp', hq', asAddr, hl]
theorem results44one {fn : Func} {p : Tmp} (h : fn.results = #[.cell p 117]) (tmps : Array Value) {w : World} {g : Nat} {n : Bool} {v : Value} {sc : Int}
    (hp : tmps.getD p undef = .pointer (some ⟨g, 0, none⟩)) (hg : Rec w g n v sc) : (results fn tmps).run Tryz.prog w = .ok (.agg #[.bool n, v, .int .i64 sc]) w :=
  results_cell_row h tmps w g 117 _ (0, 0) _ hp hg Tryz.underlying117 rfl (by exact info44)
end Go.Proofs.YtffbcccbhofbpaaGreatDoor

/- A text parsed as the document does. -/
namespace Go.Proofs.YtffbcccbhofbpaaGreatDoor
open Go.RowKit

theorem heap_set_other {w : World} {b g : Nat} {x : Obj} (h : w.heap[g]? = some x) (o : Nat) (v : Value) (e : b ≠ g) : (w.setCell ⟨b, o, none⟩ v).heap[g]? = some x := by
  simp [World.setCell, Array.getElem?_modify, h]
  intro k; exact absurd k e
theorem Rec.other {w : World} {g b : Nat} {n : Bool} {v : Value} {sc : Int} (h : Rec w g n v sc) (o : Nat) (u : Value) (e : b ≠ g) : Rec (w.setCell ⟨b, o, none⟩ u) g n v sc := heap_set_other h o u e

theorem sgn_none {l : List UInt8} (h : ¬ ((l.headD 0).toNat = 45 ∨ (l.headD 0).toNat = 43)) : sgn l = (false, l) := by
  cases l with
  | nil => rfl
  | cons c r =>
    have h1 : c ≠ 45 := fun e => h (.inl (by rw [e]; rfl))
    have h2 : c ≠ 43 := fun e => h (.inr (by rw [e]; rfl))
    simp [sgn, h1, h2]
theorem sgn_minus {l : List UInt8} (h : (l.headD 0).toNat = 45) : sgn l = (true, l.drop 1) := by
  cases l with
  | nil => exact absurd h (by decide)
  | cons c r =>
    have h1 : c = 45 := UInt8.toNat_inj.1 h
    simp [sgn, h1]
theorem sgn_plus {l : List UInt8} (h : (l.headD 0).toNat = 43) : sgn l = (false, l.drop 1) := by
  cases l with
  | nil => exact absurd h (by decide)
  | cons c r =>
    have h1 : c = 43 := UInt8.toNat_inj.1 h
    simp [sgn, h1]
theorem extract_one (s : ByteArray) : s.extract 1 s.size = bs (s.data.toList.drop 1) := by
  apply bytes_ext
  rw [Lib.extract_to_end]
theorem bs_self (s : ByteArray) : bs s.data.toList = s := bytes_ext rfl
theorem digitR (c : UInt8) (d : Bool) (w : World) (h : Hid (d = isDig c)) : Calls Tryz.prog 68 #[.int .u8 c.toNat] w fun e w' => e = .returned (.bool d) ∧ w = w' :=
  (digitRefAt c.toNat w c.toNat_lt).mono fun _ _ ⟨h1, h2⟩ => ⟨by
    rw [h1, h.out]
    congr 2
    rw [Bool.eq_iff_iff, isDig_iff]
    simp
    omega, h2⟩

theorem Seen.mem {t : List UInt8} {p : Int} (h : Seen t p) (c : UInt8) (hc : c ∈ t) (hn : c ≠ 46) : isDig c = true := by
  rcases h with ⟨_, h⟩ | ⟨x, y, e, _, hx, hy⟩
  · exact List.all_eq_true.1 h c hc
  · rw [e, List.mem_append, List.mem_cons] at hc
    rcases hc with k | k | k
    · exact List.all_eq_true.1 hx c k
    · exact absurd k hn
    · exact List.all_eq_true.1 hy c k
theorem rec_grown {wr w1 : World} {v u : Value} {o : Obj} {g base e size n : Nat} {xs : List Value} {N : Bool} {sc : Int} (hgrow : ((wr.alloc o).drew).grownBy w1 v.ownBlock) (k1 : Rec wr g N u sc) (hown : wr.ownsRow base e size v n xs) (hg : g < base) : Rec w1 g N u sc :=
  (hgrow.block g (lt_of_heap (k1.alloc o)) (fun h => by have := (hown.lt _ h.symm).1; omega)).trans (k1.alloc o)
theorem below_grew {w wr w1 : World} {v : Value} {o : Obj} {B base e size n : Nat} {xs : List Value} (hgrow : ((wr.alloc o).drew).grownBy w1 v.ownBlock) (hb : Below B w wr) (hs : B ≤ wr.heap.size) (hown : wr.ownsRow base e size v n xs) (hg : B ≤ base) : Below B w w1 :=
  Below.grown ((hb.alloc hs o).drew) hgrow (by show B ≤ (wr.alloc o).heap.size; simp; omega) (fun k hk => by have := (hown.lt k hk).1; omega)
theorem owns_only {w w' : World} {base b e size n : Nat} {v : Value} {xs : List Value} (h : w.ownsRow base e size v n xs) (k : Only b w w') (hb : b < base) : w'.ownsRow base e size v n xs :=
  ⟨h.1, h.2.elim .inl fun ⟨g, cap, cur, e1, e2, e3, r⟩ => .inr ⟨g, cap, cur, e1, e2, (k.block g (lt_of_heap e3) (by omega)).trans e3, r⟩⟩
theorem digit46 (w : World) : Calls Tryz.prog 68 #[.int .u8 46] w fun e w' => e = .returned (.bool false) ∧ w = w' := digitRefAt 46 w (by omega)

set_option maxRecDepth 20000 in
set_option maxHeartbeats 3200000 in
theorem refParsed (s : ByteArray) (w : World) (hs : s.size ≤ 1000000000) :
    Calls Tryz.prog 61 #[.string s] w fun e w' => Below w.heap.size w w' ∧ (okP (sgn s.data.toList).2 = false → e = .returned (.tuple #[numR false (.slice none 0 0) 0, .bool false])) ∧
      (okP (sgn s.data.toList).2 = true → ∃ v, e = .returned (.tuple #[numR (sgn s.data.toList).1 v (Lib.cut (sgn s.data.toList).2 [46]).2.1.length, .bool true]) ∧ Ints w' v (revD ((Lib.cut (sgn s.data.toList).2 [46]).1 ++ (Lib.cut (sgn s.data.toList).2 [46]).2.1))) := by
  obtain ⟨r, hr⟩ : ∃ r, r = (sgn s.data.toList).2 := ⟨_, rfl⟩
  obtain ⟨R, hR⟩ : ∃ R : ByteArray, R = bs r := ⟨_, rfl⟩
  obtain ⟨N, hN⟩ : ∃ N : Bool, N = (sgn s.data.toList).1 := ⟨_, rfl⟩
  have hrl : r.length = R.size := by rw [hR]; exact Array.length_toList
  have hsz : R.size ≤ 1000000000 := by
    have h1 := sgn_len s.data.toList
    have h2 : s.data.toList.length = s.size := Array.length_toList
    rw [← hrl, hr]; omega
  rw [← hr, ← hN]
  obtain ⟨D, hD⟩ : ∃ D : Bool, D = decide ((s.data.toList.headD 0).toNat = 45 ∨ (s.data.toList.headD 0).toNat = 43) := ⟨_, rfl⟩
  have k0 : Rec ((w.alloc (.cells #[.bool false, .slice none 0 0, .int .i64 0] 117)).alloc (.cells #[.bool false, .slice none 0 0, .int .i64 0] 117)) w.heap.size false (.slice none 0 0) 0 := heap_old _ (heap_new _ _ rfl)
  have k1 : Rec ((w.alloc (.cells #[.bool false, .slice none 0 0, .int .i64 0] 117)).alloc (.cells #[.bool false, .slice none 0 0, .int .i64 0] 117)) (w.heap.size + 1) false (.slice none 0 0) 0 := heap_new _ _ (by simp)
  have hb0 : Below w.heap.size w ((w.alloc (.cells #[.bool false, .slice none 0 0, .int .i64 0] 117)).alloc (.cells #[.bool false, .slice none 0 0, .int .i64 0] 117)) := ((Below.refl _ _).alloc (Nat.le_refl _) _).alloc (by simp) _
  have K0 := Lib.hid k0
  have K1 := Lib.hid k1
  have HB := Lib.hid hb0
  have HR := Lib.hid hR
  have HL := Lib.hid hr
  have HZ := Lib.hid hrl
  have HN := Lib.hid hN
  have HD := Lib.hid hD
  clear k0 k1 hb0 hR hN hD hr hrl
  have HH : ∀ h : 0 < s.size, (s.data.toList.headD 0).toNat = s[0].toNat := fun h => by
    have hb := byte_at s 0 h
    have hh : ∀ (l : List UInt8) (k : 0 < l.length), (l.headD 0) = l[0] := fun l k => by
      cases l with
      | nil => simp at k
      | cons c r => rfl
    rw [hb, hh _ (by simpa using h)]

  have HF := Lib.hid HH
  clear HH
  go_enter Tryz.func61, Tryz.ntmps61
  go_upto_region 2 with fail
  go_cut [20] (fun s20 wx => s20 = .bool D ∧ wx = ((w.alloc (.cells #[.bool false, .slice none 0 0, .int .i64 0] 117)).alloc (.cells #[.bool false, .slice none 0 0, .int .i64 0] 117)))
  case first =>
    by_cases h0 : (s.size : Int) > 0
    · have h1 : 0 < s.size := by omega
      have hf := HF.out h1
      by_cases h45 : (s[0].toNat : Int) = 45
      · obtain rfl : D = true := by rw [HD.out, hf]; simp; omega
        clear hf
        go_wp2
        go_meet
        case rel => exact ⟨rfl, rfl⟩
      · by_cases h43 : (s[0].toNat : Int) = 43
        · obtain rfl : D = true := by rw [HD.out, hf]; simp; omega
          clear hf
          go_wp2
          go_meet
          case rel => exact ⟨rfl, rfl⟩
        · obtain rfl : D = false := by rw [HD.out, hf]; simp; omega
          clear hf
          go_wp2
          go_meet
          case rel => exact ⟨by simp; omega, rfl⟩
    · obtain rfl : D = false := by
        rw [HD.out]
        have : s.data.toList.length = s.size := Array.length_toList
        rw [List.length_eq_zero_iff.1 (by omega : s.data.toList.length = 0)]
        rfl
      go_wp2
      go_meet
      case rel => exact ⟨rfl, rfl⟩
  case rest =>
    obtain ⟨rfl, rfl⟩ := hcut
    go_upto_if 20 with fail
    go_cut [0] (fun s0 wx => s0 = .string R ∧ Rec wx w.heap.size false (.slice none 0 0) 0 ∧ Rec wx (w.heap.size + 1) N (.slice none 0 0) 0 ∧ Below w.heap.size w wx)
    case first =>
      cases D with
      | false =>
        have hd : ¬ ((s.data.toList.headD 0).toNat = 45 ∨ (s.data.toList.headD 0).toNat = 43) := of_decide_eq_false HD.out.symm
        have hg := sgn_none hd
        have e1 : R = s := by rw [HR.out, HL.out, hg]
        have e2 : N = false := by rw [HN.out, hg]
        clear hd hg
        go_wp2
        go_meet
        case rel => exact ⟨by rw [e1], K0.out, by rw [e2]; exact K1.out, HB.out⟩
      | true =>
        have hd : (s.data.toList.headD 0).toNat = 45 ∨ (s.data.toList.headD 0).toNat = 43 := of_decide_eq_true HD.out.symm
        have h1 : 0 < s.size := by
          rcases Nat.eq_zero_or_pos s.size with z | z
          · have hl : s.data.toList.length = s.size := Array.length_toList
            rw [z] at hl
            rw [List.length_eq_zero_iff.1 hl] at hd
            exact absurd hd (by decide)
          · exact z
        have hf := HF.out h1
        have h1i : (0 : Int) < s.size := by omega
        by_cases h45 : (s[0].toNat : Int) = 45
        · have hg := sgn_minus (l := s.data.toList) (by omega)
          have e1 : R = s.extract 1 s.size := by rw [HR.out, HL.out, hg, extract_one]
          have e2 : N = true := by rw [HN.out, hg]
          clear hd hf hg
          go_wp2
          go_meet
          case rel => exact ⟨by rw [e1], heap_old _ (heap_new _ _ rfl), by rw [e2]; exact heap_new _ _ (by simp), ((Below.refl _ _).alloc (Nat.le_refl _) _).alloc (by simp) _⟩
        · have hg := sgn_plus (l := s.data.toList) (by omega)
          have e1 : R = s.extract 1 s.size := by rw [HR.out, HL.out, hg, extract_one]
          have e2 : N = false := by rw [HN.out, hg]
          have e3 : ((s[0].toNat : Int) == 45) = false := by simp; omega
          clear hd hf hg
          go_wp2
          go_meet
          case rel => exact ⟨by rw [e1], heap_old _ (heap_new _ _ rfl), by rw [e2]; exact heap_new _ _ (by simp), ((Below.refl _ _).alloc (Nat.le_refl _) _).alloc (by simp) _⟩
    case rest =>
      clear K0 K1 HB HD HF
      obtain ⟨rfl, k0, k1, hb⟩ := hcut
      clear HN hs
      go_wp2_with fail
      go_loopg [5, 6] R.size (fun gg s5 s6 wr => ∃ (i : Nat) (p : Int), i + gg = R.size ∧ s5 = .int .i64 p ∧ s6 = .int .i64 i ∧ wr = wc ∧ (-1 ≤ p ∧ p < i) ∧ Hid (Seen (r.take i) p))
      case atStart => exact ⟨0, -1, by omega, rfl, rfl, rfl, by omega, Lib.hid Seen.start⟩
      case round =>
        obtain ⟨i, p, hi, rfl, rfl, rfl, hp, HS⟩ := hrel
        by_cases hlt : (i : Int) < R.size
        · have hlt' : i < R.size := by omega
          have hx8 : R[i].toNat < 256 := R[i].toNat_lt
          obtain ⟨c, hc⟩ : ∃ c, c = R[i] := ⟨_, rfl⟩
          have hsplit : r.take (i + 1) = r.take i ++ [c] ∧ r = r.take i ++ c :: r.drop (i + 1) := by
            have hil : i < r.length := by rw [HZ.out]; exact hlt'
            have e : c = r[i] := by
              rw [hc, byte_at R i hlt']
              have e2 : R.data.toList = r := by rw [HR.out]
              simp [e2]
            rw [e]
            exact ⟨List.take_succ_eq_append_getElem hil, by rw [← List.drop_eq_getElem_cons hil, List.take_append_drop]⟩
          have HC := Lib.hid hsplit
          clear hsplit
          by_cases h46 : (R[i].toNat : Int) = 46
          · by_cases hneg : p < 0
            · have c46 : c = 46 := by rw [hc]; exact UInt8.toNat_inj.1 (by show R[i].toNat = 46; omega)
              go_wp2_with fail
              go_roundg (gk - 1)
              case measure => omega
              case rel => exact ⟨i + 1, i, by omega, rfl, by go_num, rfl, by omega, Lib.hid (by rw [HC.out.1, c46]; have := HS.out.point hneg; rwa [List.length_take, Nat.min_eq_left (by rw [HZ.out]; omega)] at this)⟩
            · have c46 : c = 46 := by rw [hc]; exact UInt8.toNat_inj.1 (by show R[i].toNat = 46; omega)
              have hcd : isDig c = false := by rw [c46]; rfl
              have hbad : okP r = false := by rw [HC.out.2]; exact HS.out.bad hcd (.inr (by omega))
              have HBD := Lib.hid hbad
              have KD : Hid (false = isDig R[i]) := Lib.hid (by rw [← hc]; exact hcd.symm)
              clear hbad hcd hc HC HS
              go_wp2_with (first
                | (go_at_call 68; (with_reducible refine (digit46 _).mono ?_); rintro e w' ⟨rfl, rfl⟩)
                | (go_at_call 68; (with_reducible refine (digitR R[i] _ _ KD).mono ?_); rintro e w' ⟨rfl, rfl⟩)
                | ((with_reducible refine wpList_store44 (m := false) (u := .slice none 0 0) (sd := 0) (.tmp 2) (.tmp 47) w.heap.size k0 rfl ?_ ?_ ?_ ?_ ?_); rfl; rfl; rfl; rfl; intro w2 ho p1; have hb2 := below_only hb ho (Nat.le_refl _) (Nat.le_of_lt k0.lt)))
              exact bodyPost_ret (v := .tuple #[numR false (.slice none 0 0) 0, .bool false]) (results44 (p := 2) (q := 3) Tryz.results61 _ (.bool false) rfl rfl p1) rfl ⟨hb2, fun _ => rfl, fun h => by rw [HBD.out] at h; cases h⟩
          · have n46 : c ≠ 46 := fun e => h46 (by rw [← hc, e]; rfl)
            cases hcd : isDig c with
            | true =>
              have KD : Hid (true = isDig R[i]) := Lib.hid (by rw [← hc]; exact hcd.symm)
              have HS2 : Hid (Seen (r.take (i + 1)) p) := Lib.hid (by rw [HC.out.1]; exact HS.out.digit hcd)
              clear hcd hc HC HS
              go_wp2_with (go_at_call 68; (with_reducible refine (digitR R[i] _ _ KD).mono ?_); rintro e w' ⟨rfl, rfl⟩)
              go_roundg (gk - 1)
              case measure => omega
              case rel => exact ⟨i + 1, p, by omega, rfl, by go_num, rfl, by omega, HS2⟩
            | false =>
              have hbad : okP r = false := by rw [HC.out.2]; exact HS.out.bad hcd (.inl n46)
              have HBD := Lib.hid hbad
              have KD : Hid (false = isDig R[i]) := Lib.hid (by rw [← hc]; exact hcd.symm)
              clear hbad hcd hc HC HS
              go_wp2_with (first
                | (go_at_call 68; (with_reducible refine (digit46 _).mono ?_); rintro e w' ⟨rfl, rfl⟩)
                | (go_at_call 68; (with_reducible refine (digitR R[i] _ _ KD).mono ?_); rintro e w' ⟨rfl, rfl⟩)
                | ((with_reducible refine wpList_store44 (m := false) (u := .slice none 0 0) (sd := 0) (.tmp 2) (.tmp 47) w.heap.size k0 rfl ?_ ?_ ?_ ?_ ?_); rfl; rfl; rfl; rfl; intro w2 ho p1; have hb2 := below_only hb ho (Nat.le_refl _) (Nat.le_of_lt k0.lt)))
              exact bodyPost_ret (v := .tuple #[numR false (.slice none 0 0) 0, .bool false]) (results44 (p := 2) (q := 3) Tryz.results61 _ (.bool false) rfl rfl p1) rfl ⟨hb2, fun _ => rfl, fun h => by rw [HBD.out] at h; cases h⟩
        · obtain rfl : i = R.size := by omega
          have hlen := HZ.out
          have HSA : Hid (Seen r p) := Lib.hid (by have := HS.out; rwa [← hlen, List.take_length] at this)
          clear HS
          by_cases e0 : (R.size : Int) = 0
          · have hbad : okP r = false := by rw [HSA.out.all]; simp; omega
            have HBD := Lib.hid hbad
            clear hbad HSA
            go_wp2_with ((with_reducible refine wpList_store44 (m := false) (u := .slice none 0 0) (sd := 0) (.tmp 2) (.tmp 62) w.heap.size k0 rfl ?_ ?_ ?_ ?_ ?_); rfl; rfl; rfl; rfl; intro w2 ho p1; have hb2 := below_only hb ho (Nat.le_refl _) (Nat.le_of_lt k0.lt))
            exact bodyPost_ret (v := .tuple #[numR false (.slice none 0 0) 0, .bool false]) (results44 (p := 2) (q := 3) Tryz.results61 _ (.bool false) rfl rfl p1) rfl ⟨hb2, fun _ => rfl, fun h => by rw [HBD.out] at h; cases h⟩
          · by_cases e1 : p = 0
            · have hbad : okP r = false := by rw [HSA.out.all]; simp; omega
              have HBD := Lib.hid hbad
              clear hbad HSA
              go_wp2_with ((with_reducible refine wpList_store44 (m := false) (u := .slice none 0 0) (sd := 0) (.tmp 2) (.tmp 62) w.heap.size k0 rfl ?_ ?_ ?_ ?_ ?_); rfl; rfl; rfl; rfl; intro w2 ho p1; have hb2 := below_only hb ho (Nat.le_refl _) (Nat.le_of_lt k0.lt))
              exact bodyPost_ret (v := .tuple #[numR false (.slice none 0 0) 0, .bool false]) (results44 (p := 2) (q := 3) Tryz.results61 _ (.bool false) rfl rfl p1) rfl ⟨hb2, fun _ => rfl, fun h => by rw [HBD.out] at h; cases h⟩
            · by_cases e2 : p = (R.size : Int) - 1
              · have hbad : okP r = false := by rw [HSA.out.all]; simp; omega
                have HBD := Lib.hid hbad
                clear hbad HSA
                go_wp2_with ((with_reducible refine wpList_store44 (m := false) (u := .slice none 0 0) (sd := 0) (.tmp 2) (.tmp 62) w.heap.size k0 rfl ?_ ?_ ?_ ?_ ?_); rfl; rfl; rfl; rfl; intro w2 ho p1; have hb2 := below_only hb ho (Nat.le_refl _) (Nat.le_of_lt k0.lt))
                exact bodyPost_ret (v := .tuple #[numR false (.slice none 0 0) 0, .bool false]) (results44 (p := 2) (q := 3) Tryz.results61 _ (.bool false) rfl rfl p1) rfl ⟨hb2, fun _ => rfl, fun h => by rw [HBD.out] at h; cases h⟩
              · have hok : okP r = true := by rw [HSA.out.all]; exact decide_eq_true ⟨by omega, e1, by rw [hlen]; exact e2⟩
                have HP := Lib.hid (And.intro hok HSA.out.parts)
                obtain ⟨i0, hi0, hz0, hz1, hz2⟩ := info_parts info3
                have hpb : -1 ≤ p ∧ p < R.size := hp
                clear hok hp hlt hi
                have e2b : (p == (R.size : Int) - 1) = false := by simpa using e2
                go_wp2_with fail
                go_loopg [7] R.size (fun gg s7 wx => ∃ (i : Int) (v : Value) (zs : List Nat), i + 1 = gg ∧ i < R.size ∧ s7 = .int .i64 i ∧ Hid (zs = revD ((r.drop (i + 1).toNat).filter (· != 46))) ∧ wx.ownsRow (w.heap.size + 2) 3 1 v zs.length (cellsOfDigs zs) ∧ Rec wx w.heap.size false (.slice none 0 0) 0 ∧ Rec wx (w.heap.size + 1) N v 0 ∧ Below w.heap.size w wx ∧ zs.length ≤ 1000000000)
                case atStart => exact ⟨(R.size : Int) - 1, .slice none 0 0, [], by omega, by omega, rfl, Lib.hid (by rw [List.drop_eq_nil_of_le (by have := HZ.out; omega)]; rfl), World.ownsRow_nil _ _ _ _, k0, k1, hb, by simp⟩
                case round =>
                  clear k0 k1 hb
                  obtain ⟨i, v, zs, hi, hin, rfl, HD2, hown, k0, k1, hb, hzl⟩ := hrel
                  by_cases hge : i ≥ 0
                  · obtain ⟨k, rfl⟩ := Int.eq_ofNat_of_zero_le hge
                    have hk : k < R.size := by omega
                    have hkl : k < r.length := by rw [HZ.out]; exact hk
                    obtain ⟨c, hc⟩ : ∃ c, c = R[k] := ⟨_, rfl⟩
                    have hdrop : r.drop k = c :: r.drop (k + 1) := by
                      have e : c = r[k] := by
                        rw [hc, byte_at R k hk]
                        have e2 : R.data.toList = r := by rw [HR.out]
                        simp [e2]
                      rw [e]; exact List.drop_eq_getElem_cons hkl
                    have HDR := Lib.hid hdrop
                    clear hdrop hkl
                    by_cases h46 : (R[k].toNat : Int) = 46
                    · have c46 : c = 46 := by rw [hc]; exact UInt8.toNat_inj.1 (by show R[k].toNat = 46; omega)
                      go_wp2_with fail
                      go_roundg (gk - 1)
                      case measure => omega
                      case rel => exact ⟨(k : Int) - 1, v, zs, by omega, by omega, by go_num, Lib.hid (by
                        rw [HD2.out, show ((k : Int) - 1 + 1).toNat = k by omega, show ((k : Int) + 1).toNat = k + 1 by omega, HDR.out, c46]; rfl), hown, k0, k1, hb, hzl⟩
                    · have cN := k1.c1
                      have n46 : c ≠ 46 := fun e => h46 (by rw [← hc, e]; rfl)
                      have hcd : isDig c = true := HSA.out.mem c (by have := HDR.out; exact List.mem_of_mem_drop (i := k) (by rw [this]; exact List.mem_cons_self)) n46
                      obtain ⟨d, hd⟩ : ∃ d : Nat, d = c.toNat - 48 := ⟨_, rfl⟩
                      have hdg := (isDig_iff c).1 hcd
                      have hd1 : (R[k].toNat : Int) - 48 = d := by rw [← hc]; omega
                      have hd9 : d ≤ 9 := by omega
                      have hw1 : IntKind.u8.wrap (d : Int) = d := by unfold IntKind.wrap; simp [IntKind.bits, IntKind.signed]; omega
                      have hw2 : IntKind.i64.wrap (d : Int) = d := IntWalk.i64_in _ (by omega)
                      have hrev : zs ++ [d] = revD ((r.drop k).filter (· != 46)) := by
                        rw [HDR.out, List.filter_cons_of_pos (by simpa using n46), revD_cons, ← hd, HD2.out, show ((k : Int) + 1).toNat = k + 1 by omega]
                      have HRV := Lib.hid hrev
                      have hzb : (zs ++ [d]).length ≤ 1000000000 := by
                        rw [hrev, revD_len]
                        have h1 := List.length_filter_le (· != (46 : UInt8)) (r.drop k)
                        have h2 : (r.drop k).length = r.length - k := List.length_drop
                        have h3 := HZ.out
                        omega
                      have hszw : w.heap.size + 2 ≤ wr.heap.size := by have := k1.lt; omega
                      clear hrev hd hdg hcd n46 hc HDR HSA
                      have cN2 : (wr.alloc (.cells #[.int .i64 (d : Int)] 3)).cell? ⟨w.heap.size + 1, 1, none⟩ = some v := (k1.alloc _).c1
                      go_wp2_with fail
                      go_region_law (first
                        | (refine step_append_lies _ (by rfl) _ _ _ (by rfl) (w.heap.size + 2) 3 i0 _ 1 8 Tryz.underlying23 hi0 hz0 hz1 hz2 rfl (by omega) v zs.length (cellsOfDigs zs) (by rfl) ((hown.alloc _).drew)
                            ⟨wr.heap.size, 0, none⟩ 1 1 [.int .i64 (d : Int)] (by rfl) (by rfl) (World.news_of_block (cs := #[.int .i64 (d : Int)]) (t := 3) (fr := (0, 0)) (by exact heap_alloc_new wr _)) (by simp [Value.oneCell'])
                            (by omega) (by unfold maxLen; omega) (by omega) (by simp; omega) (wr.heap.size + 1) (by simp) ?_; intro gg cap w1 hown1 hgrow hat hlt
                           have q1 : Rec w1 (w.heap.size + 1) N v 0 := rec_grown hgrow k1 hown (by omega)
                           have q0 : Rec w1 w.heap.size false (.slice none 0 0) 0 := rec_grown hgrow k0 hown (by omega)
                           have hbq : Below w.heap.size w w1 := below_grew hgrow hb hb.size hown (by omega)
                           have qc := q1.c1
                           have qf : w1.frozen? ⟨w.heap.size + 1, 1, none⟩ = false := free_of q1 1))
                      all_goals
                        have own2 : (w1.setCell ⟨w.heap.size + 1, 1, none⟩ (.slice (some ⟨gg, 0, none⟩) (zs.length + 1) cap)).ownsRow (w.heap.size + 2) 3 1 (.slice (some ⟨gg, 0, none⟩) (zs.length + 1) cap) (zs ++ [d]).length (cellsOfDigs (zs ++ [d])) := by
                          rw [digs_app, List.length_append]
                          exact ownsRow_setCell_below hown1 (Nat.lt_succ_self _) _
                        have b2 := hbq.setCell (p := ⟨w.heap.size + 1, 1, none⟩) (Nat.le_succ _) (.slice (some ⟨gg, 0, none⟩) (zs.length + 1) cap)
                        have r1 := q1.set1 (.slice (some ⟨gg, 0, none⟩) (zs.length + 1) cap)
                        have r0 := q0.other 1 (.slice (some ⟨gg, 0, none⟩) (zs.length + 1) cap) (b := w.heap.size + 1) (by omega)
                        clear qc qf q1 q0 hown1 hgrow hat hlt cN cN2 hown
                        go_wp2_with fail
                        go_roundg (gk - 1)
                        case measure => omega
                        case rel => exact ⟨(k : Int) - 1, _, zs ++ [d], by omega, by omega, by go_num, Lib.hid (by rw [show ((k : Int) - 1 + 1).toNat = k by omega]; exact HRV.out), own2, r0, r1, b2, hzb⟩
                  · obtain rfl : i = -1 := by omega
                    have hzz : zs = revD ((Lib.cut r [46]).1 ++ (Lib.cut r [46]).2.1) := by
                      rw [HD2.out, ← HP.out.2.1]; rfl
                    have hvone : v.oneCell' = true := by
                      rcases hown.2 with ⟨e, _⟩ | ⟨g, cap, cur, e, _⟩ <;> rw [e] <;> rfl
                    have hsc0 := HP.out.2.2
                    have hlr := HZ.out
                    by_cases hp0 : p ≥ 0
                    · have hsc : ((Lib.cut r [46]).2.1.length : Int) = (R.size : Int) - 1 - p := by rw [hsc0, if_neg (by omega)]; omega
                      have c2 := k1.c2
                      have f2 : wr.frozen? ⟨w.heap.size + 1, 2, none⟩ = false := free_of k1 2
                      have k1b := k1.set2 ((R.size : Int) - 1 - p)
                      have k0b := k0.other 2 (.int .i64 ((R.size : Int) - 1 - p)) (b := w.heap.size + 1) (by omega)
                      have ownb := ownsRow_setCell_below hown (a := ⟨w.heap.size + 1, 2, none⟩) (Nat.lt_succ_self _) (.int .i64 ((R.size : Int) - 1 - p))
                      have hbb := hb.setCell (p := ⟨w.heap.size + 1, 2, none⟩) (Nat.le_succ _) (.int .i64 ((R.size : Int) - 1 - p))
                      clear hsc0
                      go_wp2_with (first
                        | ((with_reducible refine wpList_load44 (.tmp 4) (w.heap.size + 1) k1b ?_ ?_ ?_ ?_); rfl; rfl; rfl)
                        | ((with_reducible refine wpList_store44 (m := N) (u := v) (sd := (R.size : Int) - 1 - p) (.tmp 2) (.tmp 92) w.heap.size k0b hvone ?_ ?_ ?_ ?_ ?_); rfl; rfl; rfl; rfl; intro w2 ho p1; have hb2 := below_only hbb ho (Nat.le_refl _) (Nat.le_of_lt k0b.lt); have own2 := owns_only ownb ho (by omega)))
                      exact bodyPost_ret (v := .tuple #[numR N v (Lib.cut r [46]).2.1.length, .bool true]) (results44 (p := 2) (q := 3) Tryz.results61 _ (.bool true) rfl rfl (by rw [← hsc] at p1; exact p1)) rfl ⟨hb2, (fun h => by rw [HP.out.1] at h; cases h), fun _ => ⟨v, rfl, by rw [← hzz]; exact ints_of_owns own2 rfl⟩⟩
                    · have hsc : ((Lib.cut r [46]).2.1.length : Int) = 0 := by rw [hsc0, if_pos (by omega)]
                      have k0b := k0
                      clear hsc0
                      go_wp2_with (first
                        | ((with_reducible refine wpList_load44 (.tmp 4) (w.heap.size + 1) k1 ?_ ?_ ?_ ?_); rfl; rfl; rfl)
                        | ((with_reducible refine wpList_store44 (m := N) (u := v) (sd := 0) (.tmp 2) (.tmp 92) w.heap.size k0b hvone ?_ ?_ ?_ ?_ ?_); rfl; rfl; rfl; rfl; intro w2 ho p1; have hb2 := below_only hb ho (Nat.le_refl _) (Nat.le_of_lt k0b.lt); have own2 := owns_only hown ho (by omega)))
                      exact bodyPost_ret (v := .tuple #[numR N v (Lib.cut r [46]).2.1.length, .bool true]) (results44 (p := 2) (q := 3) Tryz.results61 _ (.bool true) rfl rfl (by rw [← hsc] at p1; exact p1)) rfl ⟨hb2, (fun h => by rw [HP.out.1] at h; cases h), fun _ => ⟨v, rfl, by rw [← hzz]; exact ints_of_owns own2 rfl⟩⟩
end Go.Proofs.YtffbcccbhofbpaaGreatDoor
