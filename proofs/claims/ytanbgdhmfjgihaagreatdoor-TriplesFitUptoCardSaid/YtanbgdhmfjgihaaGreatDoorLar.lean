/- Texts of one kind, one behind the other: each says ahead of itself what it shows. -/
import Derived.Test.YtanbgdhmfjgihaaGreatDoorLaq
import Derived.Shelf.SlSortCmp.WholeK
import Derived.Test.YtanbgdhmfjgihaaGreatDoorLam
import Derived.Lib.SlicesCompact
import Derived.Lib.SliceRun
/- Seek, Open, Key, by what the store says. -/
namespace Go.Proofs.YtanbgdhmfjgihaaGreatDoor
open Go.RowKit

set_option maxHeartbeats 1600000 in
set_option maxRecDepth 20000 in
theorem seekRaw (g : Nat) (u : V6) (w : World) (r : Bool) (Q : World → Prop)
    (hc : ∀ W, Low w.heap.size w W → Calls Tryz.prog 58 #[.pointer (some ⟨g, 0, none⟩), .func (.func 61) #[.agg #[.pointer (some ⟨g, 0, none⟩), .int .i64 u.k, .bool u.b, .int .i64 u.n, .string u.t, .string u.x, .slice u.p u.len u.cap]] #[]] W fun e w' => e = .returned (.bool r) ∧ Q w') :
    Calls Tryz.prog 28 #[.pointer (some ⟨g, 0, none⟩), .agg #[.int .i64 u.k, .bool u.b, .int .i64 u.n, .string u.t, .string u.x, .slice u.p u.len u.cap]] w fun e w' => e = .returned (.bool r) ∧ Q w' := by
  obtain ⟨W1, hW1⟩ : ∃ W1, W1 = w.alloc (.cells #[.int .i64 u.k, .bool u.b, .int .i64 u.n, .string u.t, .string u.x, .slice u.p u.len u.cap] 39) := ⟨_, rfl⟩
  have S1 : Six W1 w.heap.size u.k u.b u.n u.t u.x u.p u.len u.cap := by rw [hW1]; exact six_new _ rfl
  have b0 : Low w.heap.size w W1 := by rw [hW1]; exact low1 _ _
  have HW := Lib.hid hW1
  clear hW1
  go_enter Tryz.func28, Tryz.ntmps28
  go_upto_region 1 with fail
  rw [← HW.out]
  go_wp2_with (first
    | ((with_reducible refine wpList_load6 (.tmp 3) w.heap.size S1 ?_ ?_ ?_ ?_); rfl; rfl; rfl)
    | (go_at_call 58; (with_reducible refine (hc _ b0).mono ?_); rintro e w3 ⟨rfl, hb3⟩))
  go_ret
  exact ⟨rfl, hb3⟩
section
variable {W0 W : World} {s : SM} {g k : Nat} {c : CS}
theorem seekC (h : Stand W0 s W g c k) (hG : Gd W) (hT : Tab W) (u : V6) (uv : Val) (q : List Val) (hu : Is W u uv q) :
    Calls Tryz.prog 28 #[.pointer (some ⟨g, 0, none⟩), .agg #[.int .i64 u.k, .bool u.b, .int .i64 u.n, .string u.t, .string u.x, .slice u.p u.len u.cap]] W fun e w' => e = .returned (.bool (c.seek s k uv).on) ∧ Only g W w' ∧ Cur w' g (c.seek s k uv) := by
  refine seekRaw g u W _ _ (fun W' b => ?_)
  have h' := h.low b
  cases q1 : c.on with
  | false =>
    have e : c.seek s k uv = c := by unfold CS.seek; rw [if_neg (by rw [q1]; exact Bool.false_ne_true)]
    rw [e, q1]
    exact (passNo (h'.off q1 W' (Low.refl _ _))).mono fun e w' hh => ⟨hh.1, Only.of_low (low_any b hh.2 b.size), h'.at_.B.low hh.2⟩
  | true =>
    have e : c.seek s k uv = c.go (c.ahead s k uv) := by unfold CS.seek; rw [if_pos q1]
    rw [e]
    obtain ⟨h1, hpf⟩ := CS.on_is q1
    have hin := h.fit.in_ h1
    exact (passC h' q1 61 _ eg61 (s.less uv k c.lev) (h.fit.less_mono h.ok h.so h.hk h1 uv) (fun W2 b2 j hj hj2 => aheadC (h'.at_.low b2) h.ok (hG.below (low_any b b2 b.size).is) (hT.below (low_any b b2 b.size).is) h1 h.fit.d3 u uv q (hu.below (low_any b b2 b.size).is) j (by omega))).mono
      fun e w' hh => ⟨hh.1, (Only.of_low b).trans hh.2.1, hh.2.2⟩
theorem Stand.below (h : Stand W0 s W g c k) : Calls Tryz.prog 55 #[.pointer (some ⟨g, 0, none⟩)] W fun e w' => e = .returned (.agg #[.int .i64 c.lo, .int .i64 (c.hi s k)]) ∧ Low W.heap.size W w' := by
  by_cases h0 : c.d = 0
  · unfold CS.lo CS.hi
    rw [if_pos h0, if_pos h0]
    exact belowTop h.at_.B h0
  · unfold CS.lo CS.hi
    rw [if_neg h0, if_neg h0]
    exact belowC h.at_ h.ok (by omega) h.fit.d3 (h.fit.in_ (by omega)).2 (h.fit.same_mono h.so h.hk (by omega))
theorem openC (h : Stand W0 s W g c k) : Calls Tryz.prog 22 #[.pointer (some ⟨g, 0, none⟩)] W fun e w' => e = .returned (.bool (c.opens s k)) ∧ Only g W w' ∧ Cur w' g (c.opn s k) := by
  have hd := h.fit.d3
  have B := h.at_.B
  by_cases e3 : c.d = 3
  · have e : c.opens s k = false := by unfold CS.opens; rw [decide_eq_false (by omega), Bool.false_and]
    have e2 : c.opn s k = c := by unfold CS.opn; rw [if_neg (by rw [e]; exact Bool.false_ne_true)]
    rw [e, e2]
    have c11 := B.c11
    rw [e3] at c11
    exact (openFull g W c11).mono fun e w' hh => ⟨hh.1, Only.of_low hh.2, B.low hh.2⟩
  · by_cases hlt : c.lo < c.hi s k
    · have e : c.opens s k = true := by unfold CS.opens; rw [decide_eq_true (by omega), decide_eq_true hlt]; rfl
      have e2 : c.opn s k = c.down c.lo (c.hi s k) := by unfold CS.opn; rw [if_pos e]
      rw [e, e2]
      have hb := h.below
      generalize c.hi s k = hi at *
      generalize hlo : c.lo = lo at *
      clear h hlo
      obtain ⟨sp, pl, n, cl, l0, l1, l2, a0, e0, a1, e1, a2, e2, d⟩ := c
      simp only at hd e3
      obtain rfl | rfl | rfl : d = 0 ∨ d = 1 ∨ d = 2 := by omega
      · exact openGo0 g lo hi _ _ W hlt B rfl ⟨_, rfl⟩ ⟨_, rfl⟩ rfl rfl hb
      · exact openGo1 g lo hi _ _ W hlt B rfl ⟨_, rfl⟩ ⟨_, rfl⟩ rfl rfl hb
      · exact openGo2 g lo hi _ _ W hlt B rfl ⟨_, rfl⟩ ⟨_, rfl⟩ rfl rfl hb
    · have e : c.opens s k = false := by unfold CS.opens; rw [decide_eq_false hlt, Bool.and_false]
      have e2 : c.opn s k = c := by unfold CS.opn; rw [if_neg (by rw [e]; exact Bool.false_ne_true)]
      rw [e, e2]
      exact (openNo g c.lo (c.hi s k) c.d W hlt B.c11 (by simp; omega) h.below).mono fun e w' hh => ⟨hh.1, Only.of_low hh.2, B.low hh.2⟩
/-- The value at which a cursor stands. -/
def CS.val (c : CS) (s : SM) (k : Nat) : Val := (s.vs[s.num k c.lev c.pos]?).getD (.mk 0 false 0 ⟨#[]⟩ ⟨#[]⟩ [])
theorem keyC (h : Stand W0 s W g c k) (q : c.on = true) : Calls Tryz.prog 30 #[.pointer (some ⟨g, 0, none⟩)] W fun e w' =>
    (∃ kk b n t x l, c.val s k = .mk kk b n t x l ∧ Fine n t x l.length ∧ e = .returned (.tuple #[.agg #[.int .i64 kk, .bool b, .int .i64 n, .string t, .string x, .slice none 0 0], .bool true])) ∧ Below W.heap.size W w' := by
  obtain ⟨h1, hpf⟩ := CS.on_is q
  have hin := h.fit.in_ h1
  have hn := h.fit.n
  have hm := s.num_lt h.ok k c.lev c.pos (by omega)
  obtain ⟨v, l, i1, hv⟩ := valueC h.at_ h.ok h1 h.fit.d3 c.pos (by omega)
  have hval : c.val s k = s.vs[s.num k c.lev c.pos] := by unfold CS.val; rw [List.getElem?_eq_getElem hm, Option.getD_some]
  have hz : (W.alloc (.cells #[.int .i64 0, .bool false, .int .i64 0, .string ⟨#[]⟩, .string ⟨#[]⟩, .slice none 0 0] 39)).heap.size = W.heap.size + 1 := by simp
  have h62 := h.onC q _ (low1 W (.cells #[.int .i64 0, .bool false, .int .i64 0, .string ⟨#[]⟩, .string ⟨#[]⟩, .slice none 0 0] 39))
  rw [hz] at h62
  refine (keyGo g c.pos c.fin v W (by have := i1.hf.ht; omega) (by have := i1.hf.hx; omega) h62 (fun W' b => hereC (h.at_.low b) h1 h.fit.d3) (fun W' b => hv W' b)).mono ?_
  rintro e w' ⟨rfl, hb⟩
  exact ⟨⟨v.k, v.b, v.n, v.t, v.x, l, by rw [hval]; exact i1.e, i1.hf, rfl⟩, hb⟩
end
end Go.Proofs.YtanbgdhmfjgihaaGreatDoor

/- Values and rows sorted by the library's slices.SortFunc: its contract laid at this seat, what it asks of the comparison paid. -/
namespace Go.Proofs
open Go.Shelf
def Tryz.sortV_ren : Go.Shelf.Ren := ⟨fun | 6 => 73 | 15 => 101 | 14 => 100 | 28 => 134 | 29 => 135 | 20 => 126 | 21 => 127 | 22 => 128 | 23 => 129 | 24 => 130 | 25 => 131 | 26 => 132 | 27 => 133 | 46 => 160 | 47 => 161 | 48 => 162 | 49 => 163 | 50 => 164 | 57 => 180 | n => n, fun | 22 => 37 | 24 => 39 | 25 => 112 | 3 => 3 | 39 => 139 | 0 => 0 | 53 => 174 | 55 => 176 | 4 => 4 | 46 => 168 | 45 => 167 | 50 => 87 | 5 => 5 | 9 => 9 | 66 => 193 | 70 => 197 | 76 => 209 | 77 => 210 | n => n, fun | n => n⟩
theorem Tryz.sortV : Go.Proofs.SlLaysF0.n6 Tryz.prog Tryz.sortV_ren := {
  mixed := by kernel_rfl
  f6 := ⟨Tryz.f73.name, by decide, Tryz.func73.trans (congrArg some (by kernel_rfl))⟩
  f14 := ⟨Tryz.f100.name, by decide, Tryz.func100.trans (congrArg some (by kernel_rfl))⟩
  f15 := Tryz.func101.trans (congrArg some (by kernel_rfl))
  f20 := ⟨Tryz.f126.name, by decide, Tryz.func126.trans (congrArg some (by kernel_rfl))⟩
  f21 := ⟨Tryz.f127.name, by decide, Tryz.func127.trans (congrArg some (by kernel_rfl))⟩
  f22 := ⟨Tryz.f128.name, by decide, Tryz.func128.trans (congrArg some (by kernel_rfl))⟩
  f23 := ⟨Tryz.f129.name, by decide, Tryz.func129.trans (congrArg some (by kernel_rfl))⟩
  f24 := ⟨Tryz.f130.name, by decide, Tryz.func130.trans (congrArg some (by kernel_rfl))⟩
  f25 := ⟨Tryz.f131.name, by decide, Tryz.func131.trans (congrArg some (by kernel_rfl))⟩
  f26 := ⟨Tryz.f132.name, by decide, Tryz.func132.trans (congrArg some (by kernel_rfl))⟩
  f27 := ⟨Tryz.f133.name, by decide, Tryz.func133.trans (congrArg some (by kernel_rfl))⟩
  f28 := Tryz.func134.trans (congrArg some (by kernel_rfl))
  f29 := Tryz.func135.trans (congrArg some (by kernel_rfl))
  f46 := ⟨Tryz.f160.name, by decide, Tryz.func160.trans (congrArg some (by kernel_rfl))⟩
  f47 := Tryz.func161.trans (congrArg some (by kernel_rfl))
  f48 := Tryz.func162.trans (congrArg some (by kernel_rfl))
  f49 := ⟨Tryz.f163.name, by decide, Tryz.func163.trans (congrArg some (by kernel_rfl))⟩
  f50 := ⟨Tryz.f164.name, by decide, Tryz.func164.trans (congrArg some (by kernel_rfl))⟩
  f57 := ⟨Tryz.f180.name, by decide, Tryz.func180.trans (congrArg some (by kernel_rfl))⟩
  t0 := Tryz.underlying0
  a0 := Tryz.isAgg0
  z0 := Tryz.sizeOf0
  v0 := Tryz.zeroValue0
  t3 := Tryz.underlying3
  a3 := Tryz.isAgg3
  z3 := Tryz.sizeOf3
  v3 := Tryz.zeroValue3
  t4 := Tryz.underlying4
  a4 := Tryz.isAgg4
  z4 := Tryz.sizeOf4
  v4 := Tryz.zeroValue4
  t5 := Tryz.underlying5
  a5 := Tryz.isAgg5
  z5 := Tryz.sizeOf5
  v5 := Tryz.zeroValue5
  t9 := Tryz.underlying9
  a9 := Tryz.isAgg9
  z9 := Tryz.sizeOf9
  v9 := Tryz.zeroValue9
  t22 := Tryz.underlying37
  a22 := Tryz.isAgg37
  z22 := Tryz.sizeOf37
  v22 := Tryz.zeroValue37
  t25 := Tryz.underlying112
  a25 := Tryz.isAgg112
  z25 := Tryz.sizeOf112
  v25 := Tryz.zeroValue112
  t39 := Tryz.underlying139
  a39 := Tryz.isAgg139
  z39 := Tryz.sizeOf139
  v39 := Tryz.zeroValue139
  t45 := Tryz.underlying167
  a45 := Tryz.isAgg167
  z45 := Tryz.sizeOf167
  v45 := Tryz.zeroValue167
  t46 := Tryz.underlying168
  a46 := Tryz.isAgg168
  z46 := Tryz.sizeOf168
  v46 := Tryz.zeroValue168
  t50 := Tryz.underlying87
  a50 := Tryz.isAgg87
  z50 := Tryz.sizeOf87
  v50 := Tryz.zeroValue87
  t53 := Tryz.underlying174
  a53 := Tryz.isAgg174
  z53 := Tryz.sizeOf174
  v53 := Tryz.zeroValue174
  t55 := Tryz.underlying176
  a55 := Tryz.isAgg176
  z55 := Tryz.sizeOf176
  v55 := Tryz.zeroValue176
  t66 := Tryz.underlying193
  a66 := Tryz.isAgg193
  z66 := Tryz.sizeOf193
  v66 := Tryz.zeroValue193
  t70 := Tryz.underlying197
  a70 := Tryz.isAgg197
  z70 := Tryz.sizeOf197
  v70 := Tryz.zeroValue197
  t76 := Tryz.underlying209
  a76 := Tryz.isAgg209
  z76 := Tryz.sizeOf209
  v76 := Tryz.zeroValue209
  t77 := Tryz.underlying210
  a77 := Tryz.isAgg210
  z77 := Tryz.sizeOf210
  v77 := Tryz.zeroValue210 }
def Tryz.sortR_ren : Go.Shelf.Ren := ⟨fun | 6 => 79 | 15 => 101 | 14 => 104 | 28 => 134 | 29 => 135 | 20 => 138 | 21 => 139 | 22 => 140 | 23 => 141 | 24 => 142 | 25 => 143 | 26 => 144 | 27 => 145 | 46 => 172 | 47 => 161 | 48 => 162 | 49 => 173 | 50 => 174 | 57 => 185 | n => n, fun | 22 => 71 | 24 => 81 | 25 => 118 | 3 => 3 | 39 => 139 | 0 => 0 | 53 => 174 | 55 => 176 | 4 => 4 | 46 => 168 | 45 => 167 | 50 => 87 | 5 => 5 | 9 => 9 | 66 => 193 | 70 => 197 | 76 => 209 | 77 => 210 | n => n, fun | n => n⟩
theorem Tryz.sortR : Go.Proofs.SlLaysF0.n6 Tryz.prog Tryz.sortR_ren := {
  mixed := by kernel_rfl
  f6 := ⟨Tryz.f79.name, by decide, Tryz.func79.trans (congrArg some (by kernel_rfl))⟩
  f14 := ⟨Tryz.f104.name, by decide, Tryz.func104.trans (congrArg some (by kernel_rfl))⟩
  f15 := Tryz.func101.trans (congrArg some (by kernel_rfl))
  f20 := ⟨Tryz.f138.name, by decide, Tryz.func138.trans (congrArg some (by kernel_rfl))⟩
  f21 := ⟨Tryz.f139.name, by decide, Tryz.func139.trans (congrArg some (by kernel_rfl))⟩
  f22 := ⟨Tryz.f140.name, by decide, Tryz.func140.trans (congrArg some (by kernel_rfl))⟩
  f23 := ⟨Tryz.f141.name, by decide, Tryz.func141.trans (congrArg some (by kernel_rfl))⟩
  f24 := ⟨Tryz.f142.name, by decide, Tryz.func142.trans (congrArg some (by kernel_rfl))⟩
  f25 := ⟨Tryz.f143.name, by decide, Tryz.func143.trans (congrArg some (by kernel_rfl))⟩
  f26 := ⟨Tryz.f144.name, by decide, Tryz.func144.trans (congrArg some (by kernel_rfl))⟩
  f27 := ⟨Tryz.f145.name, by decide, Tryz.func145.trans (congrArg some (by kernel_rfl))⟩
  f28 := Tryz.func134.trans (congrArg some (by kernel_rfl))
  f29 := Tryz.func135.trans (congrArg some (by kernel_rfl))
  f46 := ⟨Tryz.f172.name, by decide, Tryz.func172.trans (congrArg some (by kernel_rfl))⟩
  f47 := Tryz.func161.trans (congrArg some (by kernel_rfl))
  f48 := Tryz.func162.trans (congrArg some (by kernel_rfl))
  f49 := ⟨Tryz.f173.name, by decide, Tryz.func173.trans (congrArg some (by kernel_rfl))⟩
  f50 := ⟨Tryz.f174.name, by decide, Tryz.func174.trans (congrArg some (by kernel_rfl))⟩
  f57 := ⟨Tryz.f185.name, by decide, Tryz.func185.trans (congrArg some (by kernel_rfl))⟩
  t0 := Tryz.underlying0
  a0 := Tryz.isAgg0
  z0 := Tryz.sizeOf0
  v0 := Tryz.zeroValue0
  t3 := Tryz.underlying3
  a3 := Tryz.isAgg3
  z3 := Tryz.sizeOf3
  v3 := Tryz.zeroValue3
  t4 := Tryz.underlying4
  a4 := Tryz.isAgg4
  z4 := Tryz.sizeOf4
  v4 := Tryz.zeroValue4
  t5 := Tryz.underlying5
  a5 := Tryz.isAgg5
  z5 := Tryz.sizeOf5
  v5 := Tryz.zeroValue5
  t9 := Tryz.underlying9
  a9 := Tryz.isAgg9
  z9 := Tryz.sizeOf9
  v9 := Tryz.zeroValue9
  t22 := Tryz.underlying71
  a22 := Tryz.isAgg71
  z22 := Tryz.sizeOf71
  v22 := Tryz.zeroValue71
  t25 := Tryz.underlying118
  a25 := Tryz.isAgg118
  z25 := Tryz.sizeOf118
  v25 := Tryz.zeroValue118
  t39 := Tryz.underlying139
  a39 := Tryz.isAgg139
  z39 := Tryz.sizeOf139
  v39 := Tryz.zeroValue139
  t45 := Tryz.underlying167
  a45 := Tryz.isAgg167
  z45 := Tryz.sizeOf167
  v45 := Tryz.zeroValue167
  t46 := Tryz.underlying168
  a46 := Tryz.isAgg168
  z46 := Tryz.sizeOf168
  v46 := Tryz.zeroValue168
  t50 := Tryz.underlying87
  a50 := Tryz.isAgg87
  z50 := Tryz.sizeOf87
  v50 := Tryz.zeroValue87
  t53 := Tryz.underlying174
  a53 := Tryz.isAgg174
  z53 := Tryz.sizeOf174
  v53 := Tryz.zeroValue174
  t55 := Tryz.underlying176
  a55 := Tryz.isAgg176
  z55 := Tryz.sizeOf176
  v55 := Tryz.zeroValue176
  t66 := Tryz.underlying193
  a66 := Tryz.isAgg193
  z66 := Tryz.sizeOf193
  v66 := Tryz.zeroValue193
  t70 := Tryz.underlying197
  a70 := Tryz.isAgg197
  z70 := Tryz.sizeOf197
  v70 := Tryz.zeroValue197
  t76 := Tryz.underlying209
  a76 := Tryz.isAgg209
  z76 := Tryz.sizeOf209
  v76 := Tryz.zeroValue209
  t77 := Tryz.underlying210
  a77 := Tryz.isAgg210
  z77 := Tryz.sizeOf210
  v77 := Tryz.zeroValue210 }
namespace YtanbgdhmfjgihaaGreatDoor
open Go.RowKit

theorem only_sort {α : Type} [Inhabited α] (enc : α → List Value) (k : Nat) (w : World) (blk off m : Nat) (dk : Array α) (os : Array Obj) : Only blk w (sortWorldK enc k w blk off m dk os) := by
  refine ⟨rfl, rfl, rfl, ?_, fun i hi e => ?_, Nat.le_add_right _ _⟩
  · show w.heap.size ≤ ((w.heap.modify blk _) ++ os).size
    rw [Array.size_append, Array.size_modify]
    exact Nat.le_add_right _ _
  · show ((w.heap.modify blk _) ++ os)[i]? = _
    rw [Array.getElem?_append_left (by rw [Array.size_modify]; exact hi), Array.getElem?_modify, if_neg (by omega)]

/-- A value without a list: what a triple is made of. -/
structure VE where
  v : V6
  h0 : v.len = 0
  hf : Fine v.n v.t v.x 0
def VE.val (e : VE) : Val := .mk e.v.k e.v.b e.v.n e.v.t e.v.x []
def VE.enc (e : VE) : List Value := [.int .i64 e.v.k, .bool e.v.b, .int .i64 e.v.n, .string e.v.t, .string e.v.x, .slice e.v.p e.v.len e.v.cap]
def VE.cf (a b : VE) : Int := orderI 1 a.val b.val
instance : Inhabited VE := ⟨⟨⟨0, false, 0, ⟨#[]⟩, ⟨#[]⟩, none, 0, 0⟩, rfl, by constructor <;> decide⟩⟩
theorem VE.one (e : VE) : ∀ v ∈ e.enc, v.oneCell' = true := by
  intro v hv
  simp only [VE.enc, List.mem_cons, List.mem_nil_iff, or_false] at hv
  rcases hv with rfl | rfl | rfl | rfl | rfl | rfl <;> rfl
theorem swoV : Go.Sort.SWO (ltOf VE.cf) where
  irrefl x := decide_eq_false (by
    have h := orderI_neg 1 x.val x.val
    show ¬ orderI 1 x.val x.val < 0
    omega)
  trans x y z h1 h2 := decide_eq_true (by
    have g1 : orderI 1 x.val y.val < 0 := of_decide_eq_true h1
    have g2 : orderI 1 y.val z.val < 0 := of_decide_eq_true h2
    exact (orderI_tri 1 x.val y.val z.val).lt g1 (Int.le_of_lt g2))
  ntrans x y z h1 h2 := decide_eq_false (by
    have g1 : ¬ orderI 1 x.val y.val < 0 := of_decide_eq_false h1
    have g2 : ¬ orderI 1 y.val z.val < 0 := of_decide_eq_false h2
    have h := (orderI_tri 1 z.val y.val x.val).le
    have e1 := orderI_neg 1 x.val y.val
    have e2 := orderI_neg 1 y.val z.val
    have e3 := orderI_neg 1 x.val z.val
    show ¬ orderI 1 x.val z.val < 0
    omega)
end YtanbgdhmfjgihaaGreatDoor
end Go.Proofs

/- Rows of three numbers held against each other, part by part. -/
namespace Go.Proofs.YtanbgdhmfjgihaaGreatDoor
open Go.RowKit

theorem cmpInt85 (a b : Int) (w : World) : Calls Tryz.prog 85 #[.int .i64 a, .int .i64 b] w fun e w' => e = .returned (.int .i64 (cmpZ a b)) ∧ w' = w := by
  by_cases h : a < b
  · have e : cmpZ a b = -1 := by unfold cmpZ; rw [if_pos h]
    rw [e]
    clear e
    go_enter Tryz.func85, Tryz.ntmps85
    go_wp2
    go_ret
    exact ⟨rfl, rfl⟩
  · by_cases h2 : b < a
    · have e : cmpZ a b = 1 := by unfold cmpZ; rw [if_neg h, if_pos h2]
      rw [e]
      clear e
      go_enter Tryz.func85, Tryz.ntmps85
      go_wp2
      go_ret
      exact ⟨rfl, rfl⟩
    · have e : cmpZ a b = 0 := by unfold cmpZ; rw [if_neg h, if_neg h2]
      rw [e]
      obtain rfl : a = b := by omega
      clear e h2 h
      go_enter Tryz.func85, Tryz.ntmps85
      go_wp2
      go_ret
      exact ⟨rfl, rfl⟩

/-- How two rows stand. -/
def rowI (a0 a1 a2 b0 b1 b2 : Int) : Int := lexI (cmpZ a0 b0) (lexI (cmpZ a1 b1) (cmpZ a2 b2))

set_option maxHeartbeats 3200000 in
theorem cmpRow (a0 a1 a2 b0 b1 b2 : Int) (g g2 : Nat) (w : World) (h0 : w.cell? ⟨g, 0, none⟩ = some (.int .i64 a0)) (h1 : w.cell? ⟨g, 1, none⟩ = some (.int .i64 a1)) (h2 : w.cell? ⟨g, 2, none⟩ = some (.int .i64 a2))
    (k0 : w.cell? ⟨g2, 0, none⟩ = some (.int .i64 b0)) (k1 : w.cell? ⟨g2, 1, none⟩ = some (.int .i64 b1)) (k2 : w.cell? ⟨g2, 2, none⟩ = some (.int .i64 b2)) :
    Calls Tryz.prog 81 #[.slice (some ⟨g, 0, none⟩) 3 3, .slice (some ⟨g2, 0, none⟩) 3 3] w fun e w' => e = .returned (.int .i64 (rowI a0 a1 a2 b0 b1 b2)) ∧ w' = w := by
  unfold rowI
  have hc0 := fun W => cmpInt85 a0 b0 W
  have hc1 := fun W => cmpInt85 a1 b1 W
  have hc2 := fun W => cmpInt85 a2 b2 W
  generalize cmpZ a0 b0 = c0 at hc0 ⊢
  generalize cmpZ a1 b1 = c1 at hc1 ⊢
  generalize cmpZ a2 b2 = c2 at hc2 ⊢
  obtain ⟨r, hr⟩ : ∃ r, r = lexI c0 (lexI c1 c2) := ⟨_, rfl⟩
  rw [← hr]
  have HR := Lib.hid hr
  clear hr
  go_enter Tryz.func81, Tryz.ntmps81
  go_wp2_with fail
  go_loopw [11] (fun i wr => wr = w ∧ ∃ j : Nat, i = .int .i64 j ∧ (j = 0 ∨ (j = 1 ∧ c0 = 0) ∨ (j = 2 ∧ c0 = 0 ∧ c1 = 0) ∨ (j = 3 ∧ c0 = 0 ∧ c1 = 0 ∧ c2 = 0))) (fun i _ => 3 - (intOf i).toNat)
  case atStart => exact ⟨rfl, 0, rfl, .inl rfl⟩
  case round =>
    obtain ⟨rfl, j, rfl, rfl | ⟨rfl, z0⟩ | ⟨rfl, z0, z1⟩ | ⟨rfl, z0, z1, z2⟩⟩ := hrel
    · by_cases hz : c0 = 0
      · have e2 : (c0 != 0) = false := by simp [hz]
        go_wp2_with (go_at_call 85; (with_reducible refine (hc0 _).mono ?_); rintro e w3 ⟨rfl, rfl⟩)
        go_roundw
        case rel => exact ⟨trivial, 1, by go_num, .inr (.inl ⟨rfl, hz⟩)⟩
        case measure => simp [intOf]
      · have e2 : (c0 != 0) = true := by simpa using hz
        go_wp2_with (go_at_call 85; (with_reducible refine (hc0 _).mono ?_); rintro e w3 ⟨rfl, rfl⟩)
        go_ret
        exact ⟨by rw [HR.out, lexI, if_neg hz]; rfl, rfl⟩
    · by_cases hz : c1 = 0
      · have e2 : (c1 != 0) = false := by simp [hz]
        go_wp2_with (go_at_call 85; (with_reducible refine (hc1 _).mono ?_); rintro e w3 ⟨rfl, rfl⟩)
        go_roundw
        case rel => exact ⟨trivial, 2, by go_num, .inr (.inr (.inl ⟨rfl, z0, hz⟩))⟩
        case measure => simp [intOf]
      · have e2 : (c1 != 0) = true := by simpa using hz
        go_wp2_with (go_at_call 85; (with_reducible refine (hc1 _).mono ?_); rintro e w3 ⟨rfl, rfl⟩)
        go_ret
        exact ⟨by rw [HR.out, lexI, if_pos z0, lexI, if_neg hz]; rfl, rfl⟩
    · by_cases hz : c2 = 0
      · have e2 : (c2 != 0) = false := by simp [hz]
        go_wp2_with (go_at_call 85; (with_reducible refine (hc2 _).mono ?_); rintro e w3 ⟨rfl, rfl⟩)
        go_roundw
        case rel => exact ⟨trivial, 3, by go_num, .inr (.inr (.inr ⟨rfl, z0, z1, hz⟩))⟩
        case measure => simp [intOf]
      · have e2 : (c2 != 0) = true := by simpa using hz
        go_wp2_with (go_at_call 85; (with_reducible refine (hc2 _).mono ?_); rintro e w3 ⟨rfl, rfl⟩)
        go_ret
        exact ⟨by rw [HR.out, lexI, if_pos z0, lexI, if_pos z1]; rfl, rfl⟩
    · go_wp2_with fail
      go_ret
      exact ⟨by rw [HR.out, lexI, if_pos z0, lexI, if_pos z1, z2]; rfl, rfl⟩

/-- A row as the sort hands it on. -/
structure VR where
  a : Int
  b : Int
  c : Int
deriving Inhabited
def VR.enc (r : VR) : List Value := [.int .i64 r.a, .int .i64 r.b, .int .i64 r.c]
def VR.cf (r s : VR) : Int := rowI r.a r.b r.c s.a s.b s.c
theorem VR.one (r : VR) : ∀ v ∈ r.enc, v.oneCell' = true := by
  intro v hv
  simp only [VR.enc, List.mem_cons, List.mem_nil_iff, or_false] at hv
  rcases hv with rfl | rfl | rfl <;> rfl

set_option maxHeartbeats 1600000 in
/-- The comparison that sortedRows hands to the sort. -/
theorem cmpRowAt (r s : VR) (w : World) : Calls Tryz.prog 80 #[.agg #[.int .i64 r.a, .int .i64 r.b, .int .i64 r.c], .agg #[.int .i64 s.a, .int .i64 s.b, .int .i64 s.c]] w fun e w' => e = .returned (.int .i64 (VR.cf r s)) ∧ Low w.heap.size w w' := by
  obtain ⟨w1, hw1⟩ : ∃ w1, w1 = (w.alloc (.cells #[.int .i64 r.a, .int .i64 r.b, .int .i64 r.c] 81)).alloc (.cells #[.int .i64 s.a, .int .i64 s.b, .int .i64 s.c] 81) := ⟨_, rfl⟩
  have A : w1.heap[w.heap.size]? = some (.cells #[.int .i64 r.a, .int .i64 r.b, .int .i64 r.c] 81) := by rw [hw1]; exact heap_old _ (heap_new _ _ rfl)
  have B : w1.heap[w.heap.size + 1]? = some (.cells #[.int .i64 s.a, .int .i64 s.b, .int .i64 s.c] 81) := by rw [hw1]; exact heap_new _ _ (by simp)
  have b0 : Low w.heap.size w w1 := by rw [hw1]; exact low2 _ _ _
  have hc := fun n => cmpRow r.a r.b r.c s.a s.b s.c w.heap.size (w.heap.size + 1) (w1.drewN n) (cell_of (w := w1.drewN n) A 0 rfl) (cell_of (w := w1.drewN n) A 1 rfl) (cell_of (w := w1.drewN n) A 2 rfl) (cell_of (w := w1.drewN n) B 0 rfl) (cell_of (w := w1.drewN n) B 1 rfl) (cell_of (w := w1.drewN n) B 2 rfl)
  unfold VR.cf
  generalize rowI r.a r.b r.c s.a s.b s.c = z at hc ⊢
  have HW := Lib.hid hw1
  clear hw1
  go_enter Tryz.func80, Tryz.ntmps80
  go_upto_region 1 with fail
  rw [← HW.out]
  refine wp_region_held_drew (S := fun W => W = w1.drewN 1) (by kernel_rfl) rfl (fun hHeld => ?_)
  refine wpAnyH_take (i := 0) (v := .slice (some ⟨w.heap.size, 0, none⟩) 3 3) rfl (by kernel_rfl) (by kernel_rfl) (by kernel_rfl) (fun _ _ _ h => h) (Or.inl ⟨by rfl, fun W _ => by go_simp⟩) hHeld ?_
  try simp only [putS]
  refine wpAnyH_take (i := 1) (v := .slice (some ⟨w.heap.size + 1, 0, none⟩) 3 3) rfl (by kernel_rfl) (by kernel_rfl) (by kernel_rfl) (fun _ _ _ h => h) (Or.inl ⟨by rfl, fun W _ => by go_simp⟩) hHeld ?_
  try simp only [putS]
  refine wpAnyH_ready (rs := [2]) (by kernel_rfl) (by simp) ?_
  refine AllReadyH.cons rfl (fun K hK => ?_) AllReadyH.nil
  rw [if_pos (by rfl)]
  go_simp
  clear hHeld
  refine (hc 1).mono ?_
  rintro e w3 ⟨rfl, rfl⟩
  refine hK.out _ _ rfl (fun hHeld => ?_)
  clear hK K
  try simp only [putS]
  refine wpAnyH_take (i := 3) (v := .int .i64 z) rfl (by kernel_rfl) (by kernel_rfl) (by kernel_rfl) (fun _ _ _ h => h) (Or.inl ⟨by rfl, fun W _ => by go_simp⟩) hHeld ?_
  try simp only [putS]
  refine wpAnyH_done (by kernel_rfl) ?_ _
  go_wp2_with fail
  go_ret
  exact ⟨rfl, low_drewN b0 1⟩
theorem rowI_neg (a b c a' b' c' : Int) : rowI a' b' c' a b c = -rowI a b c a' b' c' := by
  unfold rowI
  rw [cmpZ_swap a a', cmpZ_swap b b', cmpZ_swap c c', lexI_neg, lexI_neg]
theorem rowI_tri (r s t : VR) : Tri (VR.cf r s) (VR.cf s t) (VR.cf r t) := (tri_cmpZ _ _ _).lex ((tri_cmpZ _ _ _).lex (tri_cmpZ _ _ _))
theorem swoR : Go.Sort.SWO (ltOf VR.cf) where
  irrefl x := decide_eq_false (by
    have h := rowI_neg x.a x.b x.c x.a x.b x.c
    show ¬ rowI x.a x.b x.c x.a x.b x.c < 0
    omega)
  trans x y z h1 h2 := decide_eq_true ((rowI_tri x y z).lt (of_decide_eq_true h1) (Int.le_of_lt (of_decide_eq_true h2)))
  ntrans x y z h1 h2 := decide_eq_false (by
    have g1 : ¬ VR.cf x y < 0 := of_decide_eq_false h1
    have g2 : ¬ VR.cf y z < 0 := of_decide_eq_false h2
    have h := (rowI_tri z y x).le
    have e1 : VR.cf y x = -VR.cf x y := rowI_neg _ _ _ _ _ _
    have e2 : VR.cf z y = -VR.cf y z := rowI_neg _ _ _ _ _ _
    have e3 : VR.cf z x = -VR.cf x z := rowI_neg _ _ _ _ _ _
    omega)
/-- Rows are sorted. -/
theorem sortRows (w : World) (blk off cap : Nat) (d : Array VR) (hblk : blk < w.heap.size) (hH : Go.Sort.HoldsK VR.enc 3 w blk off d) (hsz : d.size < 4611686018427387904) :
    Calls Tryz.prog 79 #[.slice (some ⟨blk, off, none⟩) d.size cap, .func (.func 80) #[] #[]] w fun e w' =>
      e = .returned (.tuple #[]) ∧ ∃ d' n os, Go.Sort.PermIn 0 d.size d d' ∧ Go.Sort.SortedIn (ltOf VR.cf) 0 d.size d' ∧ w' = sortWorldK VR.enc 3 w blk off n d' os := by
  have eg : ∀ args w, (callFunc 80 args).run Tryz.prog w = .ok (.enter 80 args) w := enters_of Tryz.func80 (by kernel_rfl) rfl
  have hl : CmpLays Tryz.prog 80 #[] VR.enc 3 VR.cf blk off d.size w := fun m os dk hs x y => (cmpRowAt x y _).mono fun e w' ⟨he, hb⟩ => ⟨he, hb.grows⟩
  exact AnyQ.slices_SortFunc Tryz.sortR 3 Tryz.isAgg81 Tryz.sizeOf81 VR.enc (fun _ => rfl) VR.one VR.cf swoR 80 #[] blk off cap d w eg hl hH hblk hsz
end Go.Proofs.YtanbgdhmfjgihaaGreatDoor

/- Elements of several cells each, in a block that may be written. -/
namespace Go.Proofs.YtanbgdhmfjgihaaGreatDoor
open Go.RowKit

/-- Elements of k cells each, one behind the other, which may be written. -/
def Elems {α : Type} [Inhabited α] (enc : α → List Value) (k : Nat) (w : World) (blk off : Nat) (d : Array α) : Prop :=
  ∀ j, j < d.size → w.rangeAt blk (off + j * k) (enc d[j]!) ∧ w.there blk (off + j * k) k
section
variable {α : Type} [Inhabited α] {enc : α → List Value} {k blk off : Nat} {d : Array α} {w w' : World}
theorem Elems.of_holds (h : Go.Sort.HoldsK enc k w blk off d) (hk : ∀ x, (enc x).length = k) : Elems enc k w blk off d := fun j hj => by
  refine ⟨fun i v hv => ?_, fun i hi => ?_⟩
  · have hi : i < k := by rw [← hk d[j]!]; exact (List.getElem?_eq_some_iff.1 hv).1
    rw [(h.cell hj hi).1]
    obtain ⟨h1, h2⟩ := List.getElem?_eq_some_iff.1 hv
    rw [getElem!_pos _ i h1, h2]
  · have := h.cell hj hi
    exact ⟨by rw [this.1]; rfl, this.2⟩
theorem Elems.keep (h : Elems enc k w blk off d) (hc : ∀ o, w'.cell? ⟨blk, o, none⟩ = w.cell? ⟨blk, o, none⟩) (hf : ∀ o, w'.frozen? ⟨blk, o, none⟩ = w.frozen? ⟨blk, o, none⟩) : Elems enc k w' blk off d := fun j hj =>
  ⟨fun i v hv => (hc _).trans ((h j hj).1 i v hv), fun i hi => ⟨by rw [hc]; exact ((h j hj).2 i hi).1, by rw [hf]; exact ((h j hj).2 i hi).2⟩⟩
theorem Elems.low (h : Elems enc k w blk off d) (hb : blk < w.heap.size) (b : Low w.heap.size w w') : Elems enc k w' blk off d :=
  h.keep (fun o => b.cell (p := ⟨blk, o, none⟩) hb) (fun o => b.frozen (p := ⟨blk, o, none⟩) hb)
theorem Elems.below (h : Elems enc k w blk off d) (hb : blk < w.heap.size) (b : Below w.heap.size w w') : Elems enc k w' blk off d :=
  h.keep (fun o => b.cell (p := ⟨blk, o, none⟩) hb) (fun o => b.frozen (p := ⟨blk, o, none⟩) hb)
theorem Elems.set (h : Elems enc k w blk off d) (hk : ∀ x, (enc x).length = k) (j : Nat) (hj : j < d.size) (u : α) : Elems enc k (w.setCells blk (off + j * k) (enc u)) blk off (d.setIfInBounds j u) := fun i hi => by
  have hi' : i < d.size := by simpa using hi
  have hth : (w.setCells blk (off + j * k) (enc u)).there blk (off + i * k) k := World.there_setCells (h i hi').2 _ _ _
  refine ⟨?_, hth⟩
  by_cases e : i = j
  · subst e
    rw [getElem!_pos _ i hi, Array.getElem_setIfInBounds_self]
    exact World.rangeAt_setCells_same w blk (off + i * k) (enc u) (by rw [hk]; exact (h i hi').2)
  · rw [getElem!_pos _ i hi, Array.getElem_setIfInBounds_ne (by simpa using hi) (by omega), ← getElem!_pos d i hi']
    refine World.rangeAt_setCells_apart (h i hi').1 blk (off + j * k) (enc u) (.inr ?_)
    rw [hk, hk]
    rcases Nat.lt_or_ge i j with q | q
    · left
      have := Nat.mul_le_mul_right k (show i + 1 ≤ j by omega)
      rw [Nat.add_mul] at this
      omega
    · right
      have := Nat.mul_le_mul_right k (show j + 1 ≤ i by omega)
      rw [Nat.add_mul] at this
      omega
/-- Cells that are laid behind the first n elements. -/
theorem Elems.tail (h : Elems enc k w blk off d) (hk : ∀ x, (enc x).length = k) (n : Nat) (hn : n ≤ d.size) (vs : List Value) : Elems enc k (w.setCells blk (off + n * k) vs) blk off (d.take n) := fun i hi => by
  have hi' : i < n := by simp at hi; omega
  have e : (d.take n)[i]! = d[i]! := by
    rw [getElem!_pos _ i hi, getElem!_pos d i (by omega)]
    simp
  rw [e]
  have hh := h i (by omega)
  refine ⟨World.rangeAt_setCells_apart hh.1 blk (off + n * k) vs (.inr (.inl ?_)), World.there_setCells hh.2 _ _ _⟩
  rw [hk]
  have := Nat.mul_le_mul_right k (show i + 1 ≤ n by omega)
  rw [Nat.add_mul] at this
  omega
theorem only_setCells (b : Nat) : (vs : List Value) → (o : Nat) → (x : World) → Only b x (x.setCells b o vs)
  | [], _, x => Only.refl b x
  | v :: r, o, x => ((Only.refl b x).setCell o none v).trans (only_setCells b r (o + 1) _)
/-- clear, at elements of several cells. -/
theorem run_clear_row {n : Nat} (P : Program) (w : World) (t e ty : TypeId) (z : Value) (ht : P.underlying t = some (.slice e)) (hv : ∀ w, (zeroValue e).run P w = .ok z w) (h1 : ∀ v ∈ (Builtin.zeroCells z.cells n).toList, v.oneCell' = true) (b o c : Nat) (hn : 0 < n)
    (hc : w.there b o (n * z.cells.size)) :
    (Builtin.clear_ #[t] ty #[.slice (some ⟨b, o, none⟩) n c]).run P w = .ok (.tuple #[]) (w.setCells b o (Builtin.zeroCells z.cells n).toList) := by
  have hlen : (Builtin.zeroCells z.cells n).toList.length = n * z.cells.size := by simp [Builtin.zeroCells]
  have hst := run_storeCells_cells (P := P) b o (Builtin.zeroCells z.cells n).toList 0 w (fun j hj => by have := (hc j (by omega)).1; simpa using this) (fun j hj => by have := (hc j (by omega)).2; simpa using this) h1
  simp only [Nat.add_zero] at hst
  obtain ⟨m, rfl⟩ : ∃ m, n = m + 1 := ⟨n - 1, by omega⟩
  simp [Builtin.clear_, run_underlying ht, hv, hst]
theorem Elems.there (h : Elems enc k w blk off d) (hk : 0 < k) (n : Nat) (hn : n ≤ d.size) : w.there blk (off + n * k) ((d.size - n) * k) := fun i hi => by
  have q : i / k < d.size - n := Nat.div_lt_of_lt_mul (by rw [Nat.mul_comm]; exact hi)
  have := (h (n + i / k) (by omega)).2 (i % k) (Nat.mod_lt _ hk)
  rwa [show off + (n + i / k) * k + i % k = off + n * k + i by
    have := Nat.div_add_mod i k
    rw [Nat.add_mul, Nat.mul_comm (i / k) k]
    omega] at this
end
end Go.Proofs.YtanbgdhmfjgihaaGreatDoor
