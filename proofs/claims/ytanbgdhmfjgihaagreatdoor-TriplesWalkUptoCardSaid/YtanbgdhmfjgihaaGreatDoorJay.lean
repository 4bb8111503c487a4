/- Texts of one kind, one behind the other: each says ahead of itself what it shows. -/
import Derived.Test.YtanbgdhmfjgihaaGreatDoorJax
import Derived.Deep.MidRow
import Derived.Shelf.SlSortCmp.NoneTotal
import Derived.Laws.OwnMore
import Derived.Test.YtanbgdhmfjgihaaGreatDoorJaw
import Derived.Test.YtanbgdhmfjgihaaGreatDoorJat
/- Values whose lists lie apart from one another: each in blocks of its own. -/
namespace Go.Proofs.YtanbgdhmfjgihaaGreatDoor
open Go.RowKit

theorem range_heap {w w' : World} {g : Nat} (h : w'.heap[g]? = w.heap[g]?) {o : Nat} {cs : List Value} (r : w.rangeAt g o cs) : w'.rangeAt g o cs := fun j v hv => (World.cell?_of_block (a := ⟨g, o + j, none⟩) h).trans (r j v hv)
theorem there_heap {w w' : World} {g : Nat} (h : w'.heap[g]? = w.heap[g]?) {o n : Nat} (r : w.there g o n) : w'.there g o n := fun j hj =>
  ⟨by rw [World.cell?_of_block (a := ⟨g, o + j, none⟩) h]; exact (r j hj).1, by rw [World.frozen?_of_block (a := ⟨g, o + j, none⟩) h]; exact (r j hj).2⟩
mutual
/-- A value lies at off, and all lists in it in blocks from s to e. -/
def OneT (w : World) (g off s e : Nat) : Val → Prop
  | .mk k b n t x l => ∃ L, w.rangeAt g off [.int .i64 k, .bool b, .int .i64 n, .string t, .string x, L] ∧ w.there g off 6 ∧ Fine n t x l.length ∧ HeldT w s e L l
/-- A list, and all that lie in it, in blocks from lo to hi: no two in one. -/
def HeldT (w : World) (lo hi : Nat) (L : Value) : List Val → Prop
  | [] => ∃ p cap, L = .slice p 0 cap
  | v :: r => ∃ g off cap s e, L = .slice (some ⟨g, off, none⟩) (r.length + 1) cap ∧ lo ≤ g ∧ g < hi ∧ lo ≤ s ∧ s ≤ e ∧ e ≤ hi ∧ ¬ (s ≤ g ∧ g < e) ∧ OneT w g off s e v ∧ RestT w g (off + 6) e hi r
/-- Values one behind the other; the lists in them in blocks from lo to hi, in their order. -/
def RestT (w : World) (g off lo hi : Nat) : List Val → Prop
  | [] => True
  | v :: r => ∃ s e, lo ≤ s ∧ s ≤ e ∧ e ≤ hi ∧ ¬ (s ≤ g ∧ g < e) ∧ OneT w g off s e v ∧ RestT w g (off + 6) e hi r
end
mutual
theorem OneT.held {w : World} {g off s e : Nat} : (v : Val) → OneT w g off s e v → HoldsOne w g off v
  | .mk k b n t x l, h => by
    unfold OneT at h
    unfold HoldsOne
    obtain ⟨L, r, _, hf, hl⟩ := h
    exact ⟨r 0 _ rfl, r 1 _ rfl, r 2 _ rfl, r 3 _ rfl, r 4 _ rfl, hf, L, r 5 _ rfl, HeldT.held l hl⟩
theorem HeldT.held {w : World} {lo hi : Nat} {L : Value} : (l : List Val) → HeldT w lo hi L l → Held w L l
  | [], h => by
    unfold HeldT at h
    unfold Held
    exact h
  | v :: r, h => by
    unfold HeldT at h
    unfold Held
    obtain ⟨g, off, cap, s, e, rfl, _, _, _, _, _, _, hv, hr⟩ := h
    exact ⟨g, off, cap, rfl, OneT.held v hv, RestT.held r hr⟩
theorem RestT.held {w : World} {g off lo hi : Nat} : (l : List Val) → RestT w g off lo hi l → Holds w g off l
  | [], _ => by unfold Holds; trivial
  | v :: r, h => by
    unfold RestT at h
    unfold Holds
    obtain ⟨s, e, _, _, _, _, hv, hr⟩ := h
    exact ⟨OneT.held v hv, RestT.held r hr⟩
end
/-- What keeps the values of block g from off on. -/
structure Keep (w w' : World) (g off lo hi : Nat) : Prop where
  rng : ∀ o cs, off ≤ o → w.rangeAt g o cs → w'.rangeAt g o cs
  thr : ∀ o n, off ≤ o → w.there g o n → w'.there g o n
  blk : ∀ i, lo ≤ i → i < hi → i ≠ g → w'.heap[i]? = w.heap[i]?
theorem Keep.more {w w' : World} {g off lo hi off2 lo2 hi2 : Nat} (h : Keep w w' g off lo hi) (h1 : off ≤ off2) (h2 : lo ≤ lo2) (h3 : hi2 ≤ hi) : Keep w w' g off2 lo2 hi2 :=
  ⟨fun o cs ho => h.rng o cs (by omega), fun o n ho => h.thr o n (by omega), fun i a b c => h.blk i (by omega) (by omega) c⟩
theorem Keep.heap {w w' : World} {g off lo hi : Nat} (hg : w'.heap[g]? = w.heap[g]?) (h : ∀ i, lo ≤ i → i < hi → w'.heap[i]? = w.heap[i]?) : Keep w w' g off lo hi :=
  ⟨fun _ _ _ r => range_heap hg r, fun _ _ _ r => there_heap hg r, fun i a b _ => h i a b⟩
mutual
theorem OneT.keep {w w' : World} {g off s e : Nat} (h : Keep w w' g off s e) (hn : ¬ (s ≤ g ∧ g < e)) : (v : Val) → OneT w g off s e v → OneT w' g off s e v
  | .mk k b n t x l, hv => by
    unfold OneT at hv ⊢
    obtain ⟨L, r, th, hf, hl⟩ := hv
    exact ⟨L, h.rng _ _ (Nat.le_refl _) r, h.thr _ _ (Nat.le_refl _) th, hf, HeldT.stays (fun i a b => h.blk i a b (fun q => hn ⟨q ▸ a, q ▸ b⟩)) l hl⟩
theorem HeldT.stays {w w' : World} {lo hi : Nat} {L : Value} (h : ∀ i, lo ≤ i → i < hi → w'.heap[i]? = w.heap[i]?) : (l : List Val) → HeldT w lo hi L l → HeldT w' lo hi L l
  | [], hl => by
    unfold HeldT at hl ⊢
    exact hl
  | v :: r, hl => by
    unfold HeldT at hl ⊢
    obtain ⟨g, off, cap, s, e, rfl, h1, h2, h3, h4, h5, h6, hv, hr⟩ := hl
    have k : Keep w w' g off lo hi := Keep.heap (h g h1 h2) h
    exact ⟨g, off, cap, s, e, rfl, h1, h2, h3, h4, h5, h6, OneT.keep (k.more (Nat.le_refl _) h3 h5) h6 v hv, RestT.keep (k.more (by omega) (by omega) (Nat.le_refl _)) r hr⟩
theorem RestT.keep {w w' : World} {g off lo hi : Nat} (h : Keep w w' g off lo hi) : (l : List Val) → RestT w g off lo hi l → RestT w' g off lo hi l
  | [], _ => by unfold RestT; trivial
  | v :: r, hl => by
    unfold RestT at hl ⊢
    obtain ⟨s, e, h3, h4, h5, h6, hv, hr⟩ := hl
    exact ⟨s, e, h3, h4, h5, h6, OneT.keep (h.more (Nat.le_refl _) h3 h5) h6 v hv, RestT.keep (h.more (by omega) (by omega) (Nat.le_refl _)) r hr⟩
end
theorem RestT.high {w : World} {g : Nat} : (l : List Val) → (off lo hi hi2 : Nat) → hi ≤ hi2 → RestT w g off lo hi l → RestT w g off lo hi2 l
  | [], _, _, _, _, _, _ => by unfold RestT; trivial
  | v :: r, off, lo, hi, hi2, h, hl => by
    unfold RestT at hl ⊢
    obtain ⟨s, e, h3, h4, h5, h6, hv, hr⟩ := hl
    exact ⟨s, e, h3, h4, by omega, h6, hv, RestT.high r _ _ _ _ h hr⟩
theorem HeldT.mk {w : World} {lo hi : Nat} {g off cap : Nat} {l : List Val} (h1 : lo ≤ g) (h2 : g < hi) (h : RestT w g off lo hi l) : HeldT w lo hi (.slice (some ⟨g, off, none⟩) l.length cap) l := by
  cases l with
  | nil => unfold HeldT; exact ⟨_, _, rfl⟩
  | cons v r =>
    unfold RestT at h
    unfold HeldT
    obtain ⟨s, e, h3, h4, h5, h6, hv, hr⟩ := h
    exact ⟨g, off, cap, s, e, rfl, h1, h2, h3, h4, h5, h6, hv, hr⟩
/-- The cells of values, their lists apart from each other and from the block own. -/
def CellsT (w : World) (own : Option Nat) (lo hi : Nat) : List Value → List Val → Prop
  | xs, [] => xs = []
  | xs, .mk k b n t x q :: r => ∃ L ys s e, xs = .int .i64 k :: .bool b :: .int .i64 n :: .string t :: .string x :: L :: ys ∧ Fine n t x q.length ∧ lo ≤ s ∧ s ≤ e ∧ e ≤ hi ∧ (∀ g, own = some g → ¬ (s ≤ g ∧ g < e)) ∧ HeldT w s e L q ∧ CellsT w own e hi ys r
theorem CellsT.stays {w w' : World} {own : Option Nat} {hi : Nat} : (l : List Val) → (lo : Nat) → {xs : List Value} → (∀ i, lo ≤ i → i < hi → own ≠ some i → w'.heap[i]? = w.heap[i]?) → CellsT w own lo hi xs l → CellsT w' own lo hi xs l
  | [], _, _, _, h => by unfold CellsT at h ⊢; exact h
  | .mk k b n t x q :: l, lo, _, hs, h => by
    unfold CellsT at h ⊢
    obtain ⟨L, ys, s, e, rfl, hf, g1, g2, g3, g4, hq, hr⟩ := h
    exact ⟨L, ys, s, e, rfl, hf, g1, g2, g3, g4, hq.stays (fun i a b => hs i (by omega) (by omega) (fun o => g4 i o ⟨a, b⟩)) q, CellsT.stays l e (fun i a b => hs i (by omega) b) hr⟩
theorem CellsT.high {w : World} {own : Option Nat} {hi hi2 : Nat} (h2 : hi ≤ hi2) : (l : List Val) → (lo : Nat) → {xs : List Value} → CellsT w own lo hi xs l → CellsT w own lo hi2 xs l
  | [], _, _, h => by unfold CellsT at h ⊢; exact h
  | .mk k b n t x q :: l, lo, _, h => by
    unfold CellsT at h ⊢
    obtain ⟨L, ys, s, e, rfl, hf, g1, g2, g3, g4, hq, hr⟩ := h
    exact ⟨L, ys, s, e, rfl, hf, g1, g2, by omega, g4, hq, CellsT.high h2 l e hr⟩
theorem CellsT.rest {w : World} {g hi : Nat} : (l : List Val) → (off lo : Nat) → {xs : List Value} → CellsT w (some g) lo hi xs l → w.rangeAt g off xs → w.there g off (l.length * 6) → RestT w g off lo hi l
  | [], _, _, _, _, _, _ => by unfold RestT; trivial
  | .mk k b n t x q :: l, off, lo, _, h, hr, ht => by
    unfold CellsT at h
    obtain ⟨L, ys, s, e, rfl, hf, g1, g2, g3, g4, hq, hl⟩ := h
    unfold RestT
    refine ⟨s, e, g1, g2, g3, g4 g rfl, ?_, CellsT.rest l (off + 6) e hl (fun j v hv => ?_) (fun j hj => ?_)⟩
    · unfold OneT
      refine ⟨L, fun j v hv => hr j v ?_, fun j hj => ht j (by simp only [List.length_cons]; omega), hf, hq⟩
      match j, hv with
      | 0, hv => exact hv
      | 1, hv => exact hv
      | 2, hv => exact hv
      | 3, hv => exact hv
      | 4, hv => exact hv
      | 5, hv => exact hv
      | j + 6, hv => simp at hv
    · have := hr (j + 6) v hv
      rwa [show off + (j + 6) = off + 6 + j by omega] at this
    · have := ht (j + 6) (by simp only [List.length_cons]; omega)
      rwa [show off + (j + 6) = off + 6 + j by omega] at this
end Go.Proofs.YtanbgdhmfjgihaaGreatDoor

/- The copies that the document's own text makes: their lists lie apart. -/
namespace Go.Proofs.YtanbgdhmfjgihaaGreatDoor
open Go.RowKit

/-- What a round keeps. -/
structure AccT (w : World) (l : List Val) (A : Value) (wr : World) : Prop where
  own : ∃ xs hi, wr.ownsRow w.heap.size 39 6 A l.length xs ∧ CellsT wr A.ownBlock w.heap.size hi xs l ∧ w.heap.size ≤ hi ∧ hi ≤ wr.heap.size
  bel : Below w.heap.size w wr
end Go.Proofs.YtanbgdhmfjgihaaGreatDoor

/- sortedValues: the values of all triples, each once, in their order. -/
namespace Go.Proofs.YtanbgdhmfjgihaaGreatDoor
open Go.RowKit

theorem flatMap_get {α : Type} [Inhabited α] (enc : α → List Value) (k : Nat) (hk : ∀ x, (enc x).length = k) : (l : List α) → (t : Nat) → t < l.length * k → (l.flatMap enc)[t]? = some ((enc l[t / k]!)[t % k]!)
  | [], t, h => by simp at h
  | x :: l, t, h => by
    have k0 : 0 < k := by
      rcases Nat.eq_zero_or_pos k with e | e
      · subst e; simp at h
      · exact e
    rw [List.flatMap_cons]
    by_cases q : t < k
    · rw [List.getElem?_append_left (by rw [hk]; exact q), Nat.div_eq_of_lt q, Nat.mod_eq_of_lt q]
      have : t < (enc x).length := by rw [hk]; exact q
      show (enc x)[t]? = some ((enc x)[t]!)
      rw [List.getElem?_eq_getElem this, getElem!_pos _ t this]
    · have h2 : t - k < l.length * k := by
        simp only [List.length_cons, Nat.add_mul] at h
        omega
      rw [List.getElem?_append_right (by rw [hk]; omega), hk, flatMap_get enc k hk l (t - k) h2]
      have e1 : t / k = (t - k) / k + 1 := Nat.div_eq_sub_div k0 (by omega)
      have e2 : t % k = (t - k) % k := Nat.mod_eq_sub_mod (by omega)
      rw [e1, e2]
      simp
theorem holdsK_of_own {α : Type} [Inhabited α] {enc : α → List Value} {k : Nat} (hk : ∀ x, (enc x).length = k) {w : World} {base g cap : Nat} {e : TypeId} (d : List α)
    (h : w.ownsRow base e k (.slice (some ⟨g, 0, none⟩) d.length cap) d.length (d.flatMap enc)) : Go.Sort.HoldsK enc k w g 0 d.toArray := by
  intro t ht
  have ht2 : t < d.toArray.size * k := by simpa using ht
  have ht' : t < d.length * k := by simpa using ht2
  refine ⟨?_, h.frozenAt _⟩
  rw [Nat.zero_add, h.cellAt t ht', flatMap_get enc k hk d t ht', Go.Sort.get_flatK _ _ _ _ ht2]
  simp
theorem own_form {w : World} {base size n : Nat} {e : TypeId} {v : Value} {xs : List Value} (h : w.ownsRow base e size v n xs) (hn : 0 < n) : ∃ g cap, v = .slice (some ⟨g, 0, none⟩) n cap ∧ base ≤ g ∧ g < w.heap.size ∧ n ≤ cap := by
  rcases h.2 with ⟨_, h0⟩ | ⟨g, cap, cur, hv, hb, hg, hc, _⟩
  · omega
  · exact ⟨g, cap, hv, hb, lt_of_heap hg, hc⟩
theorem holds_of_cells (w : World) (g : Nat) : (d : List VE) → (off : Nat) → (∀ t u, (d.flatMap VE.enc)[t]? = some u → w.cell? ⟨g, off + t, none⟩ = some u) → Holds w g off (d.map VE.val)
  | [], _, _ => by unfold Holds; trivial
  | e :: d, off, h => by
    rw [List.map_cons]
    unfold Holds
    refine ⟨?_, holds_of_cells w g d (off + 6) fun t u hu => ?_⟩
    · unfold VE.val HoldsOne
      refine ⟨h 0 _ rfl, h 1 _ rfl, h 2 _ rfl, h 3 _ rfl, h 4 _ rfl, e.hf, _, h 5 _ rfl, ?_⟩
      unfold Held
      exact ⟨_, _, by rw [e.h0]⟩
    · have := h (6 + t) u (by
        rw [List.flatMap_cons, List.getElem?_append_right (by rw [VE.len6]; omega), VE.len6]
        rw [show 6 + t - 6 = t by omega]
        exact hu)
      rwa [← Nat.add_assoc] at this
theorem holds_of_own {w : World} {base g cap : Nat} (d : List VE) (h : w.ownsRow base 39 6 (.slice (some ⟨g, 0, none⟩) d.length cap) d.length (d.flatMap VE.enc)) : Holds w g 0 (d.map VE.val) :=
  holds_of_cells w g d 0 fun t u hu => by
    have ht : t < d.length * 6 := by
      have := (List.getElem?_eq_some_iff.1 hu).1
      rw [h.1] at this
      exact this
    rw [Nat.zero_add, h.cellAt t ht]
    exact hu
theorem cmpLaysVB (W0 w : World) (hG : Gd W0) (hT : Tab W0) (b0 : Below W0.heap.size W0 w) (blk off size : Nat) (hB : W0.heap.size ≤ blk) : CmpLays Tryz.prog 74 #[] VE.enc 6 VE.cf blk off size w := by
  intro m os dk hs x y
  have b1 := below_only b0 (only_sort VE.enc 6 w blk off m dk os) hB b0.size
  obtain ⟨⟨k, b, n, t, z, p, len, cap⟩, h0, hf⟩ := x
  obtain ⟨⟨k2, b2, n2, t2, z2, p2, len2, cap2⟩, h02, hf2⟩ := y
  simp only at h0 h02 hf hf2
  subst h0 h02
  refine (cmpValAt (.mk k b n t z []) (.mk k2 b2 n2 t2 z2 []) _ k b n t z [] p cap k2 b2 n2 t2 z2 [] p2 cap2 rfl rfl (hG.below b1) (hT.below b1) hf hf2 ?_ ?_).mono ?_
  · exact ⟨_, _, rfl⟩
  · exact ⟨_, _, rfl⟩
  · rintro e w' ⟨he, hb⟩
    exact ⟨he, hb.grows⟩
theorem sortValsB (W0 w : World) (hG : Gd W0) (hT : Tab W0) (b0 : Below W0.heap.size W0 w) (blk off cap : Nat) (d : Array VE) (hB : W0.heap.size ≤ blk) (hblk : blk < w.heap.size) (hH : Go.Sort.HoldsK VE.enc 6 w blk off d) (hsz : d.size < 4611686018427387904) :
    Calls Tryz.prog 73 #[.slice (some ⟨blk, off, none⟩) d.size cap, .func (.func 74) #[] #[]] w fun e w' =>
      e = .returned (.tuple #[]) ∧ ∃ d' n os, Go.Sort.PermIn 0 d.size d d' ∧ Go.Sort.SortedIn (ltOf VE.cf) 0 d.size d' ∧ w' = sortWorldK VE.enc 6 w blk off n d' os := by
  have eg : ∀ args w, (callFunc 74 args).run Tryz.prog w = .ok (.enter 74 args) w := enters_of Tryz.func74 (by kernel_rfl) rfl
  exact AnyQ.slices_SortFunc Tryz.sortV 6 Tryz.isAgg39 Tryz.sizeOf39 VE.enc (fun _ => rfl) VE.one VE.cf swoV 74 #[] blk off cap d w eg (cmpLaysVB W0 w hG hT b0 blk off d.size hB) hH hblk hsz

theorem wpList_load18 {ops : Array Oper} {rest : List Oper} {op : Oper} {a : Act} {w : World} {Q : Exit → Act → World → Prop} (y : Operand) (g off : Nat) (s p o : V6) (h18 : w.rangeAt g off [.int .i64 s.k, .bool s.b, .int .i64 s.n, .string s.t, .string s.x, .slice s.p s.len s.cap, .int .i64 p.k, .bool p.b, .int .i64 p.n, .string p.t, .string p.x, .slice p.p p.len p.cap, .int .i64 o.k, .bool o.b, .int .i64 o.n, .string o.t, .string o.x, .slice o.p o.len o.cap])
    (hgd : op.guard = none) (ho : op.op = .load 41 y) (hx : a.eval y = .pointer (some ⟨g, off, none⟩))
    (h : wpList Tryz.prog ops Q rest (a.put op.dst (.agg #[.int .i64 s.k, .bool s.b, .int .i64 s.n, .string s.t, .string s.x, .slice s.p s.len s.cap, .int .i64 p.k, .bool p.b, .int .i64 p.n, .string p.t, .string p.x, .slice p.p p.len p.cap, .int .i64 o.k, .bool o.b, .int .i64 o.n, .string o.t, .string o.x, .slice o.p o.len o.cap])) w) : wpList Tryz.prog ops Q (op :: rest) a w :=
  wpList_load_mid hgd 41 y ho g off hx [.int .i64 s.k, .bool s.b, .int .i64 s.n, .string s.t, .string s.x, .slice s.p s.len s.cap, .int .i64 p.k, .bool p.b, .int .i64 p.n, .string p.t, .string p.x, .slice p.p p.len p.cap, .int .i64 o.k, .bool o.b, .int .i64 o.n, .string o.t, .string o.x, .slice o.p o.len o.cap] _ h18 Tryz.underlying41 rfl info41 h
set_option maxRecDepth 20000 in
theorem wpList_store18 {ops : Array Oper} {rest : List Oper} {op : Oper} {a : Act} {w : World} {Q : Exit → Act → World → Prop} (x y : Operand) (g : Nat) (s p o : V6) {c : Array Value} (hg : w.heap[g]? = some (.cells c 41)) (hs : c.size = 18)
    (hgd : op.guard = none) (ho : op.op = .store 41 x y) (hx : a.eval x = .pointer (some ⟨g, 0, none⟩)) (hy : a.eval y = .agg #[.int .i64 s.k, .bool s.b, .int .i64 s.n, .string s.t, .string s.x, .slice s.p s.len s.cap, .int .i64 p.k, .bool p.b, .int .i64 p.n, .string p.t, .string p.x, .slice p.p p.len p.cap, .int .i64 o.k, .bool o.b, .int .i64 o.n, .string o.t, .string o.x, .slice o.p o.len o.cap])
    (h : ∀ w', Only g w w' → Box18 w' g s p o → wpList Tryz.prog ops Q rest (a.put op.dst undef) w') : wpList Tryz.prog ops Q (op :: rest) a w :=
  wpList_plain hgd fun _ hK => by
    unfold Oper.wp execOp
    simp only [ho, hx, hy, Instr.storeAt, Instr.sureAddr, Sem.run_bind, Sem.run_pure, Result.andThen_ok, run_storeVar_row (P := Tryz.prog) w g 41 41 c #[.int .i64 s.k, .bool s.b, .int .i64 s.n, .string s.t, .string s.x, .slice s.p s.len s.cap, .int .i64 p.k, .bool p.b, .int .i64 p.n, .string p.t, .string p.x, .slice p.p p.len p.cap, .int .i64 o.k, .bool o.b, .int .i64 o.n, .string o.t, .string o.x, .slice o.p o.len o.cap] hg (by exact info41) (by rw [hs]; rfl) (by simp [Value.oneCell'])]
    exact hK _ _ (h _ (Only.setRow w _) (heap_setRow hg))
theorem cell_18_new (w : World) (s p o : V6) (t : TypeId) : ∀ j u, [.int .i64 s.k, .bool s.b, .int .i64 s.n, .string s.t, .string s.x, .slice s.p s.len s.cap, .int .i64 p.k, .bool p.b, .int .i64 p.n, .string p.t, .string p.x, .slice p.p p.len p.cap, .int .i64 o.k, .bool o.b, .int .i64 o.n, .string o.t, .string o.x, .slice o.p o.len o.cap][j]? = some u → (w.alloc (.cells #[.int .i64 s.k, .bool s.b, .int .i64 s.n, .string s.t, .string s.x, .slice s.p s.len s.cap, .int .i64 p.k, .bool p.b, .int .i64 p.n, .string p.t, .string p.x, .slice p.p p.len p.cap, .int .i64 o.k, .bool o.b, .int .i64 o.n, .string o.t, .string o.x, .slice o.p o.len o.cap] t)).cell? ((⟨w.heap.size, 0, none⟩ : Addr).add j) = some u := by
  intro j u hj
  rw [Addr.add_mid, Nat.zero_add]
  exact cell_of (heap_new w _ rfl) j (by simpa using hj)
/-- A value without a list. -/
def Plain (u : Val) : Prop := ∃ k b n t x, u = .mk k b n t x []
theorem Is.plain {W : World} {v : V6} {u : Val} {q : List Val} (h : Is W v u q) (hp : Plain u) : ∃ e : VE, e.v = v ∧ e.val = u := by
  obtain ⟨k, b, n, t, x, rfl⟩ := hp
  obtain ⟨k0, b0, n0, t0, x0, p0, len0, cap0⟩ := v
  obtain ⟨he, hq, hf, hl⟩ := h
  simp only at he hq hf hl
  injection he with h1 h2 h3 h4 h5 h6
  subst h1 h2 h3 h4 h5 h6
  exact ⟨⟨⟨k, b, n, t, x, p0, len0, cap0⟩, hq, hf⟩, rfl, rfl⟩
/-- What the first loop keeps. -/
def GV (w : World) (l : List Tri3) (j : Nat) (V : Value) (wr : World) : Prop := ∃ d : List VE, d.map VE.val = flat (l.take j) ∧ wr.ownsRow w.heap.size 39 6 V d.length (d.flatMap VE.enc) ∧ Below w.heap.size w wr
/-- What the second loop keeps. -/
def GW (w : World) (dk : Array VE) (j : Nat) (V : Value) (wr : World) : Prop := ∃ d : List VE, d.map VE.val = (dk.toList.take j).map VE.val ∧ wr.ownsRow w.heap.size 39 6 V d.length (d.flatMap VE.enc) ∧ Below w.heap.size w wr
theorem GVlen {l : List Tri3} {j : Nat} {d : List VE} (h : d.map VE.val = flat (l.take j)) (hj : j ≤ l.length) : d.length = 3 * j := by
  have := congrArg List.length h
  rw [List.length_map, flat_len, List.length_take] at this
  omega
/-- The values of the triples, told. -/
def SVPost (w : World) (l : List Tri3) (e : Ending) (w' : World) : Prop := ∃ vs g cap, e = .returned (.slice (some ⟨g, 0, none⟩) vs.length cap) ∧ Rise vs ∧ (∀ u, u ∈ vs ↔ u ∈ flat l) ∧ Holds w' g 0 vs ∧ w.heap.size ≤ g ∧ vs.length ≤ cap ∧ vs.length ≤ 3 * l.length ∧ Below w.heap.size w w'
set_option maxHeartbeats 6400000 in
set_option maxRecDepth 20000 in
theorem sortedValsSome (l : List Tri3) (g off cap : Nat) (w : World) (hG : Gd w) (hT : Tab w) (hl : Holds w g off (flat l)) (hn : l.length ≤ 100000) (h0 : 0 < l.length) (hp : ∀ u ∈ flat l, Plain u ∧ mayP u 0 = true) :
    Calls Tryz.prog 40 #[.slice (some ⟨g, off, none⟩) l.length cap] w (SVPost w l) := by
  obtain ⟨n, hln⟩ : ∃ n, n = l.length := ⟨_, rfl⟩
  rw [← hln] at hn h0 ⊢
  obtain ⟨i0, hi, hz0, hz1, hz2⟩ := info_parts info28b
  have HL := Lib.hid hln
  have HH := Lib.hid hl
  have HP := Lib.hid hp
  have HG := Lib.hid hG
  have HT := Lib.hid hT
  clear hl hln hp hG hT
  go_enter Tryz.func40, Tryz.ntmps40
  go_wp2_with fail
  go_loopg [3, 11] n (fun gg s3 s11 wr => ∃ j : Nat, j + gg = n ∧ s11 = .int .i64 j ∧ Hid (GV w l j s3 wr))
  case atStart => exact ⟨0, by omega, rfl, Lib.hid ⟨[], rfl, World.ownsRow_nil _ _ _ _, Below.refl _ _⟩⟩
  case round =>
    obtain ⟨j, hjg, rfl, HA⟩ := hrel
    by_cases hlt : (j : Int) < n
    · have hj1 : j < l.length := by have := HL.out; omega
      obtain ⟨d, hd, hown, hbel⟩ := HA.out
      obtain ⟨s, p, o, ls, lp, lo, is, ip, io, ra⟩ := trisAt (Holds.below _ HH.out hbel) j hj1
      obtain ⟨f0, f1, f2⟩ := flat_at l j hj1
      obtain ⟨es, hes, hvs⟩ := is.plain (HP.out _ (List.mem_of_getElem? f0)).1
      obtain ⟨ep, hep, hvp⟩ := ip.plain (HP.out _ (List.mem_of_getElem? f1)).1
      obtain ⟨eo, heo, hvo⟩ := io.plain (HP.out _ (List.mem_of_getElem? f2)).1
      have hdl : d.length = 3 * j := GVlen hd (by omega)
      have HX := Lib.hid (And.intro hd (And.intro hown (And.intro hbel (And.intro hvs (And.intro hvp hvo)))))
      have HE := Lib.hid (And.intro hes (And.intro hep heo))
      clear hd hown hbel is ip io f0 f1 f2 hvs hvp hvo hes hep heo HA
      go_upto_region 5 with (first
        | ((with_reducible refine wpList_load18 (.tmp 13) g (off + j * 18) s p o ra ?_ ?_ ?_ ?_); rfl; rfl; rfl)
        | ((with_reducible refine wpList_store18 (.tmp 5) (.tmp 14) wr.heap.size s p o (heap_new _ _ rfl) rfl ?_ ?_ ?_ ?_ ?_); rfl; rfl; rfl; rfl; intro wX hoX B))
      have bX : Below wr.heap.size wr wX := below_only (below1 wr _) hoX (Nat.le_refl _) (by simp)
      have hownX := own_below HX.out.2.1 bX
      have hbs := HX.out.2.2.1.size
      have hfs := bX.size
      have HBX := Lib.hid bX
      clear hoX ra bX
      go_wp2_with (first
        | ((with_reducible refine wpList_mid6 (.tmp 16) wr.heap.size 0 s B.r0 ?_ ?_ ?_ ?_); rfl; rfl; rfl)
        | ((with_reducible refine wpList_mid6 (.tmp 18) wr.heap.size 6 p B.r1 ?_ ?_ ?_ ?_); rfl; rfl; rfl)
        | ((with_reducible refine wpList_mid6 (.tmp 20) wr.heap.size 12 o B.r2 ?_ ?_ ?_ ?_); rfl; rfl; rfl)
        | (at_builtin; refine wpList_append_own_at _ rfl _ _ 37 rfl w.heap.size 39 i0 (.agg #[.int .i64 0, .bool false, .int .i64 0, .string ⟨#[]⟩, .string ⟨#[]⟩, .slice none 0 0]) 6 80 Tryz.underlying37 hi hz0 hz1 hz2 rfl (by decide) _ _ _ rfl (hownX.alloc _) ⟨wX.heap.size, 0, none⟩ 3 3 [.int .i64 s.k, .bool s.b, .int .i64 s.n, .string s.t, .string s.x, .slice s.p s.len s.cap, .int .i64 p.k, .bool p.b, .int .i64 p.n, .string p.t, .string p.x, .slice p.p p.len p.cap, .int .i64 o.k, .bool o.b, .int .i64 o.n, .string o.t, .string o.x, .slice o.p o.len o.cap] rfl rfl (cell_18_new _ _ _ _ _) ?_ ?_ ?_ ?_ ?_))
      all_goals (try (first | (rw [hdl]; unfold maxLen; omega) | (rw [hdl]; omega) | (simp; omega) | (intro u hu; simp only [List.mem_cons, List.mem_nil_iff, or_false] at hu; rcases hu with rfl | rfl | rfl | rfl | rfl | rfl | rfl | rfl | rfl | rfl | rfl | rfl | rfl | rfl | rfl | rfl | rfl | rfl <;> rfl)))
      intro v' w1 hown' hgrow _ hloc
      have acc : GV w l (j + 1) v' w1 := by
        obtain ⟨hd, hown, hbel, hvs, hvp, hvo⟩ := HX.out
        obtain ⟨hes, hep, heo⟩ := HE.out
        refine ⟨d ++ [es, ep, eo], ?_, ?_, ?_⟩
        · rw [List.take_succ_eq_append_getElem hj1, List.map_append, hd]
          unfold flat
          rw [List.flatMap_append]
          congr 1
          simp [Tri3.l, hvs, hvp, hvo]
        · rw [List.length_append, List.flatMap_append, hdl]
          have e : [es, ep, eo].flatMap VE.enc = [.int .i64 s.k, .bool s.b, .int .i64 s.n, .string s.t, .string s.x, .slice s.p s.len s.cap, .int .i64 p.k, .bool p.b, .int .i64 p.n, .string p.t, .string p.x, .slice p.p p.len p.cap, .int .i64 o.k, .bool o.b, .int .i64 o.n, .string o.t, .string o.x, .slice o.p o.len o.cap] := by
            simp [VE.enc, hes, hep, heo]
          rw [e]
          exact hown'
        · exact ((hbel.trans (HBX.out.mono hbs)).alloc (by omega) _).grown hgrow (by simp; omega) (fun g hg => (hown.lt g hg).1)
      have ACC := Lib.hid acc
      clear acc hown' hgrow hloc hownX HX HE HBX
      go_wp2_with fail
      go_roundg (gk - 1)
      case measure => omega
      case rel => exact ⟨j + 1, by omega, by go_num, ACC⟩
    · obtain ⟨d, hd, hown, hbel⟩ := HA.out
      have hjn : j = l.length := by have := HL.out; omega
      have hdl : d.length = 3 * j := GVlen hd (by omega)
      rw [hjn, List.take_length] at hd
      obtain ⟨gv, cv, rfl, hgv, hgv2, hcap⟩ := own_form hown (by have := HL.out; omega)
      have hH := holdsK_of_own VE.len6 d hown
      have hs1 : d.toArray.size = d.length := List.size_toArray ..
      have hsort := sortValsB w wr HG.out HT.out hbel gv 0 cv d.toArray hgv hgv2 hH (by rw [hs1]; omega)
      rw [hs1] at hsort
      have HS := Lib.hid hsort
      have HX := Lib.hid (And.intro hd (And.intro hH hbel))
      have hdb : d.length ≤ 300000 := by omega
      have HDL : Hid (d.length = 3 * l.length) := Lib.hid (by omega)
      have hs1 := Lib.hid hs1
      clear hsort hH hd hown hbel HA hdl
      go_upto_region 9 with (first
        | (go_at_call 73; (with_reducible refine HS.out.mono ?_); rintro e2 w2 ⟨rfl, d', nn, os, hperm, hsorted, hw2⟩; have HW2 := Lib.hid hw2; clear hw2))
      have hsz : d'.size = d.length := (perm_whole hperm).1.trans hs1.out
      have hE : Elems VE.enc 6 w2 gv 0 d' := by rw [HW2.out]; exact Elems.of_holds (holdsK_sortWorldK VE.enc 6 wr gv 0 nn d.toArray d' os hgv2 HX.out.2.1 (perm_whole hperm).1) VE.len6
      have hlt2 : gv < w2.heap.size := by rw [HW2.out]; exact lt_sortWorldK VE.enc 6 wr gv 0 nn d' os hgv2
      have hon2 : Only gv wr w2 := by rw [HW2.out]; exact only_sort VE.enc 6 wr gv 0 nn d' os
      have hcomp := compactV gv 0 cv d' w2 hE hlt2 (by omega) (by omega)
      rw [hsz] at hcomp
      have HC := Lib.hid hcomp
      have HY := Lib.hid (And.intro hperm (And.intro hsorted (And.intro hsz hon2)))
      clear hcomp hperm hsorted hsz hon2 hE
      go_wp2_with (go_at_call 75; (with_reducible refine HC.out.mono ?_); rintro e3 w3 ⟨dk, rfl, hdk, hEk, hon3⟩)
      have hb3 : Below w.heap.size w w3 := below_only HX.out.2.2 (HY.out.2.2.2.trans hon3) hgv HX.out.2.2.size
      obtain ⟨hR, hM⟩ : Rise (dk.toList.map VE.val) ∧ ∀ u, u ∈ dk.toList.map VE.val ↔ u ∈ flat l := by
        obtain ⟨hperm, hsorted, hsz, _⟩ := HY.out
        rw [hdk, ← hsz]
        have q := fun dv : DecidableEq Val => compact_rise (dv := dv) hperm hsorted (by
          intro u hu
          rw [List.toList_toArray, HX.out.1] at hu
          exact (HP.out u hu).2)
        rw [List.toList_toArray, HX.out.1] at q
        exact q _
      have hpos : 0 < dk.size := by
        have hj1 : 0 < l.length := by have := HL.out; omega
        obtain ⟨f0, _⟩ := flat_at l 0 hj1
        have := (hM _).2 (List.mem_of_getElem? f0)
        obtain ⟨y, hy, _⟩ := List.mem_map.1 this
        have := List.length_pos_of_mem hy
        simpa using this
      have hlen : dk.size ≤ d.length := by
        have e := congrArg List.length hdk
        rw [List.length_map] at e
        have q := fun dv : DecidableEq Val => compact_len (dv := dv) (valsA d') d.length
        have h2 : dk.toList.length ≤ d.length := by rw [e]; exact q _
        simpa using h2
      have hgv3 : gv < w3.heap.size := Nat.lt_of_lt_of_le hlt2 hon3.size
      have HZ := Lib.hid (And.intro hR (And.intro hM (And.intro hEk hb3)))
      clear hR hM hEk hb3 hdk hon3 HY HC HX HS
      go_loopg [6, 30] dk.size (fun gg s6 s30 wq => ∃ j : Nat, j + gg = dk.size ∧ s30 = .int .i64 j ∧ Hid (GW w3 dk j s6 wq))
      case atStart => exact ⟨0, by omega, rfl, Lib.hid ⟨[], rfl, World.ownsRow_nil _ _ _ _, Below.refl _ _⟩⟩
      case round =>
        obtain ⟨j2, hjg2, rfl, HA2⟩ := hrel
        by_cases hlt3 : (j2 : Int) < dk.size
        · have hj2 : j2 < dk.size := by omega
          obtain ⟨d2, hd2, hown2, hbel2⟩ := HA2.out
          have hl2 : d2.length = j2 := by
            have := congrArg List.length hd2
            rw [List.length_map, List.length_map, List.length_take] at this
            simp at this
            omega
          obtain ⟨ee, hee⟩ : ∃ x, x = dk[j2]! := ⟨_, rfl⟩
          have re := range_below (HZ.out.2.2.1 j2 hj2).1 (hbel2.mono (Nat.le_refl _))
          rw [← hee] at re
          obtain ⟨⟨k, b, m, t, x, p, len, cap2⟩, hl0, hf⟩ := ee
          rw [Nat.zero_add] at re
          simp only [VE.enc] at re
          have HCL := Lib.hid (fun W => ownAt k b m t x p len cap2 W hf.ht hf.hx)
          have HX2 := Lib.hid (And.intro hd2 (And.intro hown2 hbel2))
          have HEE := Lib.hid hee
          clear hd2 hown2 hbel2 hee HA2
          go_upto_region 12 with (first
            | ((with_reducible refine wpList_mid6 (.tmp 32) gv (j2 * 6) ⟨k, b, m, t, x, p, len, cap2⟩ re ?_ ?_ ?_ ?_); rfl; rfl; rfl)
            | ((with_reducible refine wpList_store6 (k' := k) (b' := b) (n' := m) (t' := t) (x' := x) (p' := p) (len' := len) (cap' := cap2) (.tmp 8) (.tmp 33) wr.heap.size (six_new _ rfl) ?_ ?_ ?_ ?_ ?_); rfl; rfl; rfl; rfl; intro wX hoX u5))
          have bX : Below wr.heap.size wr wX := below_only (below1 wr _) hoX (Nat.le_refl _) (by simp)
          have hownX := own_below HX2.out.2.1 bX
          have hbs := HX2.out.2.2.size
          have hfs := bX.size
          have HBX := Lib.hid bX
          clear hoX re bX
          go_wp2_with (first
            | ((with_reducible refine wpList_load6 (.tmp 8) wr.heap.size u5 ?_ ?_ ?_ ?_); rfl; rfl; rfl)
            | (go_at_call 63; (with_reducible refine (HCL.out _).mono ?_); rintro e4 w4 ⟨rfl, hb4⟩
               have hown4 := own_below hownX hb4
               have hs4 := hb4.size
               have HB4 := Lib.hid hb4
               clear hb4)
            | (at_builtin; refine wpList_append_own_at _ rfl _ _ 37 rfl w3.heap.size 39 i0 (.agg #[.int .i64 0, .bool false, .int .i64 0, .string ⟨#[]⟩, .string ⟨#[]⟩, .slice none 0 0]) 6 80 Tryz.underlying37 hi hz0 hz1 hz2 rfl (by decide) _ _ _ rfl (hown4.alloc _) ⟨w4.heap.size, 0, none⟩ 1 1 [.int .i64 k, .bool b, .int .i64 m, .string t, .string x, .slice none 0 0] rfl rfl (cell_six_new _ _ _ _ _ _ _ _) ?_ ?_ ?_ ?_ ?_))
          all_goals (try (first | (rw [hl2]; unfold maxLen; omega) | (rw [hl2]; omega) | (simp; omega) | (intro u hu; simp only [List.mem_cons, List.mem_nil_iff, or_false] at hu; rcases hu with rfl | rfl | rfl | rfl | rfl | rfl <;> rfl)))
          intro v' w1 hown' hgrow _ hloc
          have acc : GW w3 dk (j2 + 1) v' w1 := by
            obtain ⟨hd2, hown2, hbel2⟩ := HX2.out
            refine ⟨d2 ++ [⟨⟨k, b, m, t, x, none, 0, 0⟩, rfl, hf⟩], ?_, ?_, ?_⟩
            · rw [List.take_succ_eq_append_getElem (by simpa using hj2), List.map_append, List.map_append, hd2]
              congr 1
              rw [Array.getElem_toList, ← getElem!_pos dk j2 hj2, ← HEE.out]
              rfl
            · rw [List.length_append, List.flatMap_append, hl2]
              exact hown'
            · exact (((hbel2.trans (HBX.out.mono hbs)).trans (HB4.out.mono (by omega))).alloc (by omega) _).grown hgrow (by simp; omega) (fun g hg => (hown2.lt g hg).1)
          have ACC := Lib.hid acc
          clear acc hown' hgrow hloc hownX hown4 HX2 HEE HBX HB4
          go_wp2_with fail
          go_roundg (gk - 1)
          case measure => omega
          case rel => exact ⟨j2 + 1, by omega, by go_num, ACC⟩
        · obtain ⟨d2, hd2, hown2, hbel2⟩ := HA2.out
          have hj2 : j2 = dk.toList.length := by simp; omega
          rw [hj2, List.take_length] at hd2
          have hl2 : d2.length = dk.size := by
            have := congrArg List.length hd2
            rw [List.length_map, List.length_map] at this
            simpa using this
          obtain ⟨g2, c2, rfl, hg2, _, hc2⟩ := own_form hown2 (by omega)
          have hh := holds_of_own d2 hown2
          obtain ⟨hR, hM, hEk, hb3⟩ := HZ.out
          have hfin : SVPost w l (.returned (.slice (some ⟨g2, 0, none⟩) d2.length c2)) wr :=
            ⟨d2.map VE.val, g2, c2, by rw [List.length_map], by rw [hd2]; exact hR, by rw [hd2]; exact hM, hh, Nat.le_trans hb3.size hg2, by rw [List.length_map]; exact hc2, by rw [List.length_map]; have := HL.out; have := HDL.out; omega, hb3.trans (hbel2.mono hb3.size)⟩
          have HF := Lib.hid hfin
          clear hfin hR hM hEk hb3 hh hd2 hown2 hbel2 HA2 hl2
          go_wp2_with fail
          go_ret
          exact HF.out
end Go.Proofs.YtanbgdhmfjgihaaGreatDoor
