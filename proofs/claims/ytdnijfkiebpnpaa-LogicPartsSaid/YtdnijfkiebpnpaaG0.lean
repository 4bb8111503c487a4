/- gather: the deferred function that recovers; an iterator's contract; the loop over it. -/
import Derived.Test.YtdnijfkiebpnpaaL6
import Derived.RangeFuncKeeps
import Derived.RangeFuncLeaves
import Derived.RangeFuncCalls
import Derived.RecoverIn
import Derived.Shelf.Abstract
import Derived.OwnWalkIn
import Derived.TacticsInMore
import Derived.LoopNIn
import Derived.LoopIn
namespace Go.Proofs.Ytdnijfkiebpnpaa
open Go.RowKit Go.Shelf
attribute [local go_sem] Oper.semAt_some

theorem catchIdle (w : World) : CallsDIn Fence.wide 2 Try.prog 28 #[] .returning w fun e u' w' => e = .returned (.tuple #[]) ∧ u' = .returning ∧ w' = w := by
  refine callsDIn_of_wpSIn Try.func28 rfl trivial (fun c₀ cs hu => ?_)
  apply wpSIn_region
  simp [wpOpsSIn, go_sem, recoverD, hu, Try.ntmps28, bodyPostS, results, Try.results28]
  cases c₀
  simp_all

theorem callsDAny {n m : Nat} {f : FuncId} {args : Array Value} {u : FrameMode} {w : World} {R : Ending → FrameMode → World → Prop} (h : CallsDIn Fence.wide n Try.prog f args u w R) : CallsDIn Fence.wide m Try.prog f args u w R :=
  ⟨trivial, fun c cs hu _ => h.2 c cs hu (room_wide _)⟩
theorem heapN (w : World) (o : Obj) {n : Nat} (h : w.heap.size = n) : (w.alloc o).heap[n]? = some o := by
  show (w.heap.push o)[n]? = _
  simp [← h]
theorem heapO {w : World} (o : Obj) {n : Nat} {x : Obj} (h : w.heap[n]? = some x) : (w.alloc o).heap[n]? = some x := by
  rw [Below.heap_alloc _ _ _ (by obtain ⟨a, _⟩ := Array.getElem?_eq_some_iff.1 h; exact a)]; exact h
theorem heapLt {w : World} {b : Nat} {o : Obj} (h : w.heap[b]? = some o) : b < w.heap.size := by
  obtain ⟨a, _⟩ := Array.getElem?_eq_some_iff.1 h; exact a
theorem cellAt {w : World} {b : Nat} {v : Value} {t : TypeId} (h : w.heap[b]? = some (.cells #[v] t)) : w.cell? ⟨b, 0, none⟩ = some v ∧ w.frozen? ⟨b, 0, none⟩ = false := by
  constructor <;> simp [World.cell?, World.frozen?, h]
theorem heapSet {w : World} {b : Nat} {v : Value} {t : TypeId} (h : w.heap[b]? = some (.cells #[v] t)) (u : Value) : (w.setCell ⟨b, 0, none⟩ u).heap[b]? = some (.cells #[u] t) := by
  simp [World.setCell, Array.getElem?_modify, h]
theorem eqNil (gf : FuncId) (lb : Array Value) (w : World) : (binOp .eql 30 (.func (.func gf) #[] lb) .nilFunc).run Try.prog w = .ok (.bool false) w := by
  kernel_rfl
theorem eqNil2 (w : World) : (binOp .eql 30 .nilFunc .nilFunc).run Try.prog w = .ok (.bool true) w := by
  kernel_rfl

/-- What the iterator does between two rounds: of the blocks from n₀ on nothing turns, and below N nothing. -/
structure Step (N n₀ : Nat) (A B : World) : Prop where
  bel : Below N A B
  block : ∀ k, n₀ ≤ k → k < A.heap.size → B.heap[k]? = A.heap[k]?

/-- The iterator's contract: it yields X, one by one; T says what its own cells hold when a part has come. -/
def Seq (gf : FuncId) (lb : Array Value) (X : List Int) (T : List Int → World → Prop) (N n₀ : Nat) (w : World) : Prop :=
  ∀ (l : Nat) (J Jx : List Int → World → Prop) (W : World), Below n₀ w W →
    (∀ xs A B, J xs A → Step N n₀ A B → J xs B) → (∀ xs A B, Jx xs A → Step N n₀ A B → Jx xs B) →
    (∀ pre x W1, J pre W1 → YieldAt Fence.wide 2 Try.prog l #[.int .i64 x] W1 fun e W' =>
      (e = .returned (.bool true) ∧ J (pre ++ [x]) W' ∧ Below n₀ W1 W') ∨ (e = .returned (.bool false) ∧ Jx (pre ++ [x]) W' ∧ Below n₀ W1 W')) →
    J [] W →
    CallsIn Fence.wide 3 Try.prog gf (#[.func (.yield l) #[] #[]] ++ lb) W fun e W' => (∃ v, e = .returned v) ∧ ((J X W' ∧ T X W') ∨ (∃ pre, pre <+: X ∧ Jx pre W' ∧ T pre W'))

/-- What a round of the loop keeps: the record and the block for deferred calls, from D on; below n₀ all. -/
structure Kept (D n₀ : Nat) (A B : World) : Prop where
  bel : Below n₀ A B
  block : ∀ k, D ≤ k → k < D + 2 → B.heap[k]? = A.heap[k]?

/-- How the body of a round may be left: it goes on, or by the one jump. -/
def roundEnd (D n₀ : Nat) (c : Code) (I Ix : World → Prop) (W : World) : Exit → Act → World → Prop
  | .normal, _, W' => Kept D n₀ W W' ∧ I W'
  | .exit id, _, W' => Kept D n₀ W W' ∧ c = .exit id ∧ Ix W'
  | _, _, _ => False

theorem below_put {n₀ : Nat} (W : World) {l : Nat} (o : Obj) (h : n₀ ≤ l) (hl : l < W.heap.size) : Below n₀ W (W.putObj l o) :=
  (Below.refl n₀ W).grown (grownBy_putObj' W l o) (by omega) (fun k e => by cases e; omega)

/-- A range over an iterator with that contract. -/
theorem wpIn_rangeFunc_seq {g : Operand} {p : Tmp} {assign body : Code} {Q : Exit → Act → World → Prop} {a : Act} {W0 : World} {gf : FuncId} {lb : Array Value} (hg : a.eval g = .func (.func gf) #[] lb)
    (hgE : ∀ args w, (callFunc gf args).run Try.prog w = .ok (.enter gf args) w) {X : List Int} {T : List Int → World → Prop} {N n₀ : Nat} {w : World} (hseq : Seq gf lb X T N n₀ w)
    (hT : ∀ pre A B, T pre A → Below n₀ A B → T pre B) (hb0 : Below n₀ w W0) (hn : n₀ ≤ W0.heap.size)
    (I Ix : List Int → World → Prop) (c : Code) (hI : ∀ xs A B, I xs A → Step N n₀ A B → I xs B) (hIx : ∀ xs A B, Ix xs A → Step N n₀ A B → Ix xs B)
    (hIp : ∀ xs A l o, I xs A → W0.heap.size ≤ l → l < A.heap.size → I xs (A.putObj l o)) (hIxp : ∀ xs A l o, Ix xs A → W0.heap.size ≤ l → l < A.heap.size → Ix xs (A.putObj l o))
    (h0 : ∀ o o', I [] ((W0.alloc o).alloc o')) (a₁ : Int → Act)
    (hassign : ∀ (l : Nat) (x : Int) (W : World) (K : Act → World → Prop), K (a₁ x) W →
      assign.wpIn (Fence.wide.inRound l) 2 Try.prog (Exit.then K (fun _ _ _ => False)) { tmps := a.tmps.setIfInBounds p (.int .i64 x), defers := [] } W)
    (hbody : ∀ (l : Nat) (pre : List Int) (x : Int) (W : World), I pre W → W0.heap.size + 2 ≤ W.heap.size → body.wpIn (Fence.wide.inRound l) 2 Try.prog (roundEnd W0.heap.size n₀ c (I (pre ++ [x])) (Ix (pre ++ [x])) W) (a₁ x) W)
    (hdone : ∀ (D : Nat) (W : World), W0.heap.size ≤ D → I X W → T X W → W.heap[D]? = some (.deferred (some [])) → Q .normal { a with defers := { target := .collected D, args := #[] } :: a.defers } W)
    (hstop : ∀ (D : Nat) (pre : List Int) (W : World), W0.heap.size ≤ D → pre <+: X → Ix pre W → T pre W → W.heap[D]? = some (.deferred (some [])) → c.wpIn Fence.wide 4 Try.prog Q { a with defers := { target := .collected D, args := #[] } :: a.defers } W) :
    (Code.rangeFunc g #[p] assign body).wpIn Fence.wide 4 Try.prog Q a W0 := by
  refine wpIn_rangeFunc ?_
  intro fn hfn
  obtain ⟨r, hr⟩ : ∃ r : LoopState → Option Code → Loop, r = fun st pe => { state := st, pending := pe, fn, tmps := a.tmps, params := #[p], assign, body, defers := W0.heap.size } := ⟨_, rfl⟩
  obtain ⟨W1, hW1⟩ : ∃ W1, W1 = (W0.alloc (.deferred (some []))).alloc (.loop (r .ready none)) := ⟨_, rfl⟩
  have hl1 : W1.heap[W0.heap.size + 1]? = some (.loop (r .ready none)) := by rw [hW1]; exact heapN _ _ (by simp)
  have hd1 : W1.heap[W0.heap.size]? = some (.deferred (some [])) := by rw [hW1]; exact heapO _ (heapN _ _ rfl)
  have hb1 : Below n₀ w W1 := by rw [hW1]; exact (hb0.alloc hn _).alloc (by simp; omega) _
  have hi1 : I [] W1 := by rw [hW1]; exact h0 _ _
  refine ⟨W0.heap.size + 1, [{ target := .collected W0.heap.size, args := #[] }], W1, { target := .fn (.func gf) lb, args := #[.func (.yield (W0.heap.size + 1)) #[] #[]] }, W1, gf, #[.func (.yield (W0.heap.size + 1)) #[] #[]] ++ lb, W1, ?_, ?_, ?_, ?_, fun _ => by omega, ?_⟩
  · rw [hW1, hr]; exact run_enterLoop_outer _ _ _ _ _
  · simp only [resolve, hg]
    simp [go_sem]
  · intro f' _; trivial
  · simp [invoke, go_sem, hgE]
  · refine (hseq (W0.heap.size + 1)
      (fun pre W => I pre W ∧ W.heap[W0.heap.size + 1]? = some (.loop (r .ready none)) ∧ W.heap[W0.heap.size]? = some (.deferred (some [])))
      (fun pre W => Ix pre W ∧ W.heap[W0.heap.size + 1]? = some (.loop (r .done (some c))) ∧ W.heap[W0.heap.size]? = some (.deferred (some [])))
      W1 hb1 ?_ ?_ ?_ ⟨hi1, hl1, hd1⟩).mono ?_
    · rintro xs A B ⟨hi, hl, hd⟩ hst
      exact ⟨hI _ _ _ hi hst, (hst.block _ (by omega) (heapLt hl)).trans hl, (hst.block _ hn (heapLt hd)).trans hd⟩
    · rintro xs A B ⟨hi, hl, hd⟩ hst
      exact ⟨hIx _ _ _ hi hst, (hst.block _ (by omega) (heapLt hl)).trans hl, (hst.block _ hn (heapLt hd)).trans hd⟩
    · rintro pre x W ⟨hi, hl, hd⟩
      have hlt := heapLt hl
      have hy := run_yield (P := Try.prog) (args := #[.int .i64 x]) hl (by rw [hr]; rfl)
      rw [hr] at hy
      have hz : (#[p].zip #[Value.int .i64 x]) = #[(p, Value.int .i64 x)] := by simp
      simp only [hz, List.size_toArray, List.length_cons, List.length_nil, Nat.reduceAdd, List.foldl_toArray', List.foldl_cons, List.foldl_nil] at hy
      refine ⟨fn, _, assign, body, hy, roundIn_of_wpIn trivial ?_⟩
      refine hassign _ x W _ ?_
      refine ⟨_, run_beginRound hl (by rw [hr]), ?_⟩
      obtain ⟨W2, hW2⟩ : ∃ W2, W2 = W.putObj (W0.heap.size + 1) (.loop { r .ready none with state := .busy }) := ⟨_, rfl⟩
      rw [← hW2]
      have hl2 : W2.heap[W0.heap.size + 1]? = some (.loop { r .ready none with state := .busy }) := by rw [hW2]; exact World.putObj_heap_same hlt
      have hd2 : W2.heap[W0.heap.size]? = some (.deferred (some [])) := by rw [hW2]; exact (World.putObj_heap_other (by omega)).trans hd
      have hk2 : Below n₀ W W2 := by rw [hW2]; exact below_put W _ (by omega) hlt
      have hi2 : I pre W2 := by rw [hW2]; exact hIp _ _ _ _ hi (by omega) hlt
      refine wpIn_mono (hbody _ pre x W2 hi2 (by have := heapLt hl2; omega)) ?_
      rintro e a3 W3 hp
      cases e with
      | normal =>
        obtain ⟨hk, hi3⟩ := hp
        have hl3 := (hk.block _ (by omega) (by omega)).trans hl2
        have hd3 := (hk.block W0.heap.size (by omega) (by omega)).trans hd2
        have hend := run_endRound (P := Try.prog) none hl3
        rw [hr] at hend
        refine ⟨_, _, hend, .inl ⟨rfl, ⟨hIp _ _ _ _ hi3 (by omega) (heapLt hl3), ?_, (World.putObj_heap_other (by omega)).trans hd3⟩, (hk2.trans hk.bel).trans (below_put W3 _ (by omega) (heapLt hl3))⟩⟩
        rw [hr]; exact World.putObj_heap_same (heapLt hl3)
      | exit id =>
        obtain ⟨hk, hc, hi3⟩ := hp
        have hl3 := (hk.block _ (by omega) (by omega)).trans hl2
        have hd3 := (hk.block W0.heap.size (by omega) (by omega)).trans hd2
        have hend := run_endRound (P := Try.prog) (some (.exit id)) hl3
        rw [hr] at hend
        refine ⟨_, _, hend, .inr ⟨rfl, ⟨hIxp _ _ _ _ hi3 (by omega) (heapLt hl3), ?_, (World.putObj_heap_other (by omega)).trans hd3⟩, (hk2.trans hk.bel).trans (below_put W3 _ (by omega) (heapLt hl3))⟩⟩
        rw [hr, hc]; exact World.putObj_heap_same (heapLt hl3)
      | _ => exact hp.elim
    · rintro e W2 ⟨⟨v, rfl⟩, (⟨⟨hi, hl, hd⟩, ht⟩ | ⟨pre, hpre, ⟨hi, hl, hd⟩, ht⟩)⟩
      · have hend := run_endLoop (P := Try.prog) hl (by rw [hr]; simp)
        rw [hr] at hend
        exact ⟨none, _, hend, hdone _ _ (Nat.le_refl _) (hIp _ _ _ _ hi (by omega) (heapLt hl)) (hT _ _ _ ht (below_put W2 _ (by omega) (heapLt hl))) ((World.putObj_heap_other (by omega)).trans hd)⟩
      · have hend := run_endLoop (P := Try.prog) hl (by rw [hr]; simp)
        rw [hr] at hend
        exact ⟨some c, _, hend, hstop _ pre _ (Nat.le_refl _) hpre (hIxp _ _ _ _ hi (by omega) (heapLt hl)) (hT _ _ _ ht (below_put W2 _ (by omega) (heapLt hl))) ((World.putObj_heap_other (by omega)).trans hd)⟩
end Go.Proofs.Ytdnijfkiebpnpaa
