/- gather with And: All. -/
import Derived.Test.YtdnijfkiebpnpaaG0
import Derived.Outline
import Derived.Lib.Hide
namespace Go.Proofs.Ytdnijfkiebpnpaa
open Go.RowKit Go.Shelf
attribute [local go_sem] Oper.semAt_some

/-- What has been joined when pre has come. -/
def accA (first : Int) (pre : List Int) : Int := pre.foldl (fun s x => andT (tr s) (tr x)) first
theorem accA_snoc (first : Int) (pre : List Int) (x : Int) : accA first (pre ++ [x]) = andT (tr (accA first pre)) (tr x) := by simp [accA]
/-- gather's three blocks. -/
structure Gat (N : Nat) (w : World) (settled acc : Int) (W : World) : Prop where
  h0 : W.heap[w.heap.size]? = some (.cells #[.func (.func 9) #[] #[]] 26)
  h1 : W.heap[w.heap.size + 1]? = some (.cells #[.int .i64 settled] 3)
  h2 : W.heap[w.heap.size + 2]? = some (.cells #[.int .i64 acc] 3)
  bel : Below N w W
theorem Gat.step {N : Nat} {w A B : World} {settled acc : Int} (h : Gat N w settled acc A) (k : Step N w.heap.size A B) : Gat N w settled acc B :=
  ⟨(k.block _ (by omega) (heapLt h.h0)).trans h.h0, (k.block _ (by omega) (heapLt h.h1)).trans h.h1, (k.block _ (by omega) (heapLt h.h2)).trans h.h2, h.bel.trans k.bel⟩
theorem Gat.put {N : Nat} {w A : World} {settled acc : Int} (h : Gat N w settled acc A) (hN : N ≤ w.heap.size) {l : Nat} (o : Obj) (hl : w.heap.size + 3 ≤ l) (hlt : l < A.heap.size) : Gat N w settled acc (A.putObj l o) :=
  ⟨(World.putObj_heap_other (by omega)).trans h.h0, (World.putObj_heap_other (by omega)).trans h.h1, (World.putObj_heap_other (by omega)).trans h.h2,
    h.bel.trans ((Below.refl N A).grown (grownBy_putObj' A l o) (by omega) (fun k e => by cases e; omega))⟩
theorem Gat.below {N : Nat} {w A B : World} {settled acc : Int} (h : Gat N w settled acc A) (hN : N ≤ w.heap.size) (k : Below A.heap.size A B) : Gat N w settled acc B :=
  ⟨(k.block _ (heapLt h.h0)).trans h.h0, (k.block _ (heapLt h.h1)).trans h.h1, (k.block _ (heapLt h.h2)).trans h.h2, h.bel.trans (k.mono (by have := heapLt h.h0; omega))⟩
theorem Gat.set {N : Nat} {w A : World} {settled acc : Int} (h : Gat N w settled acc A) (hN : N ≤ w.heap.size) (v : Int) : Gat N w settled v (A.setCell ⟨w.heap.size + 2, 0, none⟩ (.int .i64 v)) :=
  ⟨(Below.heap_setCell _ _ _ _ (by simp)).trans h.h0, (Below.heap_setCell _ _ _ _ (by simp)).trans h.h1, heapSet h.h2 _, h.bel.setCell (p := ⟨w.heap.size + 2, 0, none⟩) (show N ≤ w.heap.size + 2 by omega) _⟩

set_option maxRecDepth 20000 in
set_option maxHeartbeats 1600000 in
theorem gatherAll (gf : FuncId) (lb : Array Value) (hgE : ∀ args w, (callFunc gf args).run Try.prog w = .ok (.enter gf args) w) (first settled : Int) (hfs : first ≠ settled) (X : List Int) (T : List Int → World → Prop) (N : Nat) (w : World)
    (hN : N ≤ w.heap.size) (hT : ∀ pre A B, T pre A → Below w.heap.size A B → T pre B) (hseq : Seq gf lb X T N w.heap.size w) :
    CallsIn Fence.wide 4 Try.prog 26 #[.func (.func gf) #[] lb, .func (.func 9) #[] #[], .int .i64 first, .int .i64 settled] w fun e w' => ∃ pre, pre <+: X ∧ e = .returned (.int .i64 (accA first pre)) ∧ T pre w' ∧ Below N w w' ∧
      ((pre = X ∧ accA first pre ≠ settled) ∨ (∃ p x, pre = p ++ [x] ∧ accA first p ≠ settled ∧ accA first pre = settled)) := by
  refine callsIn_of_wp_marks Try.func26 rfl trivial ?_ rfl
  simp only [Try.ntmps26, List.size_toArray, List.length_cons, List.length_nil, Nat.reduceAdd, Nat.reduceSub, Array.replicate_succ, Array.replicate_zero, List.push_toArray, List.append_toArray, List.nil_append, List.cons_append]
  have hX := Lib.hid hseq
  have hY := Lib.hid hT
  have hZ := Lib.hid hfs
  have hG := Lib.hid hgE
  have hq := eqNil gf lb
  clear hseq hT hfs hgE
  gi_wp2
  obtain ⟨W0, hW0⟩ : ∃ W0, W0 = ((w.alloc (.cells #[.func (.func 9) #[] #[]] 26)).alloc (.cells #[.int .i64 settled] 3)).alloc (.cells #[.int .i64 first] 3) := ⟨_, rfl⟩
  rw [← hW0]
  have G0 : Gat N w settled (accA first []) W0 := by
    rw [hW0]
    exact ⟨heapO _ (heapO _ (heapN _ _ rfl)), heapO _ (heapN _ _ (by simp)), heapN _ _ (by simp), (((Below.refl N w).alloc hN _).alloc (by simp; omega) _).alloc (by simp; omega) _⟩
  have hs0 : W0.heap.size = w.heap.size + 3 := by rw [hW0]; simp
  have hb0 : Below w.heap.size w W0 := by rw [hW0]; exact (((Below.refl _ w).alloc (Nat.le_refl _) _).alloc (by simp) _).alloc (by simp; omega) _
  clear hW0 hq
  have HS := Lib.hid hs0
  refine wpIn_rangeFunc_seq (gf := gf) (lb := lb) rfl hG.out hX.out hY.out hb0 (by omega)
    (fun pre W => Gat N w settled (accA first pre) W ∧ Hid (accA first pre ≠ settled))
    (fun pre W => Gat N w settled (accA first pre) W ∧ Hid (∃ p x, pre = p ++ [x] ∧ accA first p ≠ settled ∧ accA first pre = settled)) (.exit 0)
    (fun _ _ _ h k => ⟨h.1.step k, h.2⟩) (fun _ _ _ h k => ⟨h.1.step k, h.2⟩)
    (fun _ _ _ o h a b => ⟨h.1.put hN o (by omega) b, h.2⟩) (fun _ _ _ o h a b => ⟨h.1.put hN o (by omega) b, h.2⟩)
    (fun o o' => ⟨(G0.below hN ((Below.refl _ W0).alloc (Nat.le_refl _) o)).below hN ((Below.refl _ _).alloc (Nat.le_refl _) o'), hZ⟩)
    (fun x => { tmps := #[.func (.func gf) #[] lb, .func (.func 9) #[] #[], .int .i64 first, .int .i64 settled, undef, .pointer (some ⟨w.heap.size, 0, none⟩), undef, .pointer (some ⟨w.heap.size + 1, 0, none⟩), .pointer (some ⟨w.heap.size + 1 + 1, 0, none⟩),
      .int .i64 x, .int .i64 first, .func (.func gf) #[] lb, .bool false, undef, .func (.func gf) #[] lb, .int .i64 x, undef, undef, undef, undef, undef, undef, undef, undef], defers := [] }) ?assign ?body ?done ?stop
  case assign =>
    intro l x W K hK
    gi_wp2
    exact hK
  case body =>
    rintro l pre x W ⟨hi, hne⟩ hsz
    have c0 := cellAt hi.h0
    have c1 := cellAt hi.h1
    have c2 := cellAt hi.h2
    obtain ⟨c01, c02⟩ := c0
    obtain ⟨c11, c12⟩ := c1
    obtain ⟨c21, c22⟩ := c2
    have HI := Lib.hid hi
    obtain ⟨v, hv⟩ : ∃ v, v = andT (tr (accA first pre)) (tr x) := ⟨_, rfl⟩
    have hc := fun W => andAt (accA first pre) x W
    rw [← hv] at hc
    have HV := Lib.hid hv
    clear hi hv
    by_cases hvs : v = settled
    · have hq : (v == settled) = true := by simpa using hvs
      have HQ := Lib.hid hvs
      clear hvs
      gi_wp2_with (refine ⟨trivial, ?_⟩; gi_at_call 9; refine (CallsIn.inRound l (callsIn_wide.2 (hc _))).mono ?_; rintro e W2 ⟨rfl, hb⟩; have hi2 := HI.out.below hN hb; obtain ⟨d11, d12⟩ := cellAt hi2.h1; obtain ⟨d21, d22⟩ := cellAt hi2.h2)
      have e0 := HS.out
      have hbb : Below w.heap.size W W2 := hb.mono (by omega)
      have hkept : Kept W0.heap.size w.heap.size W (W2.setCell ⟨w.heap.size + 2, 0, none⟩ (.int .i64 v)) :=
        ⟨hbb.setCell (p := ⟨w.heap.size + 2, 0, none⟩) (show w.heap.size ≤ w.heap.size + 2 by omega) _, fun k h1 h2 => (Below.heap_setCell _ _ _ _ (by simp; omega)).trans (hb.block k (by omega))⟩
      have hacc : accA first (pre ++ [x]) = v := by rw [accA_snoc, HV.out]
      refine ⟨hkept, rfl, ?_, Lib.hid ⟨pre, x, rfl, hne.out, by rw [hacc]; exact HQ.out⟩⟩
      rw [hacc]
      exact hi2.set hN v
    · have hq : (v == settled) = false := by simpa using hvs
      have HQ := Lib.hid hvs
      clear hvs
      gi_wp2_with (refine ⟨trivial, ?_⟩; gi_at_call 9; refine (CallsIn.inRound l (callsIn_wide.2 (hc _))).mono ?_; rintro e W2 ⟨rfl, hb⟩; have hi2 := HI.out.below hN hb; obtain ⟨d11, d12⟩ := cellAt hi2.h1; obtain ⟨d21, d22⟩ := cellAt hi2.h2)
      have e0 := HS.out
      have hbb : Below w.heap.size W W2 := hb.mono (by omega)
      have hkept : Kept W0.heap.size w.heap.size W (W2.setCell ⟨w.heap.size + 2, 0, none⟩ (.int .i64 v)) :=
        ⟨hbb.setCell (p := ⟨w.heap.size + 2, 0, none⟩) (show w.heap.size ≤ w.heap.size + 2 by omega) _, fun k h1 h2 => (Below.heap_setCell _ _ _ _ (by simp; omega)).trans (hb.block k (by omega))⟩
      have hacc : accA first (pre ++ [x]) = v := by rw [accA_snoc, HV.out]
      refine ⟨hkept, ?_, Lib.hid (by rw [hacc]; exact HQ.out)⟩
      rw [hacc]
      exact hi2.set hN v
  case done =>
    rintro D W hD ⟨hi, hne⟩ ht hd
    obtain ⟨c21, c22⟩ := cellAt hi.h2
    gi_wp2
    have hi3 := hi.set hN (accA first X)
    have hb3 := (Below.refl w.heap.size W).setCell (p := ⟨w.heap.size + 2, 0, none⟩) (show w.heap.size ≤ w.heap.size + 2 by omega) (.int .i64 (accA first X))
    have hd3 : (W.setCell ⟨w.heap.size + 2, 0, none⟩ (.int .i64 (accA first X))).heap[D]? = some (.deferred (some [])) := (Below.heap_setCell _ _ _ _ (by simp; omega)).trans hd
    have hi4 := hi3.put hN (l := D) (.deferred none) (by omega) (heapLt hd3)
    have ht4 := hY.out _ _ _ ht (hb3.trans (below_put _ (l := D) (.deferred none) (by omega) (heapLt hd3)))
    refine ⟨by simp, .inl ⟨_, _, rfl, run_takeDeferred hd3, ?_⟩⟩
    refine ⟨by simp, .inr ⟨fun _ => by omega, .func 28, #[], 28, #[], rfl, by simp [invoke, go_sem], fun _ _ => trivial, ?_⟩⟩
    refine (callsDAny (catchIdle _)).mono ?_
    rintro e u' w' ⟨rfl, rfl, rfl⟩
    obtain ⟨c41, c42⟩ := cellAt hi4.h2
    exact ⟨_, by simp [results, Try.results26, go_sem, c41], X, List.prefix_refl _, rfl, ht4, hi4.bel, .inl ⟨rfl, hne.out⟩⟩
  case stop =>
    rintro D pre W hD hpre ⟨hi, hne⟩ ht hd
    obtain ⟨c21, c22⟩ := cellAt hi.h2
    gi_wp2
    have hi3 := hi.set hN (accA first pre)
    have hb3 := (Below.refl w.heap.size W).setCell (p := ⟨w.heap.size + 2, 0, none⟩) (show w.heap.size ≤ w.heap.size + 2 by omega) (.int .i64 (accA first pre))
    have hd3 : (W.setCell ⟨w.heap.size + 2, 0, none⟩ (.int .i64 (accA first pre))).heap[D]? = some (.deferred (some [])) := (Below.heap_setCell _ _ _ _ (by simp; omega)).trans hd
    have hi4 := hi3.put hN (l := D) (.deferred none) (by omega) (heapLt hd3)
    have ht4 := hY.out _ _ _ ht (hb3.trans (below_put _ (l := D) (.deferred none) (by omega) (heapLt hd3)))
    refine ⟨by simp, .inl ⟨_, _, rfl, run_takeDeferred hd3, ?_⟩⟩
    refine ⟨by simp, .inr ⟨fun _ => by omega, .func 28, #[], 28, #[], rfl, by simp [invoke, go_sem], fun _ _ => trivial, ?_⟩⟩
    refine (callsDAny (catchIdle _)).mono ?_
    rintro e u' w' ⟨rfl, rfl, rfl⟩
    obtain ⟨c41, c42⟩ := cellAt hi4.h2
    exact ⟨_, by simp [results, Try.results26, go_sem, c41], pre, hpre, rfl, ht4, hi4.bel, .inr hne.out⟩
end Go.Proofs.Ytdnijfkiebpnpaa
