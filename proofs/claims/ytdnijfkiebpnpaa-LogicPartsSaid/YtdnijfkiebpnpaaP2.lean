/- The law LogicParts: what All and Any say of parts. -/
import Derived.Test.YtdnijfkiebpnpaaP1
namespace Go.Proofs.Ytdnijfkiebpnpaa
open Go.RowKit

theorem andT_one {a : Int} (h : T3 a) : andT a 1 = a := by rcases h with rfl | rfl | rfl <;> decide
theorem orT_nil {a : Int} (h : T3 a) : orT a 0 = a := by rcases h with rfl | rfl | rfl <;> decide
theorem and_assoc3 {a b c : Int} (h : T3 a) (g : T3 b) (k : T3 c) : andT (andT a b) c = andT a (andT b c) := by
  rcases h with rfl | rfl | rfl <;> rcases g with rfl | rfl | rfl <;> rcases k with rfl | rfl | rfl <;> decide
theorem or_assoc3 {a b c : Int} (h : T3 a) (g : T3 b) (k : T3 c) : orT (orT a b) c = orT a (orT b c) := by
  rcases h with rfl | rfl | rfl <;> rcases g with rfl | rfl | rfl <;> rcases k with rfl | rfl | rfl <;> decide
theorem notOr3 {a b : Int} (h : T3 a) (g : T3 b) : notT (orT a (notT b)) = andT (notT a) b := by
  rcases h with rfl | rfl | rfl <;> rcases g with rfl | rfl | rfl <;> decide
theorem t3_accA (Z : Nat → Int) (m : Nat) : T3 (accA 1 (truths Z m)) := by
  cases m with
  | zero => exact t3_1
  | succ m => rw [truths_succ, accA_snoc]; exact t3_and _ _
theorem t3_accO (Z : Nat → Int) (m : Nat) : T3 (accO 0 (truths Z m)) := by
  cases m with
  | zero => exact t3_0
  | succ m => rw [truths_succ, accO_snoc]; exact t3_or _ _
theorem tr_tr (z : Int) : tr (tr z) = tr z := t3_tr (t3_of_tr z)
theorem partsA (Z : Nat → Int) (k m : Nat) : accA 1 (truths Z (k + m)) = andT (accA 1 (truths Z k)) (accA 1 (truths (fun i => Z (k + i)) m)) := by
  induction m with
  | zero => exact (andT_one (t3_accA Z k)).symm
  | succ m ih =>
    rw [← Nat.add_assoc, truths_succ, truths_succ, accA_snoc, accA_snoc, tr_tr, t3_tr (t3_accA _ _), t3_tr (t3_accA _ _), ih, and_assoc3 (t3_accA _ _) (t3_accA _ _) (t3_of_tr _)]
theorem partsO (Z : Nat → Int) (k m : Nat) : accO 0 (truths Z (k + m)) = orT (accO 0 (truths Z k)) (accO 0 (truths (fun i => Z (k + i)) m)) := by
  induction m with
  | zero => exact (orT_nil (t3_accO Z k)).symm
  | succ m ih =>
    rw [← Nat.add_assoc, truths_succ, truths_succ, accO_snoc, accO_snoc, tr_tr, t3_tr (t3_accO _ _), t3_tr (t3_accO _ _), ih, or_assoc3 (t3_accO _ _) (t3_accO _ _) (t3_of_tr _)]
theorem notsA (Z : Nat → Int) (m : Nat) : accA 1 (truths Z m) = notT (accO 0 (truths (neg true Z) m)) := by
  induction m with
  | zero => rfl
  | succ m ih =>
    rw [truths_succ, truths_succ, accA_snoc, accO_snoc, tr_tr, t3_tr (t3_accA _ _), t3_tr (t3_accO _ _), show tr (tr (neg true Z m)) = notT (tr (Z m)) by rw [tr_tr]; exact tr_not _, ih, notOr3 (t3_accO _ _) (t3_of_tr _)]

theorem allOf (gf : FuncId) (lb : Array Value) (hgE : ∀ args w, (callFunc gf args).run Try.prog w = .ok (.enter gf args) w) (Z : Nat → Int) (m : Nat) (P : World → Prop) (N : Nat) (w : World) (hN : N ≤ w.heap.size)
    (hP : ∀ A B, P A → Below w.heap.size A B → P B) (hseq : Seq gf lb (truths Z m) (fun _ W => P W) N w.heap.size w) :
    Calls Try.prog 17 #[.func (.func gf) #[] lb] w fun e w' => e = .returned (.int .i64 (accA 1 (truths Z m))) ∧ P w' ∧ Below N w w' := by
  refine (allAt gf lb hgE (truths Z m) _ N w hN (fun _ A B h k => hP A B h k) hseq).mono ?_
  rintro e w' ⟨pre, rfl, hp, hb, hend⟩
  exact ⟨by rw [(ends_says absA hend).1], hp, hb⟩
theorem anyOf (gf : FuncId) (lb : Array Value) (hgE : ∀ args w, (callFunc gf args).run Try.prog w = .ok (.enter gf args) w) (Z : Nat → Int) (m : Nat) (P : World → Prop) (N : Nat) (w : World) (hN : N ≤ w.heap.size)
    (hP : ∀ A B, P A → Below w.heap.size A B → P B) (hseq : Seq gf lb (truths Z m) (fun _ W => P W) N w.heap.size w) :
    Calls Try.prog 18 #[.func (.func gf) #[] lb] w fun e w' => e = .returned (.int .i64 (accO 0 (truths Z m))) ∧ P w' ∧ Below N w w' := by
  refine (anyAt gf lb hgE (truths Z m) _ N w hN (fun _ A B h k => hP A B h k) hseq).mono ?_
  rintro e w' ⟨pre, rfl, hp, hb, hend⟩
  exact ⟨by rw [(ends_says absO hend).1], hp, hb⟩

/-- What the law's round holds: its boxes, the numbers. -/
structure Box (w : World) (pb nb : Nat) (p : Option Addr) (n cap k : Nat) (W : World) : Prop where
  hp : W.heap[pb]? = some (.cells #[.slice p n cap] 24)
  hq : W.heap[nb]? = some (.cells #[.int .i64 k] 3)
  bel : Below w.heap.size w W
theorem Box.below {w A B : World} {pb nb n cap k : Nat} {p : Option Addr} (h : Box w pb nb p n cap k A) (hb : Below A.heap.size A B) : Box w pb nb p n cap k B :=
  ⟨(hb.block _ (heapLt h.hp)).trans h.hp, (hb.block _ (heapLt h.hq)).trans h.hq, h.bel.trans (hb.mono h.bel.size)⟩
theorem firstA {w W : World} {pb nb n cap k b off : Nat} {Z : Nat → Int} (h : Box w pb nb (some ⟨b, off, none⟩) n cap k W) (hpN : w.heap.size ≤ pb) (hn : n ≤ 60) (hk : k ≤ n) (hcap : n ≤ cap) (hcm : cap ≤ maxLen) (hb : b < w.heap.size) (he : Elems w b off n Z) :
    Calls Try.prog 17 #[.func (.func 19) #[] #[.pointer (some ⟨pb, 0, none⟩), .pointer (some ⟨nb, 0, none⟩)]] W fun e w' => e = .returned (.int .i64 (accA 1 (truths Z (k)))) ∧ Box w pb nb (some ⟨b, off, none⟩) n cap k w' := by
  have l1 := heapLt h.hp
  have l2 := heapLt h.hq
  have hs := h.bel.size
  have he2 : Elems W b off n Z := fun i hi => (h.bel.cell (p := ⟨b, off + i, none⟩) hb).trans (he i hi)
  refine (allOf 19 _ (enters_of Try.func19 (by kernel_rfl) rfl) Z (k) (Box w pb nb (some ⟨b, off, none⟩) n cap k) w.heap.size W hs (fun A B hA hAB => ⟨(hAB.block _ l1).trans hA.hp, (hAB.block _ l2).trans hA.hq, hA.bel.trans (hAB.mono hs)⟩) ?_).mono ?_
  · exact firstSeq _ pb nb n k cap (some ⟨b, off, none⟩) Z w.heap.size W.heap.size W l1 l2 hn hk hcap hcm (Nat.le_refl _) (fun A B hA hAB => ⟨(hAB.block _ l1).trans hA.hp, (hAB.block _ l2).trans hA.hq, hA.bel.trans (hAB.mono hs)⟩) h h.hp h.hq (.inr ⟨b, off, rfl, by omega, fun i hi => he2 i (by omega)⟩)
  · rintro e w' ⟨rfl, h2, _⟩
    exact ⟨rfl, h2⟩
theorem firstO {w W : World} {pb nb n cap k b off : Nat} {Z : Nat → Int} (h : Box w pb nb (some ⟨b, off, none⟩) n cap k W) (hpN : w.heap.size ≤ pb) (hn : n ≤ 60) (hk : k ≤ n) (hcap : n ≤ cap) (hcm : cap ≤ maxLen) (hb : b < w.heap.size) (he : Elems w b off n Z) :
    Calls Try.prog 18 #[.func (.func 19) #[] #[.pointer (some ⟨pb, 0, none⟩), .pointer (some ⟨nb, 0, none⟩)]] W fun e w' => e = .returned (.int .i64 (accO 0 (truths Z (k)))) ∧ Box w pb nb (some ⟨b, off, none⟩) n cap k w' := by
  have l1 := heapLt h.hp
  have l2 := heapLt h.hq
  have hs := h.bel.size
  have he2 : Elems W b off n Z := fun i hi => (h.bel.cell (p := ⟨b, off + i, none⟩) hb).trans (he i hi)
  refine (anyOf 19 _ (enters_of Try.func19 (by kernel_rfl) rfl) Z (k) (Box w pb nb (some ⟨b, off, none⟩) n cap k) w.heap.size W hs (fun A B hA hAB => ⟨(hAB.block _ l1).trans hA.hp, (hAB.block _ l2).trans hA.hq, hA.bel.trans (hAB.mono hs)⟩) ?_).mono ?_
  · exact firstSeq _ pb nb n k cap (some ⟨b, off, none⟩) Z w.heap.size W.heap.size W l1 l2 hn hk hcap hcm (Nat.le_refl _) (fun A B hA hAB => ⟨(hAB.block _ l1).trans hA.hp, (hAB.block _ l2).trans hA.hq, hA.bel.trans (hAB.mono hs)⟩) h h.hp h.hq (.inr ⟨b, off, rfl, by omega, fun i hi => he2 i (by omega)⟩)
  · rintro e w' ⟨rfl, h2, _⟩
    exact ⟨rfl, h2⟩
theorem restA {w W : World} {pb nb n cap k b off : Nat} {Z : Nat → Int} (h : Box w pb nb (some ⟨b, off, none⟩) n cap k W) (hpN : w.heap.size ≤ pb) (hn : n ≤ 60) (hk : k ≤ n) (hcap : n ≤ cap) (hcm : cap ≤ maxLen) (hb : b < w.heap.size) (he : Elems w b off n Z) :
    Calls Try.prog 17 #[.func (.func 21) #[] #[.pointer (some ⟨pb, 0, none⟩), .pointer (some ⟨nb, 0, none⟩)]] W fun e w' => e = .returned (.int .i64 (accA 1 (truths (fun i => Z (k + i)) (n - k)))) ∧ Box w pb nb (some ⟨b, off, none⟩) n cap k w' := by
  have l1 := heapLt h.hp
  have l2 := heapLt h.hq
  have hs := h.bel.size
  have he2 : Elems W b off n Z := fun i hi => (h.bel.cell (p := ⟨b, off + i, none⟩) hb).trans (he i hi)
  refine (allOf 21 _ (enters_of Try.func21 (by kernel_rfl) rfl) (fun i => Z (k + i)) (n - k) (Box w pb nb (some ⟨b, off, none⟩) n cap k) w.heap.size W hs (fun A B hA hAB => ⟨(hAB.block _ l1).trans hA.hp, (hAB.block _ l2).trans hA.hq, hA.bel.trans (hAB.mono hs)⟩) ?_).mono ?_
  · exact restSeq _ pb nb n k cap b off Z w.heap.size W.heap.size W l1 l2 hn hk hcap hcm (Nat.le_refl _) (fun A B hA hAB => ⟨(hAB.block _ l1).trans hA.hp, (hAB.block _ l2).trans hA.hq, hA.bel.trans (hAB.mono hs)⟩) h h.hp h.hq (by omega) he2
  · rintro e w' ⟨rfl, h2, _⟩
    exact ⟨rfl, h2⟩
theorem restO {w W : World} {pb nb n cap k b off : Nat} {Z : Nat → Int} (h : Box w pb nb (some ⟨b, off, none⟩) n cap k W) (hpN : w.heap.size ≤ pb) (hn : n ≤ 60) (hk : k ≤ n) (hcap : n ≤ cap) (hcm : cap ≤ maxLen) (hb : b < w.heap.size) (he : Elems w b off n Z) :
    Calls Try.prog 18 #[.func (.func 21) #[] #[.pointer (some ⟨pb, 0, none⟩), .pointer (some ⟨nb, 0, none⟩)]] W fun e w' => e = .returned (.int .i64 (accO 0 (truths (fun i => Z (k + i)) (n - k)))) ∧ Box w pb nb (some ⟨b, off, none⟩) n cap k w' := by
  have l1 := heapLt h.hp
  have l2 := heapLt h.hq
  have hs := h.bel.size
  have he2 : Elems W b off n Z := fun i hi => (h.bel.cell (p := ⟨b, off + i, none⟩) hb).trans (he i hi)
  refine (anyOf 21 _ (enters_of Try.func21 (by kernel_rfl) rfl) (fun i => Z (k + i)) (n - k) (Box w pb nb (some ⟨b, off, none⟩) n cap k) w.heap.size W hs (fun A B hA hAB => ⟨(hAB.block _ l1).trans hA.hp, (hAB.block _ l2).trans hA.hq, hA.bel.trans (hAB.mono hs)⟩) ?_).mono ?_
  · exact restSeq _ pb nb n k cap b off Z w.heap.size W.heap.size W l1 l2 hn hk hcap hcm (Nat.le_refl _) (fun A B hA hAB => ⟨(hAB.block _ l1).trans hA.hp, (hAB.block _ l2).trans hA.hq, hA.bel.trans (hAB.mono hs)⟩) h h.hp h.hq (by omega) he2
  · rintro e w' ⟨rfl, h2, _⟩
    exact ⟨rfl, h2⟩
theorem wholeA {w W : World} {pb nb n cap k b off : Nat} {Z : Nat → Int} (h : Box w pb nb (some ⟨b, off, none⟩) n cap k W) (hpN : w.heap.size ≤ pb) (hn : n ≤ 60) (hk : k ≤ n) (hcap : n ≤ cap) (hcm : cap ≤ maxLen) (hb : b < w.heap.size) (he : Elems w b off n Z) :
    Calls Try.prog 17 #[.func (.func 22) #[] #[.pointer (some ⟨pb, 0, none⟩)]] W fun e w' => e = .returned (.int .i64 (accA 1 (truths Z (n)))) ∧ Box w pb nb (some ⟨b, off, none⟩) n cap k w' := by
  have l1 := heapLt h.hp
  have l2 := heapLt h.hq
  have hs := h.bel.size
  have he2 : Elems W b off n Z := fun i hi => (h.bel.cell (p := ⟨b, off + i, none⟩) hb).trans (he i hi)
  refine (allOf 22 _ (enters_of Try.func22 (by kernel_rfl) rfl) Z (n) (Box w pb nb (some ⟨b, off, none⟩) n cap k) w.heap.size W hs (fun A B hA hAB => ⟨(hAB.block _ l1).trans hA.hp, (hAB.block _ l2).trans hA.hq, hA.bel.trans (hAB.mono hs)⟩) ?_).mono ?_
  · exact wholeSeq _ pb n cap (some ⟨b, off, none⟩) Z w.heap.size W.heap.size W l1 hn (Nat.le_refl _) (fun A B hA hAB => ⟨(hAB.block _ l1).trans hA.hp, (hAB.block _ l2).trans hA.hq, hA.bel.trans (hAB.mono hs)⟩) h h.hp (.inr ⟨b, off, rfl, by omega, he2⟩)
  · rintro e w' ⟨rfl, h2, _⟩
    exact ⟨rfl, h2⟩
theorem wholeO {w W : World} {pb nb n cap k b off : Nat} {Z : Nat → Int} (h : Box w pb nb (some ⟨b, off, none⟩) n cap k W) (hpN : w.heap.size ≤ pb) (hn : n ≤ 60) (hk : k ≤ n) (hcap : n ≤ cap) (hcm : cap ≤ maxLen) (hb : b < w.heap.size) (he : Elems w b off n Z) :
    Calls Try.prog 18 #[.func (.func 22) #[] #[.pointer (some ⟨pb, 0, none⟩)]] W fun e w' => e = .returned (.int .i64 (accO 0 (truths Z (n)))) ∧ Box w pb nb (some ⟨b, off, none⟩) n cap k w' := by
  have l1 := heapLt h.hp
  have l2 := heapLt h.hq
  have hs := h.bel.size
  have he2 : Elems W b off n Z := fun i hi => (h.bel.cell (p := ⟨b, off + i, none⟩) hb).trans (he i hi)
  refine (anyOf 22 _ (enters_of Try.func22 (by kernel_rfl) rfl) Z (n) (Box w pb nb (some ⟨b, off, none⟩) n cap k) w.heap.size W hs (fun A B hA hAB => ⟨(hAB.block _ l1).trans hA.hp, (hAB.block _ l2).trans hA.hq, hA.bel.trans (hAB.mono hs)⟩) ?_).mono ?_
  · exact wholeSeq _ pb n cap (some ⟨b, off, none⟩) Z w.heap.size W.heap.size W l1 hn (Nat.le_refl _) (fun A B hA hAB => ⟨(hAB.block _ l1).trans hA.hp, (hAB.block _ l2).trans hA.hq, hA.bel.trans (hAB.mono hs)⟩) h h.hp (.inr ⟨b, off, rfl, by omega, he2⟩)
  · rintro e w' ⟨rfl, h2, _⟩
    exact ⟨rfl, h2⟩
theorem notsO {w W : World} {pb nb n cap k b off : Nat} {Z : Nat → Int} (h : Box w pb nb (some ⟨b, off, none⟩) n cap k W) (hpN : w.heap.size ≤ pb) (hn : n ≤ 60) (hk : k ≤ n) (hcap : n ≤ cap) (hcm : cap ≤ maxLen) (hb : b < w.heap.size) (he : Elems w b off n Z) :
    Calls Try.prog 18 #[.func (.func 23) #[] #[.pointer (some ⟨pb, 0, none⟩)]] W fun e w' => e = .returned (.int .i64 (accO 0 (truths (neg true Z) (n)))) ∧ Box w pb nb (some ⟨b, off, none⟩) n cap k w' := by
  have l1 := heapLt h.hp
  have l2 := heapLt h.hq
  have hs := h.bel.size
  have he2 : Elems W b off n Z := fun i hi => (h.bel.cell (p := ⟨b, off + i, none⟩) hb).trans (he i hi)
  refine (anyOf 23 _ (enters_of Try.func23 (by kernel_rfl) rfl) (neg true Z) (n) (Box w pb nb (some ⟨b, off, none⟩) n cap k) w.heap.size W hs (fun A B hA hAB => ⟨(hAB.block _ l1).trans hA.hp, (hAB.block _ l2).trans hA.hq, hA.bel.trans (hAB.mono hs)⟩) ?_).mono ?_
  · exact notsSeq _ pb n cap (some ⟨b, off, none⟩) Z w.heap.size W.heap.size W l1 hn (Nat.le_refl _) (fun A B hA hAB => ⟨(hAB.block _ l1).trans hA.hp, (hAB.block _ l2).trans hA.hq, hA.bel.trans (hAB.mono hs)⟩) h h.hp (.inr ⟨b, off, rfl, by omega, he2⟩)
  · rintro e w' ⟨rfl, h2, _⟩
    exact ⟨rfl, h2⟩
end Go.Proofs.Ytdnijfkiebpnpaa
