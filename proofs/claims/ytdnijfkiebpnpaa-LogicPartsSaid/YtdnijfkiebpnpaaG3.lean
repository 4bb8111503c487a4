/- All and Any, of an iterator and of nil. -/
import Derived.Test.YtdnijfkiebpnpaaG1
import Derived.Test.YtdnijfkiebpnpaaG2
namespace Go.Proofs.Ytdnijfkiebpnpaa
open Go.RowKit Go.Shelf

/-- How a loop over X ends that stops where what has been joined is settled. -/
def Ends (acc : List Int → Int) (settled : Int) (X pre : List Int) : Prop :=
  pre <+: X ∧ ((pre = X ∧ acc pre ≠ settled) ∨ (∃ p x, pre = p ++ [x] ∧ acc p ≠ settled ∧ acc pre = settled))
theorem gatherNil (jn : FuncId) (first settled : Int) (w : World) : Calls Try.prog 26 #[.nilFunc, .func (.func jn) #[] #[], .int .i64 first, .int .i64 settled] w fun e w' => e = .returned (.int .i64 first) ∧ Below w.heap.size w w' := by
  have hq := eqNil2
  have hb : Below w.heap.size w (((w.alloc (.cells #[.func (.func jn) #[] #[]] 26)).alloc (.cells #[.int .i64 settled] 3)).alloc (.cells #[.int .i64 first] 3)) := ((below1 w _).alloc (by simp) _).alloc (by simp; omega) _
  go_enter Try.func26, Try.ntmps26
  go_wp2_with fail
  refine bodyPost_ret (v := .int .i64 first) ?_ rfl ⟨rfl, hb⟩
  simp [results, Try.results26, go_sem]
theorem allAt (gf : FuncId) (lb : Array Value) (hgE : ∀ args w, (callFunc gf args).run Try.prog w = .ok (.enter gf args) w) (X : List Int) (T : List Int → World → Prop) (N : Nat) (w : World)
    (hN : N ≤ w.heap.size) (hT : ∀ pre A B, T pre A → Below w.heap.size A B → T pre B) (hseq : Seq gf lb X T N w.heap.size w) :
    Calls Try.prog 17 #[.func (.func gf) #[] lb] w fun e w' => ∃ pre, e = .returned (.int .i64 (accA 1 pre)) ∧ T pre w' ∧ Below N w w' ∧ Ends (accA 1) 0 X pre := by
  have hc := callsIn_wide.1 (gatherAll gf lb hgE 1 0 (by decide) X T N w hN hT hseq)
  clear hT hseq hgE
  go_enter Try.func17, Try.ntmps17
  go_wp2_with (go_at_call 26; (with_reducible refine hc.mono ?_); rintro e w' ⟨pre, hp, rfl, ht, hb, hend⟩)
  go_ret
  exact ⟨pre, rfl, ht, hb, hp, hend⟩
theorem allNil (w : World) : Calls Try.prog 17 #[.nilFunc] w fun e w' => e = .returned (.int .i64 1) ∧ Below w.heap.size w w' := by
  go_enter Try.func17, Try.ntmps17
  go_wp2_with (go_at_call 26; (with_reducible refine (gatherNil _ _ _ _).mono ?_); rintro e w' ⟨rfl, hb⟩)
  go_ret
  exact ⟨rfl, hb⟩
theorem anyAt (gf : FuncId) (lb : Array Value) (hgE : ∀ args w, (callFunc gf args).run Try.prog w = .ok (.enter gf args) w) (X : List Int) (T : List Int → World → Prop) (N : Nat) (w : World)
    (hN : N ≤ w.heap.size) (hT : ∀ pre A B, T pre A → Below w.heap.size A B → T pre B) (hseq : Seq gf lb X T N w.heap.size w) :
    Calls Try.prog 18 #[.func (.func gf) #[] lb] w fun e w' => ∃ pre, e = .returned (.int .i64 (accO 0 pre)) ∧ T pre w' ∧ Below N w w' ∧ Ends (accO 0) 1 X pre := by
  have hc := callsIn_wide.1 (gatherAny gf lb hgE 0 1 (by decide) X T N w hN hT hseq)
  clear hT hseq hgE
  go_enter Try.func18, Try.ntmps18
  go_wp2_with (go_at_call 26; (with_reducible refine hc.mono ?_); rintro e w' ⟨pre, hp, rfl, ht, hb, hend⟩)
  go_ret
  exact ⟨pre, rfl, ht, hb, hp, hend⟩
theorem anyNil (w : World) : Calls Try.prog 18 #[.nilFunc] w fun e w' => e = .returned (.int .i64 0) ∧ Below w.heap.size w w' := by
  go_enter Try.func18, Try.ntmps18
  go_wp2_with (go_at_call 26; (with_reducible refine (gatherNil _ _ _ _).mono ?_); rintro e w' ⟨rfl, hb⟩)
  go_ret
  exact ⟨rfl, hb⟩
end Go.Proofs.Ytdnijfkiebpnpaa
