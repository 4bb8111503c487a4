/- Texts of one kind, one behind the other: each says ahead of itself what it shows. -/
import Derived.Test.YtoifjjgakblhhaaGreatDoorHay
import Derived.Test.YtoifjjgakblhhaaGreatDoorHbc
import Derived.Test.YtoifjjgakblhhaaGreatDoorHbd
import Derived.Test.YtoifjjgakblhhaaGreatDoorHbe
import Derived.Test.YtoifjjgakblhhaaGreatDoorHbf
import Derived.Test.YtoifjjgakblhhaaGreatDoorHbg
import Derived.Test.YtoifjjgakblhhaaGreatDoorHar
import Derived.Test.YtoifjjgakblhhaaGreatDoorHaz
import Derived.Deep.LoopGhost
/- Arith of two values, by the program and by the document: one answer. -/
namespace Go.Proofs.YtoifjjgakblhhaaGreatDoor
open Go.RowKit

/-- Arith of two values: both tell one thing. -/
def Ar2 (lang op : Int) (k : Int) (b : Bool) (n : Int) (t x : ByteArray) (q : List Val) (k2 : Int) (b2 : Bool) (n2 : Int) (t2 x2 : ByteArray) (q2 : List Val) : Prop := ∃ (k9 n9 : Int) (t9 : ByteArray) (q9 : List Val) (e9 : Int), q9.length ≤ 2097152 ∧
  (∀ W p cap p2 cap2, Gd W → Tab W → Held W (.slice p q.length cap) q → Held W (.slice p2 q2.length cap2) q2 → Calls Tryz.prog 25 #[.int .i64 lang, .int .i64 op, .agg #[.int .i64 k, .bool b, .int .i64 n, .string t, .string x, .slice p q.length cap], .agg #[.int .i64 k2, .bool b2, .int .i64 n2, .string t2, .string x2, .slice p2 q2.length cap2]] W (APost W k9 n9 t9 q9 e9)) ∧
  (∀ W p cap p2 cap2, Held W (.slice p q.length cap) q → Held W (.slice p2 q2.length cap2) q2 → Calls Tryz.prog 26 #[.int .i64 lang, .int .i64 op, .agg #[.int .i64 k, .bool b, .int .i64 n, .string t, .string x, .slice p q.length cap], .agg #[.int .i64 k2, .bool b2, .int .i64 n2, .string t2, .string x2, .slice p2 q2.length cap2]] W (APost W k9 n9 t9 q9 e9))
theorem r2a {w : World} {k n : Int} {t : ByteArray} {e9 : Int} {f : Nat} {xs : Array Value} (h : Calls Tryz.prog f xs w (RPost w k n t e9)) : Calls Tryz.prog f xs w (APost w k n t [] e9) := h.mono fun _ _ h => APost.of h
section
variable (lang op : Int) (k : Int) (b : Bool) (n : Int) (t x : ByteArray) (q : List Val) (k2 : Int) (b2 : Bool) (n2 : Int) (t2 x2 : ByteArray) (q2 : List Val) (hf : Fine n t x q.length) (hf2 : Fine n2 t2 x2 q2.length) (h0 : 16 ≤ op) (h9 : op ≤ 22)
include hf in
theorem chk1 (r : Bool) (hr : r = mayP (.mk k b n t x q) 0) (W : World) (p : Option Addr) (cap : Nat) (hG : Gd W) (hl : Held W (.slice p q.length cap) q) :
    Calls Tryz.prog 13 #[.agg #[.int .i64 k, .bool b, .int .i64 n, .string t, .string x, .slice p q.length cap]] W fun e w' => e = .returned (.bool r) ∧ Below W.heap.size W w' := by
  rw [hr]
  exact checkAtV _ k b n t x q (.slice p q.length cap) W rfl hG hf.ht hf.hx hl
include hf in
theorem may1 (r : Bool) (hr : r = mayP (.mk k b n t x q) 0) (W : World) (p : Option Addr) (cap : Nat) (hl : Held W (.slice p q.length cap) q) :
    Calls Tryz.prog 14 #[.agg #[.int .i64 k, .bool b, .int .i64 n, .string t, .string x, .slice p q.length cap]] W fun e w' => e = .returned (.bool r) ∧ Below W.heap.size W w' := by
  rw [hr]
  exact refMay k b n t x q p cap W hf hl
include hf hf2 h0 h9
theorem arithBad (h : (opB op && mayP (.mk k b n t x q) 0 && mayP (.mk k2 b2 n2 t2 x2 q2) 0) = false) : Ar2 lang op k b n t x q k2 b2 n2 t2 x2 q2 := by
  refine ⟨0, 0, ⟨#[]⟩, [], 1, by simp, fun W p cap p2 cap2 hG hT hl hl2 => ?_, fun W p cap p2 cap2 hl hl2 => ?_⟩
  · exact arBad lang op k b n t x q p cap k2 b2 n2 t2 x2 q2 p2 cap2 W _ _ _ (fun W' => opAt op h0 h9 W') (fun W' hb => chk1 k b n t x q hf _ rfl W' p cap (hG.below hb) (Held.below q hl hb)) (fun W' hb => chk1 k2 b2 n2 t2 x2 q2 hf2 _ rfl W' p2 cap2 (hG.below hb) (Held.below q2 hl2 hb)) h
  · exact rfBad lang op k b n t x q p cap k2 b2 n2 t2 x2 q2 p2 cap2 W _ _ (fun W' hb => may1 k b n t x q hf _ rfl W' p cap (Held.below q hl hb)) (fun W' hb => may1 k2 b2 n2 t2 x2 q2 hf2 _ rfl W' p2 cap2 (Held.below q2 hl2 hb)) h0 h9 h
variable (g1 : opB op = true) (g2 : mayP (.mk k b n t x q) 0 = true) (g3 : mayP (.mk k2 b2 n2 t2 x2 q2) 0 = true)
include g1
omit hf hf2 in
theorem ops5 : op = 17 ∨ op = 18 ∨ op = 19 ∨ op = 20 ∨ op = 21 := by
  unfold opB at g1
  simp at g1
  omega
include g2 g3
theorem arithNull (h : k = 0 ∨ k2 = 0) : Ar2 lang op k b n t x q k2 b2 n2 t2 x2 q2 := by
  refine ⟨0, 0, ⟨#[]⟩, [], if lang == 1 then 5 else 0, by simp, fun W p cap p2 cap2 hG hT hl hl2 => ?_, fun W p cap p2 cap2 hl hl2 => ?_⟩
  · exact arNull lang op k b n t x q p cap k2 b2 n2 t2 x2 q2 p2 cap2 W _ _ _ (fun W' => opAt op h0 h9 W') (fun W' hb => chk1 k b n t x q hf _ rfl W' p cap (hG.below hb) (Held.below q hl hb)) (fun W' hb => chk1 k2 b2 n2 t2 x2 q2 hf2 _ rfl W' p2 cap2 (hG.below hb) (Held.below q2 hl2 hb)) g1 g2 g3 _ _ _ rfl rfl rfl (by rcases h with rfl | rfl <;> simp)
  · exact rfNull lang op k b n t x q p cap k2 b2 n2 t2 x2 q2 p2 cap2 W _ _ (fun W' hb => may1 k b n t x q hf _ rfl W' p cap (Held.below q hl hb)) (fun W' hb => may1 k2 b2 n2 t2 x2 q2 hf2 _ rfl W' p2 cap2 (Held.below q2 hl2 hb)) g2 g3 (ops5 op h0 h9 g1) _ _ _ rfl rfl rfl (by rcases h with rfl | rfl <;> simp)
variable (z1 : k ≠ 0) (z2 : k2 ≠ 0)
include z1 z2
/-- What reckon tells, and what the document tells, of values that are there. -/
theorem arithGo (k9 n9 : Int) (t9 : ByteArray) (q9 : List Val) (e9 : Int) (hq : q9.length ≤ 2097152)
    (hc : ∀ W p cap p2 cap2, Gd W → Tab W → Held W (.slice p q.length cap) q → Held W (.slice p2 q2.length cap2) q2 → Calls Tryz.prog 60 #[.int .i64 lang, .int .i64 op, .agg #[.int .i64 k, .bool b, .int .i64 n, .string t, .string x, .slice p q.length cap], .agg #[.int .i64 k2, .bool b2, .int .i64 n2, .string t2, .string x2, .slice p2 q2.length cap2]] W (APost W k9 n9 t9 q9 e9))
    (hd : ∀ W p cap p2 cap2, Held W (.slice p q.length cap) q → Held W (.slice p2 q2.length cap2) q2 → Calls Tryz.prog 26 #[.int .i64 lang, .int .i64 op, .agg #[.int .i64 k, .bool b, .int .i64 n, .string t, .string x, .slice p q.length cap], .agg #[.int .i64 k2, .bool b2, .int .i64 n2, .string t2, .string x2, .slice p2 q2.length cap2]] W (APost W k9 n9 t9 q9 e9)) : Ar2 lang op k b n t x q k2 b2 n2 t2 x2 q2 := by
  refine ⟨k9, n9, t9, q9, e9, hq, fun W p cap p2 cap2 hG hT hl hl2 => ?_, hd⟩
  exact arGo lang op k b n t x q p cap k2 b2 n2 t2 x2 q2 p2 cap2 W k9 n9 t9 q9 e9 _ _ _ (fun W' => opAt op h0 h9 W') (fun W' hb => chk1 k b n t x q hf _ rfl W' p cap (hG.below hb) (Held.below q hl hb)) (fun W' hb => chk1 k2 b2 n2 t2 x2 q2 hf2 _ rfl W' p2 cap2 (hG.below hb) (Held.below q2 hl2 hb)) g1 g2 g3 (by simpa using z1) (by simpa using z2) (fun W' hb => hc W' p cap p2 cap2 (hG.below hb) (hT.below hb) (Held.below q hl hb) (Held.below q2 hl2 hb))
theorem arithNone (c1 : ((lang != 1) && (op == 17) && (k == 4 && k2 == 4)) = false) (c2 : ((lang != 1) && (op == 17) && (k == 5 && k2 == 5)) = false) (c3 : ((k == 2 || k == 3) && (k2 == 2 || k2 == 3)) = false) : Ar2 lang op k b n t x q k2 b2 n2 t2 x2 q2 := by
  refine arithGo lang op k b n t x q k2 b2 n2 t2 x2 q2 hf hf2 h0 h9 g1 g2 g3 z1 z2 0 0 ⟨#[]⟩ [] 4 (by simp) (fun W p cap p2 cap2 hG hT hl hl2 => ?_) (fun W p cap p2 cap2 hl hl2 => ?_)
  · exact rkNone lang op k b n t x q p cap k2 b2 n2 t2 x2 q2 p2 cap2 W _ _ _ _ _ _ _ _ rfl rfl rfl rfl rfl rfl rfl rfl c1 c2 c3
  · have m1 := fun W' (hb : Below W.heap.size W W') => may1 k b n t x q hf _ g2.symm W' p cap (Held.below q hl hb)
    have m2 := fun W' (hb : Below W.heap.size W W') => may1 k2 b2 n2 t2 x2 q2 hf2 _ g3.symm W' p2 cap2 (Held.below q2 hl2 hb)
    rcases ops5 op h0 h9 g1 with rfl | h
    · refine rfNone17 lang k b n t x q p cap k2 b2 n2 t2 x2 q2 p2 cap2 W _ _ m1 m2 rfl rfl (by simpa using z1) (by simpa using z2) _ _ _ _ _ _ rfl rfl rfl rfl rfl rfl ?_ ?_ c3
      · cases e : (lang != 1) <;> cases e4 : (k == 4) <;> cases ek : (k == k2) <;> simp
        rw [e, e4] at c1
        simp at e4 ek c1
        omega
      · cases e : (lang != 1) <;> cases e4 : (k == 5) <;> cases ek : (k == k2) <;> simp
        rw [e, e4] at c2
        simp at e4 ek c2
        omega
    · exact rfNone lang op k b n t x q p cap k2 b2 n2 t2 x2 q2 p2 cap2 W _ _ m1 m2 rfl rfl (by simpa using z1) (by simpa using z2) h _ _ _ rfl rfl rfl c3
end
section
variable (lang : Int) (b : Bool) (n : Int) (t x : ByteArray) (q : List Val) (b2 : Bool) (n2 : Int) (t2 x2 : ByteArray) (q2 : List Val) (hf : Fine n t x q.length) (hf2 : Fine n2 t2 x2 q2.length)
include hf hf2
theorem arithTexts (hj : (lang != 1) = true) (g2 : mayP (.mk 4 b n t x q) 0 = true) (g3 : mayP (.mk 4 b2 n2 t2 x2 q2) 0 = true) : Ar2 lang 17 4 b n t x q 4 b2 n2 t2 x2 q2 := by
  by_cases hs : t.size + t2.size ≤ 1048576
  · refine arithGo lang 17 4 b n t x q 4 b2 n2 t2 x2 q2 hf hf2 (by omega) (by omega) rfl g2 g3 (by omega) (by omega) 4 0 (t ++ t2) [] 0 (by simp) (fun W p cap p2 cap2 hG hT hl hl2 => ?_) (fun W p cap p2 cap2 hl hl2 => ?_)
    · exact rkTexts lang 17 4 b n t x q p cap 4 b2 n2 t2 x2 q2 p2 cap2 W _ _ _ _ _ _ _ _ _ _ _ _ _ rfl rfl rfl rfl rfl rfl rfl rfl hj rfl rfl (fun W' _ => r2a (joinTextsYes t t2 W' hs))
    · exact rfTextsYes lang b n t x q p cap b2 n2 t2 x2 q2 p2 cap2 W _ _ (fun W' hb => may1 4 b n t x q hf _ g2.symm W' p cap (Held.below q hl hb)) (fun W' hb => may1 4 b2 n2 t2 x2 q2 hf2 _ g3.symm W' p2 cap2 (Held.below q2 hl2 hb)) rfl rfl hj hf.ht hf2.ht hs
  · refine arithGo lang 17 4 b n t x q 4 b2 n2 t2 x2 q2 hf hf2 (by omega) (by omega) rfl g2 g3 (by omega) (by omega) 0 0 ⟨#[]⟩ [] 2 (by simp) (fun W p cap p2 cap2 hG hT hl hl2 => ?_) (fun W p cap p2 cap2 hl hl2 => ?_)
    · exact rkTexts lang 17 4 b n t x q p cap 4 b2 n2 t2 x2 q2 p2 cap2 W _ _ _ _ _ _ _ _ _ _ _ _ _ rfl rfl rfl rfl rfl rfl rfl rfl hj rfl rfl (fun W' _ => r2a (joinTextsNo t t2 W' (by omega) hf.ht hf2.ht))
    · exact rfTextsNo lang b n t x q p cap b2 n2 t2 x2 q2 p2 cap2 W _ _ (fun W' hb => may1 4 b n t x q hf _ g2.symm W' p cap (Held.below q hl hb)) (fun W' hb => may1 4 b2 n2 t2 x2 q2 hf2 _ g3.symm W' p2 cap2 (Held.below q2 hl2 hb)) rfl rfl hj hf.ht hf2.ht (by omega)
theorem arithLists (hj : (lang != 1) = true) (g2 : mayP (.mk 5 b n t x q) 0 = true) (g3 : mayP (.mk 5 b2 n2 t2 x2 q2) 0 = true) : Ar2 lang 17 5 b n t x q 5 b2 n2 t2 x2 q2 := by
  by_cases hs : q.length + q2.length ≤ 4096
  · refine arithGo lang 17 5 b n t x q 5 b2 n2 t2 x2 q2 hf hf2 (by omega) (by omega) rfl g2 g3 (by omega) (by omega) 5 0 ⟨#[]⟩ (q ++ q2) 0 (by rw [List.length_append]; omega) (fun W p cap p2 cap2 hG hT hl hl2 => ?_) (fun W p cap p2 cap2 hl hl2 => ?_)
    · exact rkLists lang 17 5 b n t x q p cap 5 b2 n2 t2 x2 q2 p2 cap2 W _ _ _ _ _ _ _ _ _ _ _ _ _ rfl rfl rfl rfl rfl rfl rfl rfl hj rfl rfl rfl (fun W' hb => (joinT q q2 p cap p2 cap2 W' (Held.below q hl hb) (Held.below q2 hl2 hb) hs).mono fun _ _ h => APost.ofJoin h)
    · exact rfListsYes lang b n t x q p cap b2 n2 t2 x2 q2 p2 cap2 W _ _ (fun W' hb => may1 5 b n t x q hf _ g2.symm W' p cap (Held.below q hl hb)) (fun W' hb => may1 5 b2 n2 t2 x2 q2 hf2 _ g3.symm W' p2 cap2 (Held.below q2 hl2 hb)) rfl rfl hj hl hl2 hs
  · refine arithGo lang 17 5 b n t x q 5 b2 n2 t2 x2 q2 hf hf2 (by omega) (by omega) rfl g2 g3 (by omega) (by omega) 0 0 ⟨#[]⟩ [] 2 (by simp) (fun W p cap p2 cap2 hG hT hl hl2 => ?_) (fun W p cap p2 cap2 hl hl2 => ?_)
    · exact rkLists lang 17 5 b n t x q p cap 5 b2 n2 t2 x2 q2 p2 cap2 W _ _ _ _ _ _ _ _ _ _ _ _ _ rfl rfl rfl rfl rfl rfl rfl rfl hj rfl rfl rfl (fun W' _ => r2a (joinListsNo p q.length cap p2 q2.length cap2 W' (by omega) hf.hn hf2.hn))
    · exact rfListsNo lang b n t x q p cap b2 n2 t2 x2 q2 p2 cap2 W _ _ (fun W' hb => may1 5 b n t x q hf _ g2.symm W' p cap (Held.below q hl hb)) (fun W' hb => may1 5 b2 n2 t2 x2 q2 hf2 _ g3.symm W' p2 cap2 (Held.below q2 hl2 hb)) rfl rfl hj hf.hn hf2.hn (by omega)
theorem arithInts (op : Int) (h5 : op = 17 ∨ op = 18 ∨ op = 19 ∨ op = 20 ∨ op = 21) (hq : op = 20 → (lang != 1) = true) (g2 : mayP (.mk 2 b n t x q) 0 = true) (g3 : mayP (.mk 2 b2 n2 t2 x2 q2) 0 = true) (hi : Int2 lang op n n2) : Ar2 lang op 2 b n t x q 2 b2 n2 t2 x2 q2 := by
  obtain ⟨k9, n9, t9, e9, i1, i2⟩ := hi
  have g1 : opB op = true := by rcases h5 with rfl | rfl | rfl | rfl | rfl <;> rfl
  refine arithGo lang op 2 b n t x q 2 b2 n2 t2 x2 q2 hf hf2 (by omega) (by omega) g1 g2 g3 (by omega) (by omega) k9 n9 t9 [] e9 (by simp) (fun W p cap p2 cap2 hG hT hl hl2 => ?_) (fun W p cap p2 cap2 hl hl2 => ?_)
  · refine rkInts lang op 2 b n t x q p cap 2 b2 n2 t2 x2 q2 p2 cap2 W _ _ _ _ _ _ _ _ _ _ _ _ _ rfl rfl rfl rfl rfl rfl rfl rfl rfl rfl rfl rfl rfl ?_ (fun W' _ => r2a (i1 W'))
    by_cases h : op = 20
    · rw [hq h]; simp
    · simp [h]
  · exact rfInts lang op b n t x q p cap b2 n2 t2 x2 q2 p2 cap2 W _ _ _ _ _ _ (fun W' hb => may1 2 b n t x q hf _ g2.symm W' p cap (Held.below q hl hb)) (fun W' hb => may1 2 b2 n2 t2 x2 q2 hf2 _ g3.symm W' p2 cap2 (Held.below q2 hl2 hb)) rfl rfl h5 _ rfl (fun W' _ => i2 W')
theorem arithDivS (g2 : mayP (.mk 2 b n t x q) 0 = true) (g3 : mayP (.mk 2 b2 n2 t2 x2 q2) 0 = true) : Ar2 1 20 2 b n t x q 2 b2 n2 t2 x2 q2 := by
  obtain ⟨s, hs, es⟩ := numText 2 n t hf.lo hf.hi hf.ht
  obtain ⟨s2, hs2, es2⟩ := numText 2 n2 t2 hf2.lo hf2.hi hf2.ht
  obtain ⟨X, c, k9, n9, t9, e9, d1, d2, d3⟩ := decDiv hs hs2
  by_cases h00 : n2 = 0
  · refine arithGo 1 20 2 b n t x q 2 b2 n2 t2 x2 q2 hf hf2 (by omega) (by omega) rfl g2 g3 (by omega) (by omega) 0 0 ⟨#[]⟩ [] 3 (by simp) (fun W p cap p2 cap2 hG hT hl hl2 => ?_) (fun W p cap p2 cap2 hl hl2 => ?_)
    · have z2 : damt s2.data.toList = 0 := by
        have := hs2.2.1
        rw [show numV 2 n2 t2 = 0 by unfold numV; rw [if_pos rfl, h00]; rfl] at this
        unfold dval sv at this
        split at this <;> omega
      refine rkDecimals 1 20 2 b n t x q p cap 2 b2 n2 t2 x2 q2 p2 cap2 W _ _ _ _ _ _ _ _ _ _ _ _ _ rfl rfl rfl rfl rfl rfl rfl rfl rfl rfl rfl rfl rfl s s2 (fun W' hb => asDecOne 2 b n t x p q.length cap s hs W' (hG.below hb) (hT.below hb) hf) (fun W' hb => asDecOne 2 b2 n2 t2 x2 p2 q2.length cap2 s2 hs2 W' (hG.below hb) (hT.below hb) hf2) (fun W' hb => r2a ?_)
      exact rdDivNo s s2 ⟨#[]⟩ 3 (by decide) W' (fun W'' hb2 => divZero s s2 W'' ((hG.below hb).below hb2) (by have := hs.2.2; omega) (by have := hs2.2.2; omega) hs.1 hs2.1 z2)
    · subst h00
      exact rfInts 1 20 b n t x q p cap b2 0 t2 x2 q2 p2 cap2 W _ _ _ _ _ _ (fun W' hb => may1 2 b n t x q hf _ g2.symm W' p cap (Held.below q hl hb)) (fun W' hb => may1 2 b2 0 t2 x2 q2 hf2 _ g3.symm W' p2 cap2 (Held.below q2 hl2 hb)) rfl rfl (by omega) _ rfl (fun W' _ => tiZero20 1 n W')
  · refine arithGo 1 20 2 b n t x q 2 b2 n2 t2 x2 q2 hf hf2 (by omega) (by omega) rfl g2 g3 (by omega) (by omega) k9 n9 t9 [] e9 (by simp) (fun W p cap p2 cap2 hG hT hl hl2 => ?_) (fun W p cap p2 cap2 hl hl2 => ?_)
    · exact rkDecimals 1 20 2 b n t x q p cap 2 b2 n2 t2 x2 q2 p2 cap2 W _ _ _ _ _ _ _ _ _ _ _ _ _ rfl rfl rfl rfl rfl rfl rfl rfl rfl rfl rfl rfl rfl s s2 (fun W' hb => asDecOne 2 b n t x p q.length cap s hs W' (hG.below hb) (hT.below hb) hf) (fun W' hb => asDecOne 2 b2 n2 t2 x2 p2 q2.length cap2 s2 hs2 W' (hG.below hb) (hT.below hb) hf2) (fun W' hb => r2a (d1 W' (hG.below hb)))
    · refine rfInts 1 20 b n t x q p cap b2 n2 t2 x2 q2 p2 cap2 W _ _ _ _ _ _ (fun W' hb => may1 2 b n t x q hf _ g2.symm W' p cap (Held.below q hl hb)) (fun W' hb => may1 2 b2 n2 t2 x2 q2 hf2 _ g3.symm W' p2 cap2 (Held.below q2 hl2 hb)) rfl rfl (by omega) _ rfl (fun W' _ => ?_)
      exact tiDivS n n2 (by simpa using h00) k9 n9 t9 e9 s s2 X c W' (fun W'' _ => by rw [es rfl]; exact refOfIntT n hf.lo hf.hi W'') (fun W'' _ => by rw [es2 rfl]; exact refOfIntT n2 hf2.lo hf2.hi W'') (fun W'' _ => d2 W'') (fun W'' _ => d3 W'')
end
section
variable (lang : Int) (k : Int) (b : Bool) (n : Int) (t x : ByteArray) (q : List Val) (k2 : Int) (b2 : Bool) (n2 : Int) (t2 x2 : ByteArray) (q2 : List Val) (hf : Fine n t x q.length) (hf2 : Fine n2 t2 x2 q2.length) (g2 : mayP (.mk k b n t x q) 0 = true) (g3 : mayP (.mk k2 b2 n2 t2 x2 q2) 0 = true) (u1 : k = 2 ∨ k = 3) (u2 : k2 = 2 ∨ k2 = 3) (hh : ¬ (k = 2 ∧ k2 = 2))
include hf hf2 g2 g3 u1 u2 hh
theorem arithDecAdd : Ar2 lang 17 k b n t x q k2 b2 n2 t2 x2 q2 := by
  obtain ⟨s, hs, _⟩ := numText k n t hf.lo hf.hi hf.ht
  obtain ⟨s2, hs2, _⟩ := numText k2 n2 t2 hf2.lo hf2.hi hf2.ht
  obtain ⟨X, c, k9, n9, t9, e9, d1, d2, d3⟩ := decAdd hs hs2
  have v1 : (k == 2 || k == 3) = true := by rcases u1 with rfl | rfl <;> rfl
  have v2 : (k2 == 2 || k2 == 3) = true := by rcases u2 with rfl | rfl <;> rfl
  have v3 : (k == 2 && k2 == 2) = false := by rcases u1 with rfl | rfl <;> rcases u2 with rfl | rfl <;> first | rfl | exact absurd ⟨rfl, rfl⟩ hh
  have y4 : (k == 4) = false := by rcases u1 with rfl | rfl <;> rfl
  have y5 : (k == 5) = false := by rcases u1 with rfl | rfl <;> rfl
  refine arithGo lang 17 k b n t x q k2 b2 n2 t2 x2 q2 hf hf2 (by omega) (by omega) rfl g2 g3 (by omega) (by omega) k9 n9 t9 [] e9 (by simp) (fun W p cap p2 cap2 hG hT hl hl2 => ?_) (fun W p cap p2 cap2 hl hl2 => ?_)
  · exact rkDecimals lang 17 k b n t x q p cap k2 b2 n2 t2 x2 q2 p2 cap2 W _ _ _ _ _ _ _ _ _ _ _ _ _ rfl rfl rfl rfl rfl rfl rfl rfl (by rw [y4]; rfl) (by rw [y5]; rfl) v1 v2 (by rw [v3]; rfl) s s2 (fun W' hb => asDecOne k b n t x p q.length cap s hs W' (hG.below hb) (hT.below hb) hf) (fun W' hb => asDecOne k2 b2 n2 t2 x2 p2 q2.length cap2 s2 hs2 W' (hG.below hb) (hT.below hb) hf2) (fun W' hb => r2a (d1 W' (hG.below hb)))
  · exact rfDec17 lang k b n t x q p cap k2 b2 n2 t2 x2 q2 p2 cap2 W k9 n9 t9 e9 _ _ (fun W' hb => may1 k b n t x q hf _ g2.symm W' p cap (Held.below q hl hb)) (fun W' hb => may1 k2 b2 n2 t2 x2 q2 hf2 _ g3.symm W' p2 cap2 (Held.below q2 hl2 hb)) rfl rfl (by simp; omega) (by simp; omega) _ _ _ _ rfl rfl y4 y5 v1 v2 rfl rfl v3 s s2 X c (fun W' hb => refDecOne k b n t x p q.length cap s hs W' hf) (fun W' hb => refDecOne k2 b2 n2 t2 x2 p2 q2.length cap2 s2 hs2 W' hf2) (fun W' _ => d2 W') (fun W' _ => d3 W')
theorem arithDecSub : Ar2 lang 18 k b n t x q k2 b2 n2 t2 x2 q2 := by
  obtain ⟨s, hs, _⟩ := numText k n t hf.lo hf.hi hf.ht
  obtain ⟨s2, hs2, _⟩ := numText k2 n2 t2 hf2.lo hf2.hi hf2.ht
  obtain ⟨X, c, k9, n9, t9, e9, d1, d2, d3⟩ := decSub hs hs2
  have v1 : (k == 2 || k == 3) = true := by rcases u1 with rfl | rfl <;> rfl
  have v2 : (k2 == 2 || k2 == 3) = true := by rcases u2 with rfl | rfl <;> rfl
  have v3 : (k == 2 && k2 == 2) = false := by rcases u1 with rfl | rfl <;> rcases u2 with rfl | rfl <;> first | rfl | exact absurd ⟨rfl, rfl⟩ hh
  have y4 : (k == 4) = false := by rcases u1 with rfl | rfl <;> rfl
  have y5 : (k == 5) = false := by rcases u1 with rfl | rfl <;> rfl
  refine arithGo lang 18 k b n t x q k2 b2 n2 t2 x2 q2 hf hf2 (by omega) (by omega) rfl g2 g3 (by omega) (by omega) k9 n9 t9 [] e9 (by simp) (fun W p cap p2 cap2 hG hT hl hl2 => ?_) (fun W p cap p2 cap2 hl hl2 => ?_)
  · exact rkDecimals lang 18 k b n t x q p cap k2 b2 n2 t2 x2 q2 p2 cap2 W _ _ _ _ _ _ _ _ _ _ _ _ _ rfl rfl rfl rfl rfl rfl rfl rfl (by rw [y4]; rfl) (by rw [y5]; rfl) v1 v2 (by rw [v3]; rfl) s s2 (fun W' hb => asDecOne k b n t x p q.length cap s hs W' (hG.below hb) (hT.below hb) hf) (fun W' hb => asDecOne k2 b2 n2 t2 x2 p2 q2.length cap2 s2 hs2 W' (hG.below hb) (hT.below hb) hf2) (fun W' hb => r2a (d1 W' (hG.below hb)))
  · exact rfDec18 lang k b n t x q p cap k2 b2 n2 t2 x2 q2 p2 cap2 W k9 n9 t9 e9 _ _ (fun W' hb => may1 k b n t x q hf _ g2.symm W' p cap (Held.below q hl hb)) (fun W' hb => may1 k2 b2 n2 t2 x2 q2 hf2 _ g3.symm W' p2 cap2 (Held.below q2 hl2 hb)) rfl rfl (by simp; omega) (by simp; omega) _ _ _ _ rfl rfl y4 y5 v1 v2 rfl rfl v3 s s2 X c (fun W' hb => refDecOne k b n t x p q.length cap s hs W' hf) (fun W' hb => refDecOne k2 b2 n2 t2 x2 p2 q2.length cap2 s2 hs2 W' hf2) (fun W' _ => d2 W') (fun W' _ => d3 W')
theorem arithDecMul : Ar2 lang 19 k b n t x q k2 b2 n2 t2 x2 q2 := by
  obtain ⟨s, hs, _⟩ := numText k n t hf.lo hf.hi hf.ht
  obtain ⟨s2, hs2, _⟩ := numText k2 n2 t2 hf2.lo hf2.hi hf2.ht
  obtain ⟨X, c, k9, n9, t9, e9, d1, d2, d3⟩ := decMul hs hs2
  have v1 : (k == 2 || k == 3) = true := by rcases u1 with rfl | rfl <;> rfl
  have v2 : (k2 == 2 || k2 == 3) = true := by rcases u2 with rfl | rfl <;> rfl
  have v3 : (k == 2 && k2 == 2) = false := by rcases u1 with rfl | rfl <;> rcases u2 with rfl | rfl <;> first | rfl | exact absurd ⟨rfl, rfl⟩ hh
  have y4 : (k == 4) = false := by rcases u1 with rfl | rfl <;> rfl
  have y5 : (k == 5) = false := by rcases u1 with rfl | rfl <;> rfl
  refine arithGo lang 19 k b n t x q k2 b2 n2 t2 x2 q2 hf hf2 (by omega) (by omega) rfl g2 g3 (by omega) (by omega) k9 n9 t9 [] e9 (by simp) (fun W p cap p2 cap2 hG hT hl hl2 => ?_) (fun W p cap p2 cap2 hl hl2 => ?_)
  · exact rkDecimals lang 19 k b n t x q p cap k2 b2 n2 t2 x2 q2 p2 cap2 W _ _ _ _ _ _ _ _ _ _ _ _ _ rfl rfl rfl rfl rfl rfl rfl rfl (by rw [y4]; rfl) (by rw [y5]; rfl) v1 v2 (by rw [v3]; rfl) s s2 (fun W' hb => asDecOne k b n t x p q.length cap s hs W' (hG.below hb) (hT.below hb) hf) (fun W' hb => asDecOne k2 b2 n2 t2 x2 p2 q2.length cap2 s2 hs2 W' (hG.below hb) (hT.below hb) hf2) (fun W' hb => r2a (d1 W' (hG.below hb)))
  · exact rfDec19 lang k b n t x q p cap k2 b2 n2 t2 x2 q2 p2 cap2 W k9 n9 t9 e9 _ _ (fun W' hb => may1 k b n t x q hf _ g2.symm W' p cap (Held.below q hl hb)) (fun W' hb => may1 k2 b2 n2 t2 x2 q2 hf2 _ g3.symm W' p2 cap2 (Held.below q2 hl2 hb)) rfl rfl (by simp; omega) (by simp; omega) _ _ _ _ rfl rfl y4 y5 v1 v2 rfl rfl v3 s s2 X c (fun W' hb => refDecOne k b n t x p q.length cap s hs W' hf) (fun W' hb => refDecOne k2 b2 n2 t2 x2 p2 q2.length cap2 s2 hs2 W' hf2) (fun W' _ => d2 W') (fun W' _ => d3 W')
theorem arithDecDiv : Ar2 lang 20 k b n t x q k2 b2 n2 t2 x2 q2 := by
  obtain ⟨s, hs, _⟩ := numText k n t hf.lo hf.hi hf.ht
  obtain ⟨s2, hs2, _⟩ := numText k2 n2 t2 hf2.lo hf2.hi hf2.ht
  obtain ⟨X, c, k9, n9, t9, e9, d1, d2, d3⟩ := decDiv hs hs2
  have v1 : (k == 2 || k == 3) = true := by rcases u1 with rfl | rfl <;> rfl
  have v2 : (k2 == 2 || k2 == 3) = true := by rcases u2 with rfl | rfl <;> rfl
  have v3 : (k == 2 && k2 == 2) = false := by rcases u1 with rfl | rfl <;> rcases u2 with rfl | rfl <;> first | rfl | exact absurd ⟨rfl, rfl⟩ hh
  have y4 : (k == 4) = false := by rcases u1 with rfl | rfl <;> rfl
  have y5 : (k == 5) = false := by rcases u1 with rfl | rfl <;> rfl
  refine arithGo lang 20 k b n t x q k2 b2 n2 t2 x2 q2 hf hf2 (by omega) (by omega) rfl g2 g3 (by omega) (by omega) k9 n9 t9 [] e9 (by simp) (fun W p cap p2 cap2 hG hT hl hl2 => ?_) (fun W p cap p2 cap2 hl hl2 => ?_)
  · exact rkDecimals lang 20 k b n t x q p cap k2 b2 n2 t2 x2 q2 p2 cap2 W _ _ _ _ _ _ _ _ _ _ _ _ _ rfl rfl rfl rfl rfl rfl rfl rfl (by rw [y4]; rfl) (by rw [y5]; rfl) v1 v2 (by rw [v3]; rfl) s s2 (fun W' hb => asDecOne k b n t x p q.length cap s hs W' (hG.below hb) (hT.below hb) hf) (fun W' hb => asDecOne k2 b2 n2 t2 x2 p2 q2.length cap2 s2 hs2 W' (hG.below hb) (hT.below hb) hf2) (fun W' hb => r2a (d1 W' (hG.below hb)))
  · exact rfDec20 lang k b n t x q p cap k2 b2 n2 t2 x2 q2 p2 cap2 W k9 n9 t9 e9 _ _ (fun W' hb => may1 k b n t x q hf _ g2.symm W' p cap (Held.below q hl hb)) (fun W' hb => may1 k2 b2 n2 t2 x2 q2 hf2 _ g3.symm W' p2 cap2 (Held.below q2 hl2 hb)) rfl rfl (by simp; omega) (by simp; omega) _ _ _ _ rfl rfl y4 y5 v1 v2 rfl rfl v3 s s2 X c (fun W' hb => refDecOne k b n t x p q.length cap s hs W' hf) (fun W' hb => refDecOne k2 b2 n2 t2 x2 p2 q2.length cap2 s2 hs2 W' hf2) (fun W' _ => d2 W') (fun W' _ => d3 W')
theorem arithDecMod : Ar2 lang 21 k b n t x q k2 b2 n2 t2 x2 q2 := by
  obtain ⟨s, hs, _⟩ := numText k n t hf.lo hf.hi hf.ht
  obtain ⟨s2, hs2, _⟩ := numText k2 n2 t2 hf2.lo hf2.hi hf2.ht
  refine arithGo lang 21 k b n t x q k2 b2 n2 t2 x2 q2 hf hf2 (by omega) (by omega) rfl g2 g3 (by omega) (by omega) 0 0 ⟨#[]⟩ [] 4 (by simp) (fun W p cap p2 cap2 hG hT hl hl2 => ?_) (fun W p cap p2 cap2 hl hl2 => ?_)
  · have v3 : (k == 2 && k2 == 2) = false := by rcases u1 with rfl | rfl <;> rcases u2 with rfl | rfl <;> first | rfl | exact absurd ⟨rfl, rfl⟩ hh
    exact rkDecimals lang 21 k b n t x q p cap k2 b2 n2 t2 x2 q2 p2 cap2 W _ _ _ _ _ _ _ _ _ _ _ _ _ rfl rfl rfl rfl rfl rfl rfl rfl (by rcases u1 with rfl | rfl <;> rfl) (by rcases u1 with rfl | rfl <;> rfl) (by rcases u1 with rfl | rfl <;> rfl) (by rcases u2 with rfl | rfl <;> rfl) (by rw [v3]; rfl) s s2 (fun W' hb => asDecOne k b n t x p q.length cap s hs W' (hG.below hb) (hT.below hb) hf) (fun W' hb => asDecOne k2 b2 n2 t2 x2 p2 q2.length cap2 s2 hs2 W' (hG.below hb) (hT.below hb) hf2) (fun W' hb => r2a (rdMod s s2 W'))
  · have m1 := fun W' (hb : Below W.heap.size W W') => may1 k b n t x q hf _ g2.symm W' p cap (Held.below q hl hb)
    have m2 := fun W' (hb : Below W.heap.size W W') => may1 k2 b2 n2 t2 x2 q2 hf2 _ g3.symm W' p2 cap2 (Held.below q2 hl2 hb)
    rcases u1 with rfl | rfl <;> rcases u2 with rfl | rfl
    · exact absurd ⟨rfl, rfl⟩ hh
    · exact rfMod23 lang b n t x q p cap b2 n2 t2 x2 q2 p2 cap2 W _ _ m1 m2 rfl rfl _ rfl
    · exact rfMod32 lang b n t x q p cap b2 n2 t2 x2 q2 p2 cap2 W _ _ m1 m2 rfl rfl _ rfl
    · exact rfMod33 lang b n t x q p cap b2 n2 t2 x2 q2 p2 cap2 W _ _ m1 m2 rfl rfl _ rfl
end
theorem arithBoth (lang op : Int) (k : Int) (b : Bool) (n : Int) (t x : ByteArray) (q : List Val) (k2 : Int) (b2 : Bool) (n2 : Int) (t2 x2 : ByteArray) (q2 : List Val) (hf : Fine n t x q.length) (hf2 : Fine n2 t2 x2 q2.length) (h0 : 16 ≤ op) (h9 : op ≤ 22) : Ar2 lang op k b n t x q k2 b2 n2 t2 x2 q2 := by
  cases g : (opB op && mayP (.mk k b n t x q) 0 && mayP (.mk k2 b2 n2 t2 x2 q2) 0) with
  | false => exact arithBad lang op k b n t x q k2 b2 n2 t2 x2 q2 hf hf2 h0 h9 g
  | true =>
    rw [Bool.and_eq_true, Bool.and_eq_true] at g
    obtain ⟨⟨g1, g2⟩, g3⟩ := g
    by_cases z1 : k = 0
    · exact arithNull lang op k b n t x q k2 b2 n2 t2 x2 q2 hf hf2 h0 h9 g1 g2 g3 (.inl z1)
    by_cases z2 : k2 = 0
    · exact arithNull lang op k b n t x q k2 b2 n2 t2 x2 q2 hf hf2 h0 h9 g1 g2 g3 (.inr z2)
    have h5 := ops5 op h0 h9 g1
    cases c1 : ((lang != 1) && (op == 17) && (k == 4 && k2 == 4)) with
    | true =>
      simp only [Bool.and_eq_true, beq_iff_eq] at c1
      obtain ⟨⟨hj, rfl⟩, rfl, rfl⟩ := c1
      exact arithTexts lang b n t x q b2 n2 t2 x2 q2 hf hf2 hj g2 g3
    | false =>
      cases c2 : ((lang != 1) && (op == 17) && (k == 5 && k2 == 5)) with
      | true =>
        simp only [Bool.and_eq_true, beq_iff_eq] at c2
        obtain ⟨⟨hj, rfl⟩, rfl, rfl⟩ := c2
        exact arithLists lang b n t x q b2 n2 t2 x2 q2 hf hf2 hj g2 g3
      | false =>
        cases c3 : ((k == 2 || k == 3) && (k2 == 2 || k2 == 3)) with
        | false => exact arithNone lang op k b n t x q k2 b2 n2 t2 x2 q2 hf hf2 h0 h9 g1 g2 g3 z1 z2 c1 c2 c3
        | true =>
          simp only [Bool.and_eq_true, Bool.or_eq_true, beq_iff_eq] at c3
          obtain ⟨u1, u2⟩ := c3
          by_cases hh : k = 2 ∧ k2 = 2
          · obtain ⟨rfl, rfl⟩ := hh
            by_cases hd : op = 20 ∧ lang = 1
            · obtain ⟨rfl, rfl⟩ := hd
              exact arithDivS b n t x q b2 n2 t2 x2 q2 hf hf2 g2 g3
            · refine arithInts lang b n t x q b2 n2 t2 x2 q2 hf hf2 op h5 (fun e => by simp; omega) g2 g3 ?_
              rcases h5 with rfl | rfl | rfl | rfl | rfl
              · exact intAdd lang n n2 hf.lo hf.hi hf2.lo hf2.hi
              · exact intSub lang n n2 hf.lo hf.hi hf2.lo hf2.hi
              · exact intMul lang n n2 hf.lo hf.hi hf2.lo hf2.hi
              · exact intQuo lang n n2 hf.lo hf.hi hf2.lo hf2.hi (by simp; omega)
              · exact intRem lang n n2
          · rcases h5 with rfl | rfl | rfl | rfl | rfl
            · exact arithDecAdd lang k b n t x q k2 b2 n2 t2 x2 q2 hf hf2 g2 g3 u1 u2 hh
            · exact arithDecSub lang k b n t x q k2 b2 n2 t2 x2 q2 hf hf2 g2 g3 u1 u2 hh
            · exact arithDecMul lang k b n t x q k2 b2 n2 t2 x2 q2 hf hf2 g2 g3 u1 u2 hh
            · exact arithDecDiv lang k b n t x q k2 b2 n2 t2 x2 q2 hf hf2 g2 g3 u1 u2 hh
            · exact arithDecMod lang k b n t x q k2 b2 n2 t2 x2 q2 hf hf2 g2 g3 u1 u2 hh
end Go.Proofs.YtoifjjgakblhhaaGreatDoor

/- A value is written over: its lists' blocks alone change. -/
namespace Go.Proofs.YtoifjjgakblhhaaGreatDoor
open Go.RowKit

/-- Blocks from lo to hi were written, and new ones made. -/
structure Wrote (lo hi : Nat) (w w' : World) : Prop where
  os : w'.os = w.os
  tape : w'.tape = w.tape
  output : w'.output = w.output
  size : w.heap.size ≤ w'.heap.size
  block : ∀ i, i < w.heap.size → ¬ (lo ≤ i ∧ i < hi) → w'.heap[i]? = w.heap[i]?
theorem Wrote.refl (lo hi : Nat) (w : World) : Wrote lo hi w w := ⟨rfl, rfl, rfl, Nat.le_refl _, fun _ _ _ => rfl⟩
theorem Wrote.trans {lo hi : Nat} {a b c : World} (h : Wrote lo hi a b) (k : Wrote lo hi b c) : Wrote lo hi a c :=
  ⟨k.os.trans h.os, k.tape.trans h.tape, k.output.trans h.output, Nat.le_trans h.size k.size, fun i hi hn => (k.block i (Nat.lt_of_lt_of_le hi h.size) hn).trans (h.block i hi hn)⟩
theorem Wrote.of_below {lo hi : Nat} {a b : World} (h : Below a.heap.size a b) : Wrote lo hi a b := ⟨h.os, h.tape, h.output, h.size, fun i hi _ => h.block i hi⟩
theorem Wrote.wide {lo hi lo2 hi2 : Nat} {a b : World} (h : Wrote lo hi a b) (h1 : lo2 ≤ lo) (h2 : hi ≤ hi2) : Wrote lo2 hi2 a b :=
  ⟨h.os, h.tape, h.output, h.size, fun i hi hn => h.block i hi (fun q => hn ⟨by omega, by omega⟩)⟩
theorem Wrote.below {lo hi : Nat} {w a b : World} (h : Wrote lo hi a b) (k : Below w.heap.size w a) (hl : w.heap.size ≤ lo) : Below w.heap.size w b :=
  ⟨h.os.trans k.os, h.tape.trans k.tape, h.output.trans k.output, Nat.le_trans k.size h.size, fun i hi => (h.block i (Nat.lt_of_lt_of_le hi k.size) (by omega)).trans (k.block i hi)⟩
theorem setCells_world (b : Nat) : ∀ (vs : List Value) (o : Nat) (w : World), (w.setCells b o vs).os = w.os ∧ (w.setCells b o vs).tape = w.tape ∧ (w.setCells b o vs).output = w.output ∧ (w.setCells b o vs).heap.size = w.heap.size ∧ ∀ i, i ≠ b → (w.setCells b o vs).heap[i]? = w.heap[i]?
  | [], _, _ => ⟨rfl, rfl, rfl, rfl, fun _ _ => rfl⟩
  | v :: vs, o, w => by
    have h1 : Only b w (w.setCell ⟨b, o, none⟩ v) := (Only.refl b w).setCell o none v
    have h2 := setCells_world b vs (o + 1) (w.setCell ⟨b, o, none⟩ v)
    refine ⟨h2.1.trans h1.os, h2.2.1.trans h1.tape, h2.2.2.1.trans h1.output, ?_, fun i hi => ?_⟩
    · rw [show (w.setCells b o (v :: vs)).heap.size = ((w.setCell ⟨b, o, none⟩ v).setCells b (o + 1) vs).heap.size from rfl, h2.2.2.2.1]
      simp [World.setCell]
    · by_cases hlt : i < w.heap.size
      · exact (h2.2.2.2.2 i hi).trans (h1.block i hlt hi)
      · have e1 : ((w.setCell ⟨b, o, none⟩ v).setCells b (o + 1) vs).heap.size = w.heap.size := h2.2.2.2.1.trans (by simp [World.setCell])
        show ((w.setCell ⟨b, o, none⟩ v).setCells b (o + 1) vs).heap[i]? = _
        rw [Array.getElem?_eq_none (by omega), Array.getElem?_eq_none (by omega)]
/-- What over tells. -/
def OverPost (w : World) (lo hi : Nat) (e : Ending) (w' : World) : Prop := e = .returned (.tuple #[]) ∧ Wrote lo hi w w'
def OverAt (v : Val) : Prop := ∀ (w : World) (lo hi : Nat) (k : Int) (b : Bool) (n : Int) (t x : ByteArray) (q : List Val) (p : Option Addr) (cap : Nat), v = .mk k b n t x q → q.length ≤ 2097152 → HeldT w lo hi (.slice p q.length cap) q → hi ≤ w.heap.size →
  Calls Tryz.prog 67 #[.agg #[.int .i64 k, .bool b, .int .i64 n, .string t, .string x, .slice p q.length cap]] w (OverPost w lo hi)
/-- What is left of a list behind its first j elements. -/
theorem RestT.at_ {w : World} {g : Nat} : (l : List Val) → (off lo hi : Nat) → RestT w g off lo hi l → (h : 0 < l.length) → ∃ s e, lo ≤ s ∧ s ≤ e ∧ e ≤ hi ∧ ¬ (s ≤ g ∧ g < e) ∧ OneT w g off s e (l[0]'h) ∧ RestT w g (off + 6) e hi (l.drop 1)
  | [], _, _, _, _, h => absurd h (by simp)
  | v :: r, off, lo, hi, hr, _ => by
    unfold RestT at hr
    exact hr
theorem OneT.open_ {w : World} {g off s e : Nat} : {v : Val} → OneT w g off s e v → ∃ k b n t x q p cap, v = .mk k b n t x q ∧ w.rangeAt g off [.int .i64 k, .bool b, .int .i64 n, .string t, .string x, .slice p q.length cap] ∧ w.there g off 6 ∧ Fine n t x q.length ∧ HeldT w s e (.slice p q.length cap) q
  | .mk k b n t x q, h => by
    unfold OneT at h
    obtain ⟨L, hr, ht, hf, hl⟩ := h
    obtain ⟨p, cap, rfl⟩ := held_slice (HeldT.held q hl)
    exact ⟨k, b, n, t, x, q, p, cap, rfl, hr, ht, hf, hl⟩
/-- An element of block g was written over. -/
structure Junked (w w' : World) (g o : Nat) : Prop where
  os : w'.os = w.os
  tape : w'.tape = w.tape
  output : w'.output = w.output
  size : w'.heap.size = w.heap.size
  blk : ∀ i, i ≠ g → w'.heap[i]? = w.heap[i]?
  rng : ∀ o' cs, o + 6 ≤ o' → w.rangeAt g o' cs → w'.rangeAt g o' cs
  thr : ∀ o' n, w.there g o' n → w'.there g o' n
theorem junked (w : World) (g o : Nat) (vs : List Value) (hv : vs.length = 6) : Junked w (w.setCells g o vs) g o := by
  have h := setCells_world g vs o w
  exact ⟨h.1, h.2.1, h.2.2.1, h.2.2.2.1, h.2.2.2.2, fun o' cs ho r => World.rangeAt_setCells_apart r g o vs (.inr (.inr (by omega))), fun o' n r => World.there_setCells r g o vs⟩
theorem wpList_storeJunk {ops : Array Oper} {rest : List Oper} {op : Oper} {a : Act} {w : World} {Q : Exit → Act → World → Prop} {k : Int} {b : Bool} {n : Int} {t x : ByteArray} {p : Option Addr} {len cap : Nat} (hgd : op.guard = none) (u v : Operand) (ho : op.op = .store 28 u v)
    (g o : Nat) (hx : a.eval u = .pointer (some ⟨g, o, none⟩)) (hy : a.eval v = .agg #[.int .i64 k, .bool b, .int .i64 n, .string t, .string x, .slice p len cap])
    (ht : w.there g o 6) (h : ∀ w', Junked w w' g o → wpList Tryz.prog ops Q rest (a.put op.dst undef) w') : wpList Tryz.prog ops Q (op :: rest) a w :=
  wpList_store_mid hgd 28 u v ho g o _ hx hy ht info28 (by simp [Value.oneCell']) (h _ (junked w g o _ rfl))
set_option maxRecDepth 20000 in
set_option maxHeartbeats 6400000 in
theorem overSome (q : List Val) (k : Int) (b : Bool) (n : Int) (t x : ByteArray) (g off cap lo hi : Nat) (w : World) (hn : q.length ≤ 2097152) (h1 : lo ≤ g) (h2 : g < hi) (hr : RestT w g off lo hi q) (hs : hi ≤ w.heap.size) (each : ∀ u ∈ q, OverAt u) :
    Calls Tryz.prog 67 #[.agg #[.int .i64 k, .bool b, .int .i64 n, .string t, .string x, .slice (some ⟨g, off, none⟩) q.length cap]] w (OverPost w lo hi) := by
  obtain ⟨W0, hW0⟩ : ∃ W0, W0 = w.alloc (.cells #[.int .i64 k, .bool b, .int .i64 n, .string t, .string x, .slice (some ⟨g, off, none⟩) q.length cap] 28) := ⟨_, rfl⟩
  have S : Six W0 w.heap.size k b n t x (some ⟨g, off, none⟩) q.length cap := by rw [hW0]; exact six_new _ rfl
  have b0 : Below w.heap.size w W0 := by rw [hW0]; exact below1 _ _
  have r0 : RestT W0 g off lo hi q := RestT.keep (Keep.heap (b0.block g (by omega)) (fun i _ c => b0.block i (by omega))) q hr
  have HE := Lib.hid each
  have H0 := Lib.hid hW0
  clear hr each hW0
  go_enter Tryz.func67, Tryz.ntmps67
  go_wp2_with fail
  rw [← H0.out]
  go_loopg [2] q.length (fun gg s2 wr => ∃ (j lj : Nat), j + gg = q.length ∧ s2 = .int .i64 j ∧ lo ≤ lj ∧ Six wr w.heap.size k b n t x (some ⟨g, off, none⟩) q.length cap ∧ Hid (RestT wr g (off + j * 6) lj hi (q.drop j)) ∧ Wrote lo hi w wr)
  case atStart => exact ⟨0, lo, by omega, rfl, Nat.le_refl _, S, Lib.hid (by simpa using r0), Wrote.of_below b0⟩
  case round =>
    clear S b0 r0
    obtain ⟨j, lj, hjg, rfl, hlj, S, HR, HW⟩ := hrel
    have f5 := S.c5
    by_cases hlt : (j : Int) < q.length
    · have hj1 : j < q.length := by omega
      obtain ⟨s, e, g1, g2, g3, g4, ho, hrest⟩ := RestT.at_ (q.drop j) _ _ _ HR.out (by simp; omega)
      have hv : (q.drop j)[0]'(by simp; omega) = q[j] := by simp
      rw [hv] at ho
      obtain ⟨k', b', n', t', x', q', p', cp', ev, hrg, hth, hf', hl'⟩ := ho.open_
      have hd : (q.drop j).drop 1 = q.drop (j + 1) := by rw [List.drop_drop]
      rw [hd] at hrest
      have hws := HW.size
      have hc := HE.out q[j] (List.getElem_mem hj1) wr s e k' b' n' t' x' q' p' cp' ev hf'.hn hl' (by omega)
      unfold OverPost at hc
      have c0 : wr.cell? ⟨g, off + j * 6, none⟩ = some (.int .i64 k') := hrg 0 _ rfl
      have c1 := hrg 1 _ rfl
      have c2 := hrg 2 _ rfl
      have c3 := hrg 3 _ rfl
      have c4 := hrg 4 _ rfl
      have c5 := hrg 5 _ rfl
      have HRR := Lib.hid hrest
      have HTH := Lib.hid hth
      clear hrest hth hrg ho hl' hv hd
      go_wp2_with (first
        | ((with_reducible refine wpList_loadMid6 (.tmp 13) g (off + j * 6) k' b' n' t' x' (.slice p' q'.length cp') c0 c1 c2 c3 c4 c5 ?_ ?_ ?_ ?_); rfl; rfl; rfl)
        | (go_at_call 67; (with_reducible refine hc.mono ?_); rintro e9 w3 ⟨rfl, wr3⟩
           have S3 : Six w3 w.heap.size k b n t x (some ⟨g, off, none⟩) q.length cap := (wr3.block _ S.lt (by omega)).trans S
           have f5 := S3.c5
           have th3 : w3.there g (off + j * 6) 6 := there_heap (wr3.block g (by omega) g4) HTH.out
           clear c0 c1 c2 c3 c4 c5)
        | ((with_reducible refine wpList_storeJunk (k := 98) (b := false) (n := 0) (t := ⟨#[]⟩) (x := ⟨#[]⟩) (p := none) (len := 0) (cap := 0) ?_ (.tmp 20) (.tmp 19) ?_ g (off + j * 6) ?_ ?_ th3 ?_); rfl; rfl; rfl; rfl; intro w4 jk))
      have W4 : Wrote lo hi w w4 := (HW.trans (wr3.wide (by omega) (by omega))).trans ⟨jk.os, jk.tape, jk.output, Nat.le_of_eq jk.size.symm, fun i _ hn => jk.blk i (fun e => hn (by omega))⟩
      have S4 : Six w4 w.heap.size k b n t x (some ⟨g, off, none⟩) q.length cap := (jk.blk _ (by omega)).trans S3
      have R4 : RestT w4 g (off + (j + 1) * 6) e hi (q.drop (j + 1)) := by
        have hk1 : Keep wr w3 g (off + (j + 1) * 6) e hi := Keep.heap (wr3.block g (by omega) g4) (fun i a c => wr3.block i (by omega) (by omega))
        have hk2 : Keep w3 w4 g (off + (j + 1) * 6) e hi := ⟨fun o cs ho r => jk.rng o cs (by omega) r, fun o n _ r => jk.thr o n r, fun i _ _ hne => jk.blk i hne⟩
        exact RestT.keep hk2 _ (RestT.keep hk1 _ (by have h := HRR.out; rwa [show off + j * 6 + 6 = off + (j + 1) * 6 by omega] at h))
      have HR4 := Lib.hid R4
      clear R4 HRR HTH jk th3 S3 wr3 HR hc f5
      go_wp2_with fail
      go_roundg (gk - 1)
      case measure => omega
      case rel => exact ⟨j + 1, e, by omega, by go_num, by omega, S4, HR4, W4⟩
    · go_wp2_with fail
      go_end0
      exact ⟨rfl, HW⟩
set_option maxRecDepth 20000 in
set_option maxHeartbeats 6400000 in
theorem overNone (k : Int) (b : Bool) (n : Int) (t x : ByteArray) (p : Option Addr) (cap lo hi : Nat) (w : World) :
    Calls Tryz.prog 67 #[.agg #[.int .i64 k, .bool b, .int .i64 n, .string t, .string x, .slice p 0 cap]] w (OverPost w lo hi) := by
  obtain ⟨W0, hW0⟩ : ∃ W0, W0 = w.alloc (.cells #[.int .i64 k, .bool b, .int .i64 n, .string t, .string x, .slice p 0 cap] 28) := ⟨_, rfl⟩
  have S : Six W0 w.heap.size k b n t x p 0 cap := by rw [hW0]; exact six_new _ rfl
  have b0 : Below w.heap.size w W0 := by rw [hW0]; exact below1 _ _
  have H0 := Lib.hid hW0
  clear hW0
  go_enter Tryz.func67, Tryz.ntmps67
  go_wp2_with fail
  rw [← H0.out]
  go_loopg [2] 0 (fun gg s2 wr => gg = 0 ∧ s2 = .int .i64 0 ∧ wr = W0)
  case atStart => exact ⟨rfl, rfl, rfl⟩
  case round =>
    obtain ⟨_, rfl, rfl⟩ := hrel
    have f5 := S.c5
    go_wp2_with fail
    go_end0
    exact ⟨rfl, Wrote.of_below b0⟩
theorem overStep (v : Val) (k : Int) (b : Bool) (n : Int) (t x : ByteArray) (q : List Val) (ev : v = .mk k b n t x q) (each : ∀ u ∈ q, OverAt u) : OverAt v := by
  subst ev
  intro w lo hi k1 b1 n1 t1 x1 q1 p cap e hn hl hs
  cases e
  cases q with
  | nil => exact overNone k b n t x p cap lo hi w
  | cons v r =>
    obtain ⟨g, off, rfl, _, h1, h2, hr⟩ := hl.form
    exact overSome (v :: r) k b n t x g off cap lo hi w hn h1 h2 hr hs each
mutual
theorem overVal : (v : Val) → OverAt v
  | .mk k b n t x q => overStep _ k b n t x q rfl (overEach q)
theorem overEach : (q : List Val) → ∀ u ∈ q, OverAt u
  | [], _, h => absurd h (by simp)
  | v :: r, u, h => by
    rcases List.mem_cons.1 h with h | h
    · rw [h]; exact overVal v
    · exact overEach r u h
end
set_option maxRecDepth 20000 in
set_option maxHeartbeats 3200000 in
/-- OverValue. -/
theorem overValue (k : Int) (b : Bool) (n : Int) (t x : ByteArray) (q : List Val) (p : Option Addr) (cap lo hi : Nat) (w : World) (hn : q.length ≤ 2097152) (hl : HeldT w lo hi (.slice p q.length cap) q) (hs : hi ≤ w.heap.size) :
    Calls Tryz.prog 27 #[.agg #[.int .i64 k, .bool b, .int .i64 n, .string t, .string x, .slice p q.length cap]] w (OverPost w lo hi) := by
  obtain ⟨W0, hW0⟩ : ∃ W0, W0 = w.alloc (.cells #[.int .i64 k, .bool b, .int .i64 n, .string t, .string x, .slice p q.length cap] 28) := ⟨_, rfl⟩
  have S : Six W0 w.heap.size k b n t x p q.length cap := by rw [hW0]; exact six_new _ rfl
  have b0 : Below w.heap.size w W0 := by rw [hW0]; exact below1 _ _
  have hc := overVal (.mk k b n t x q) W0 lo hi k b n t x q p cap rfl hn (HeldT.stays (fun i _ c => b0.block i (by omega)) q hl) (by have := b0.size; omega)
  unfold OverPost at hc
  have H0 := Lib.hid hW0
  clear hW0 hl
  go_enter Tryz.func27, Tryz.ntmps27
  go_wp2_with (first
    | ((try rw [← H0.out]); (with_reducible refine wpList_load6 (.tmp 1) w.heap.size S ?_ ?_ ?_ ?_); rfl; rfl; rfl)
    | (go_at_call 67; (with_reducible refine hc.mono ?_); rintro e9 w3 ⟨rfl, wr3⟩))
  go_end0
  exact ⟨rfl, (Wrote.of_below b0).trans wr3⟩
end Go.Proofs.YtoifjjgakblhhaaGreatDoor
