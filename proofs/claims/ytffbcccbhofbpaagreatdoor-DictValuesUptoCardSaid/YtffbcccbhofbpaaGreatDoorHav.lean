/- Texts of one kind, one behind the other: each says ahead of itself what it shows. -/
import Derived.Test.YtffbcccbhofbpaaGreatDoorHai
import Derived.Test.YtffbcccbhofbpaaGreatDoorHao
import Derived.Test.YtffbcccbhofbpaaGreatDoorHau
import Derived.Lib.ConvBytes
import Derived.Test.YtffbcccbhofbpaaGreatDoorHas
import Derived.Deep.LoopGhost
/- A dictionary of values: a value's number; the value that has a number. -/
namespace Go.Proofs.YtffbcccbhofbpaaGreatDoor
open Go.RowKit

theorem encP_ne (v : Val) : encP v ≠ [] := by
  obtain ⟨k, b, n, t, x, q⟩ := v
  unfold encP
  simp
theorem encLen (v : Val) (hw : 13 * wOne v ≤ 800000000) : (bs (encP v)).size ≤ 800000000 := by
  rw [bs_size]
  exact Nat.le_trans (encP_len v) hw
/-- Behind Encode: the bytes as a text. -/
theorem convB (l : List UInt8) (hl : l ≠ []) {W : World} {A : Value} (h : Bts W A l) : (convert 57 9 A).run Tryz.prog W = .ok (.string (bs l)) W := by
  obtain ⟨p, cap, rfl, h⟩ := h
  rcases h with h | ⟨g, off, rfl, hc⟩
  · exact absurd h hl
  · refine run_convert_bytes_back W 57 9 5 ⟨g, off, none⟩ cap l Tryz.underlying57 Tryz.underlying5 Tryz.underlying9 (fun j hj => ?_)
    have h := hc j l[j] (List.getElem?_eq_getElem hj)
    have e : (⟨g, off, none⟩ : Addr).add j = ⟨g, off + j, none⟩ := by
      unfold Addr.add; split <;> simp_all
    rw [e]
    exact h

section
variable (v : Val) (k : Int) (b : Bool) (n : Int) (t x : ByteArray) (q : List Val) (p : Option Addr) (cap : Nat) (w : World) (hG : Gd w) (ev : v = .mk k b n t x q) (hf : Fine n t x q.length) (hl : Held w (.slice p q.length cap) q) (hw : 13 * wOne v ≤ 800000000)
include hG ev hf hl hw
theorem encYes (hm : mayP v 0 = true) : Calls Tryz.prog 24 #[.agg #[.int .i64 k, .bool b, .int .i64 n, .string t, .string x, .slice p q.length cap]] w fun e w' => ∃ A, e = .returned (.tuple #[A, .int .i64 0]) ∧ Bts w' A (encP v) ∧ Below w.heap.size w w' :=
  (encodeAt v k b n t x q p cap w hG ev hf hl hw).mono (by
    rintro e w' ⟨A, he, h1, h2⟩
    rw [hm] at he h1
    exact ⟨A, he, h1, h2⟩)
theorem encNo (hm : mayP v 0 = false) : Calls Tryz.prog 24 #[.agg #[.int .i64 k, .bool b, .int .i64 n, .string t, .string x, .slice p q.length cap]] w fun e w' => ∃ A, e = .returned (.tuple #[A, .int .i64 1]) ∧ Below w.heap.size w w' :=
  (encodeAt v k b n t x q p cap w hG ev hf hl hw).mono (by
    rintro e w' ⟨A, he, h1, h2⟩
    rw [hm] at he
    exact ⟨A, he, h2⟩)

set_option maxRecDepth 20000 in
set_option maxHeartbeats 3200000 in
theorem vidBad (hm : mayP v 0 = false) (P : Value) :
    Calls Tryz.prog 8 #[P, .agg #[.int .i64 k, .bool b, .int .i64 n, .string t, .string x, .slice p q.length cap]] w fun e w' => e = .returned (.tuple #[.int .i64 0, .int .i64 1]) ∧ Below w.heap.size w w' := by
  obtain ⟨W0, hW0⟩ : ∃ W0, W0 = w.alloc (.cells #[.int .i64 k, .bool b, .int .i64 n, .string t, .string x, .slice p q.length cap] 31) := ⟨_, rfl⟩
  have S : Six W0 w.heap.size k b n t x p q.length cap := by rw [hW0]; exact six_new _ rfl
  have b0 : Below w.heap.size w W0 := by rw [hW0]; exact below1 _ _
  have hc := encNo v k b n t x q p cap W0 (hG.below b0) ev hf (Held.below q hl b0) hw hm
  have H0 := Lib.hid hW0
  clear hW0 hl hf hw hm ev
  go_enter Tryz.func8, Tryz.ntmps8
  go_wp2_with (first
    | ((try rw [← H0.out]); (with_reducible refine wpList_load6 (.tmp 3) w.heap.size S ?_ ?_ ?_ ?_); rfl; rfl; rfl)
    | (go_at_call 24; (try rw [← H0.out]); (with_reducible refine hc.mono ?_); rintro e w2 ⟨A, rfl, hb2⟩; have b2 := below_any b0 hb2 b0.size))
  go_ret2
  exact ⟨rfl, b2⟩
set_option maxRecDepth 20000 in
set_option maxHeartbeats 3200000 in
theorem vidYes (hm : mayP v 0 = true) (g : Nat) (ls : List ByteArray) (F : Nat → Prop) (h : Dic w g ls F) (j : Nat) (hj : ls[j]? = some (bs (encP v))) :
    Calls Tryz.prog 8 #[.pointer (some ⟨g, 0, none⟩), .agg #[.int .i64 k, .bool b, .int .i64 n, .string t, .string x, .slice p q.length cap]] w fun e w' => e = .returned (.tuple #[.int .i64 j, .int .i64 0]) ∧ Below w.heap.size w w' := by
  obtain ⟨W0, hW0⟩ : ∃ W0, W0 = w.alloc (.cells #[.int .i64 k, .bool b, .int .i64 n, .string t, .string x, .slice p q.length cap] 31) := ⟨_, rfl⟩
  have S : Six W0 w.heap.size k b n t x p q.length cap := by rw [hW0]; exact six_new _ rfl
  have b0 : Below w.heap.size w W0 := by rw [hW0]; exact below1 _ _
  have hc := encYes v k b n t x q p cap W0 (hG.below b0) ev hf (Held.below q hl b0) hw hm
  have hsz := encLen v hw
  have hne := encP_ne v
  generalize encP v = l at hc hj hsz hne
  have H0 := Lib.hid hW0
  clear hW0 hl hf hw hm ev
  go_enter Tryz.func8, Tryz.ntmps8
  go_wp2_with (first
    | ((try rw [← H0.out]); (with_reducible refine wpList_load6 (.tmp 3) w.heap.size S ?_ ?_ ?_ ?_); rfl; rfl; rfl)
    | (go_at_call 24; (try rw [← H0.out]); (with_reducible refine hc.mono ?_); rintro e w2 ⟨A, rfl, hB, hb2⟩; have b2 := below_any b0 hb2 b0.size))
  have hconv := convB l hne (hB.below (w' := w2.drew) (Below.refl _ _).drew)
  have hd2 : Dic w2.drew g ls F := (h.below b2).keep fun _ _ => rfl
  have hnum := numberYes w2.drew g ls F hd2 (bs l) j hj (by unfold maxLen; omega)
  clear hb2 h hd2 hB S
  go_region_with (go_at_call 25; refine hnum.mono ?_; rintro e w3 ⟨rfl, rfl⟩)
  go_wp2_with fail
  go_ret2
  exact ⟨rfl, b2.drew⟩

set_option maxRecDepth 20000 in
set_option maxHeartbeats 3200000 in
theorem vidNo (hm : mayP v 0 = true) (g : Nat) (ls : List ByteArray) (F : Nat → Prop) (h : Dic w g ls F) (hj : bs (encP v) ∉ ls) (hn : ls.length ≤ 1048576) :
    Calls Tryz.prog 8 #[.pointer (some ⟨g, 0, none⟩), .agg #[.int .i64 k, .bool b, .int .i64 n, .string t, .string x, .slice p q.length cap]] w fun e w' => ∃ F', e = .returned (.tuple #[.int .i64 ls.length, .int .i64 0]) ∧ Dic w' g (ls ++ [bs (encP v)]) F' ∧ Turn F F' w w' := by
  obtain ⟨W0, hW0⟩ : ∃ W0, W0 = w.alloc (.cells #[.int .i64 k, .bool b, .int .i64 n, .string t, .string x, .slice p q.length cap] 31) := ⟨_, rfl⟩
  have S : Six W0 w.heap.size k b n t x p q.length cap := by rw [hW0]; exact six_new _ rfl
  have b0 : Below w.heap.size w W0 := by rw [hW0]; exact below1 _ _
  have hc := encYes v k b n t x q p cap W0 (hG.below b0) ev hf (Held.below q hl b0) hw hm
  have hsz := encLen v hw
  have hne := encP_ne v
  generalize encP v = l at hc hj hsz hne ⊢
  have H0 := Lib.hid hW0
  clear hW0 hl hf hw hm ev
  go_enter Tryz.func8, Tryz.ntmps8
  go_wp2_with (first
    | ((try rw [← H0.out]); (with_reducible refine wpList_load6 (.tmp 3) w.heap.size S ?_ ?_ ?_ ?_); rfl; rfl; rfl)
    | (go_at_call 24; (try rw [← H0.out]); (with_reducible refine hc.mono ?_); rintro e w2 ⟨A, rfl, hB, hb2⟩; have b2 := below_any b0 hb2 b0.size))
  have hconv := convB l hne (hB.below (w' := w2.drew) (Below.refl _ _).drew)
  have hd2 : Dic w2.drew g ls F := (h.below b2).keep fun _ _ => rfl
  have hnum := numberNo w2.drew g ls F hd2 (bs l) hj (by unfold maxLen; omega) (by omega) hn
  have ch2 : Ch F w w2 := Ch.of_below b2
  clear hb2 h hd2 hB S
  go_region_with (go_at_call 25; refine hnum.mono ?_; rintro e w3 ⟨F', rfl, hd3, ht3⟩)
  go_wp2_with fail
  go_ret2
  exact ⟨F', rfl, hd3, ⟨ch2.trans (G := F) ⟨ht3.ch.os, ht3.ch.tape, ht3.ch.output, ht3.ch.size, ht3.ch.block⟩ (fun _ _ q => q), fun i q => (ht3.foot i q).imp id (fun e => Nat.le_trans b2.size e)⟩⟩
end
/-- The first value's number, 3. -/
def v3 : Val := .mk 2 false 3 ⟨#[]⟩ ⟨#[]⟩ []
def b3 : ByteArray := bs (encP v3)
theorem v3may : mayP v3 0 = true := by
  unfold v3 mayP fitsP
  simp [bareP]
  rfl
theorem valuesID3 (w : World) (g : Nat) (F : Nat → Prop) (h : Dic w g [] F) (hG : Gd w) :
    Calls Tryz.prog 8 #[.pointer (some ⟨g, 0, none⟩), .agg #[.int .i64 2, .bool false, .int .i64 3, .string ⟨#[]⟩, .string ⟨#[]⟩, .slice none 0 0]] w fun e w' => ∃ F', e = .returned (.tuple #[.int .i64 0, .int .i64 0]) ∧ Dic w' g [b3] F' ∧ Turn F F' w w' :=
  vidNo v3 2 false 3 ⟨#[]⟩ ⟨#[]⟩ [] none 0 w hG rfl ⟨by decide, by decide, by decide, by decide, by decide⟩ (by unfold Held; exact ⟨none, 0, rfl⟩) (by decide) v3may g [] F h (by simp) (by simp)

/-- The bytes of a text, in a row of their own. -/
theorem srcOf (w : World) (s : ByteArray) (hs : s.size ≤ 800000000) : Src (Lib.bytesWorld w 5 s) (.slice (some ⟨w.heap.size, 0, none⟩) s.size (grownCap w s.size 0 5)) s.data.toList := by
  have e : s.size = s.data.toList.length := Array.length_toList.symm
  rw [e]
  refine ⟨_, _, rfl, ?_, ?_, .inr ⟨_, _, rfl, ⟨(_, _), Lib.bytesWorld_at_new w 5 s⟩, fun j c hj => ?_⟩⟩
  · rw [← e]; exact grownCap_ge _ _ _ _
  · rw [← e]; exact grownCap_le_maxLen _ _ _ _ (by unfold maxLen; omega)
  · have hlt := (List.getElem?_eq_some_iff.1 hj).1
    have h := Lib.bytesWorld_cell w 5 s j (by omega)
    rw [Nat.zero_add, h]
    congr 2
    simp [List.getD, hj]
theorem bytesBelow (w : World) (s : ByteArray) : Below w.heap.size w (Lib.bytesWorld w 5 s) :=
  ⟨rfl, rfl, rfl, by rw [Lib.bytesWorld_size]; omega, fun i hi => Lib.bytesWorld_at_old w 5 s i hi⟩

/-- What Value tells of a number that there is. -/
def VPost (w : World) (k : Int) (b : Bool) (n : Int) (t x : ByteArray) (q : List Val) (e : Ending) (w' : World) : Prop :=
  ∃ p c, e = .returned (.tuple #[.agg #[.int .i64 k, .bool b, .int .i64 n, .string t, .string x, .slice p q.length c], .bool true]) ∧ HeldT w' w.heap.size w'.heap.size (.slice p q.length c) q ∧ Below w.heap.size w w'

set_option maxRecDepth 20000 in
set_option maxHeartbeats 3200000 in
theorem valueNo (w : World) (g : Nat) (ls : List ByteArray) (F : Nat → Prop) (h : Dic w g ls F) (j : Int) (hj : j < 0 ∨ (ls.length : Int) ≤ j) :
    Calls Tryz.prog 13 #[.pointer (some ⟨g, 0, none⟩), .int .i64 j] w fun e w' => e = .returned (.tuple #[.agg #[.int .i64 0, .bool false, .int .i64 0, .string ⟨#[]⟩, .string ⟨#[]⟩, .slice none 0 0], .bool false]) ∧ Below w.heap.size w w' := by
  obtain ⟨W0, hW0⟩ : ∃ W0, W0 = w.alloc (.cells #[.int .i64 0, .bool false, .int .i64 0, .string ⟨#[]⟩, .string ⟨#[]⟩, .slice none 0 0] 31) := ⟨_, rfl⟩
  have S : Six W0 w.heap.size 0 false 0 ⟨#[]⟩ ⟨#[]⟩ none 0 0 := by rw [hW0]; exact six_new _ rfl
  have b0 : Below w.heap.size w W0 := by rw [hW0]; exact below1 _ _
  have hc := keyNo W0 g ls F (h.below b0) j hj
  have H0 := Lib.hid hW0
  clear hW0 h hj
  go_enter Tryz.func13, Tryz.ntmps13
  go_wp2_with (first
    | (go_at_call 30; (try rw [← H0.out]); (with_reducible refine hc.mono ?_); rintro e w2 ⟨rfl, hb2⟩; replace S := S.below hb2; replace b0 := below_any b0 hb2 b0.size; clear hb2)
    | ((with_reducible refine wpList_store6 (k' := 0) (b' := false) (n' := 0) (t' := ⟨#[]⟩) (x' := ⟨#[]⟩) (p' := none) (len' := 0) (cap' := 0) (.tmp 4) (.tmp 20) w.heap.size S ?_ ?_ ?_ ?_ ?_); rfl; rfl; rfl; rfl; intro w9 on9 S9))
  exact bodyPost_ret (results_six_tmp (p := 4) (q := 5) Tryz.results13 _ (.bool false) rfl rfl S9) rfl ⟨rfl, below_only b0 on9 (Nat.le_refl _) b0.size⟩

set_option maxRecDepth 20000 in
set_option maxHeartbeats 3200000 in
theorem valueYes (v : Val) (k : Int) (b : Bool) (n : Int) (t x : ByteArray) (q : List Val) (ev : v = .mk k b n t x q) (hfi : fineV v) (hm : mayP v 0 = true) (w : World) (hG : Gd w) (g : Nat) (ls : List ByteArray) (F : Nat → Prop) (h : Dic w g ls F) (j : Nat) (hj : ls[j]? = some (bs (encP v))) (hn : ls.length ≤ maxLen) (hw : 13 * wOne v ≤ 800000000) :
    Calls Tryz.prog 13 #[.pointer (some ⟨g, 0, none⟩), .int .i64 j] w (VPost w k b n t x q) := by
  obtain ⟨W0, hW0⟩ : ∃ W0, W0 = w.alloc (.cells #[.int .i64 0, .bool false, .int .i64 0, .string ⟨#[]⟩, .string ⟨#[]⟩, .slice none 0 0] 31) := ⟨_, rfl⟩
  have S : Six W0 w.heap.size 0 false 0 ⟨#[]⟩ ⟨#[]⟩ none 0 0 := by rw [hW0]; exact six_new _ rfl
  have b0 : Below w.heap.size w W0 := by rw [hW0]; exact below1 _ _
  have hsz := encLen v hw
  have hc := keyYes W0 g ls F (h.below b0) j _ hj hn
  have hde := dec_enc v hfi hm
  obtain ⟨s, hs⟩ : ∃ s, s = bs (encP v) := ⟨_, rfl⟩
  have hsl : s.data.toList = encP v := by rw [hs]
  rw [← hs] at hc hsz
  have hdec : ∀ W, Below w.heap.size w W → Calls Tryz.prog 31 #[.slice (some ⟨W.heap.size, 0, none⟩) s.size (grownCap W s.size 0 5)] (Lib.bytesWorld W 5 s) fun e w' => ∃ p c, e = .returned (.tuple #[.agg #[.int .i64 k, .bool b, .int .i64 n, .string t, .string x, .slice p q.length c], .int .i64 0]) ∧ HeldT w' (Lib.bytesWorld W 5 s).heap.size w'.heap.size (.slice p q.length c) q ∧ Below (Lib.bytesWorld W 5 s).heap.size (Lib.bytesWorld W 5 s) w' := fun W hW => by
    refine (decodeAt s.data.toList _ _ ((hG.below hW).below (bytesBelow W s)) (srcOf W s hsz) (by rw [hsl]; exact Nat.le_trans (encP_len v) (by omega))).mono ?_
    rintro e w' (⟨h1, _⟩ | ⟨k1, b1, n1, t1, x1, q1, p1, c1, h1, _, he, hh, hb⟩)
    · rw [hsl, hde] at h1; cases h1
    · rw [hsl, hde, ev] at h1
      cases h1
      exact ⟨p1, c1, he, hh, hb⟩
  have hconv : ∀ W : World, (convert 9 57 (.string s)).run Tryz.prog W = .ok (.slice (some ⟨W.heap.size, 0, none⟩) s.size (grownCap W s.size 0 5)) (Lib.bytesWorld W 5 s) := fun W => Lib.run_convert_string_bytes W 9 57 5 s Tryz.underlying9 Tryz.underlying57 Tryz.underlying5
  have HD := Lib.hid hdec
  have H0 := Lib.hid hW0
  clear hW0 h hj hdec hde hs hsl hsz hm hfi hw
  go_enter Tryz.func13, Tryz.ntmps13
  go_upto_region 4 with (go_at_call 30; (try rw [← H0.out]); (with_reducible refine hc.mono ?_); rintro e w2 ⟨rfl, hb2⟩; replace S := S.below hb2; replace b0 := below_any b0 hb2 b0.size; clear hb2)
  have bb := below_any b0 (bytesBelow w2 s) b0.size
  have SS := S.below (bytesBelow w2 s)
  go_upto_region 5 with (go_at_call 31; (with_reducible refine (HD.out _ b0).mono ?_); rintro e w3 ⟨p, c, rfl, hh, hb3⟩; have HH := Lib.hid (And.intro hh hb3); clear hh hb3)
  have hb3 := HH.out.2
  have S8 : Six (w3.alloc (.cells #[.int .i64 k, .bool b, .int .i64 n, .string t, .string x, .slice p q.length c] 31)) w3.heap.size k b n t x p q.length c := six_new _ rfl
  have S4 := (SS.below hb3).alloc (.cells #[.int .i64 k, .bool b, .int .i64 n, .string t, .string x, .slice p q.length c] 31)
  have b5 := (below_any bb hb3 bb.size).alloc (below_any bb hb3 bb.size).size (.cells #[.int .i64 k, .bool b, .int .i64 n, .string t, .string x, .slice p q.length c] 31)
  have hh5 : HeldT (w3.alloc (.cells #[.int .i64 k, .bool b, .int .i64 n, .string t, .string x, .slice p q.length c] 31)) (w.heap.size + 1) (w3.alloc (.cells #[.int .i64 k, .bool b, .int .i64 n, .string t, .string x, .slice p q.length c] 31)).heap.size (.slice p q.length c) q := HeldT.wide SS.lt (below1 w3 (.cells #[.int .i64 k, .bool b, .int .i64 n, .string t, .string x, .slice p q.length c] 31)).size q (HeldT.stays (fun i _ a => Below.heap_alloc _ _ _ a) q HH.out.1)
  have hlt := S8.lt
  have h0 := S4.lt
  have hne : w3.heap.size ≠ w.heap.size := by have := bb.size; have := hb3.size; have := SS.lt; omega
  generalize w3.alloc (.cells #[.int .i64 k, .bool b, .int .i64 n, .string t, .string x, .slice p q.length c] 31) = W5 at S8 S4 b5 hh5 hlt h0 ⊢
  have HH5 := Lib.hid hh5
  clear hb3 SS bb S hh5 HH
  go_wp2_with (first
    | ((with_reducible refine wpList_load6 (.tmp 8) w3.heap.size S8 ?_ ?_ ?_ ?_); rfl; rfl; rfl)
    | ((with_reducible refine wpList_store6 (k' := k) (b' := b) (n' := n) (t' := t) (x' := x) (p' := p) (len' := q.length) (cap' := c) (.tmp 4) (.tmp 27) w.heap.size S4 ?_ ?_ ?_ ?_ ?_); rfl; rfl; rfl; rfl; intro w9 on9 S9))
  refine bodyPost_ret (results_six_tmp (p := 4) (q := 5) Tryz.results13 _ (.bool true) rfl rfl S9) rfl ⟨p, c, rfl, ?_, below_only b5 on9 (Nat.le_refl _) b5.size⟩
  exact HeldT.wide (by omega) on9.size q (HeldT.stays (fun i a b => on9.block i b (by omega)) q HH5.out)
end Go.Proofs.YtffbcccbhofbpaaGreatDoor

/- What each law of package dict ends in: two keys, three cells, a value: it holds. -/
namespace Go.Proofs.YtffbcccbhofbpaaGreatDoor
open Go.RowKit

theorem turn_apart {F F' G : Nat → Prop} {w w' : World} (t : Turn F F' w w') (d : ∀ i, F i → ¬ G i) (lt : ∀ i, G i → i < w.heap.size) : ∀ i, F' i → ¬ G i := fun i q g => by
  rcases t.foot i q with h | h
  · exact d i h g
  · have := lt i g; omega
theorem turn_low {F F' : Nat → Prop} {B : Nat} {w w' : World} (t : Turn F F' w w') (hB : B ≤ w.heap.size) (l : ∀ i, F i → B ≤ i) : ∀ i, F' i → B ≤ i := fun i q => by
  rcases t.foot i q with h | h
  · exact l i h
  · omega
/-- The three things of 'wakes', apart. -/
structure Wk (w0 w : World) (g1 g2 g3 : Nat) (l1 : List ByteArray) (xs : List (Option Int)) (l3 : List ByteArray) (F1 F2 F3 : Nat → Prop) : Prop where
  d : Dic w g1 l1 F1
  c : ColNum w g2 xs F2
  v : Dic w g3 l3 F3
  a12 : ∀ i, F1 i → ¬ F2 i
  a13 : ∀ i, F1 i → ¬ F3 i
  a23 : ∀ i, F2 i → ¬ F3 i
  b1 : ∀ i, F1 i → w0.heap.size ≤ i
  b2 : ∀ i, F2 i → w0.heap.size ≤ i
  b3 : ∀ i, F3 i → w0.heap.size ≤ i
  bel : Below w0.heap.size w0 w
section
variable {w0 w w' : World} {g1 g2 g3 : Nat} {l1 l1' : List ByteArray} {xs xs' : List (Option Int)} {l3 l3' : List ByteArray} {F1 F2 F3 F' : Nat → Prop}
theorem Wk.turn1 (h : Wk w0 w g1 g2 g3 l1 xs l3 F1 F2 F3) (t : Turn F1 F' w w') (d' : Dic w' g1 l1' F') : Wk w0 w' g1 g2 g3 l1' xs l3 F' F2 F3 :=
  ⟨d', h.c.ch t.ch (fun i q p => h.a12 i p q), h.v.ch t.ch (fun i q p => h.a13 i p q), turn_apart t h.a12 (fun _ => h.c.lt), turn_apart t h.a13 (fun _ => h.v.lt), h.a23, turn_low t h.bel.size h.b1, h.b2, h.b3, h.bel.trans (t.ch.below h.bel.size h.b1)⟩
theorem Wk.turn2 (h : Wk w0 w g1 g2 g3 l1 xs l3 F1 F2 F3) (t : Turn F2 F' w w') (c' : ColNum w' g2 xs' F') : Wk w0 w' g1 g2 g3 l1 xs' l3 F1 F' F3 :=
  ⟨h.d.ch t.ch h.a12, c', h.v.ch t.ch (fun i q p => h.a23 i p q), fun i p q => turn_apart t (fun i p q => h.a12 i q p) (fun _ => h.d.lt) i q p, h.a13, turn_apart t h.a23 (fun _ => h.v.lt), h.b1, turn_low t h.bel.size h.b2, h.b3, h.bel.trans (t.ch.below h.bel.size h.b2)⟩
theorem Wk.turn3 (h : Wk w0 w g1 g2 g3 l1 xs l3 F1 F2 F3) (t : Turn F3 F' w w') (v' : Dic w' g3 l3' F') : Wk w0 w' g1 g2 g3 l1 xs l3' F1 F2 F' :=
  ⟨h.d.ch t.ch h.a13, h.c.ch t.ch h.a23, v', h.a12, fun i p q => turn_apart t (fun i p q => h.a13 i q p) (fun _ => h.d.lt) i q p, fun i p q => turn_apart t (fun i p q => h.a23 i q p) (fun _ => h.c.lt) i q p, h.b1, h.b2, turn_low t h.bel.size h.b3, h.bel.trans (t.ch.below h.bel.size h.b3)⟩
end
def kB : ByteArray := ⟨#[98]⟩
def kA : ByteArray := ⟨#[97]⟩
theorem kA_not : kA ∉ ([] ++ [kB] : List ByteArray) := by
  simp [kA, kB]
set_option maxRecDepth 20000 in
set_option maxHeartbeats 3200000 in
theorem wakesAt (w : World) (hG : Gd w) : Calls Tryz.prog 5 #[] w fun e w' => e = .returned (.bool true) ∧ Below w.heap.size w w' := by
  have eB : (⟨#[98]⟩ : ByteArray) = kB := rfl
  have eA : (⟨#[97]⟩ : ByteArray) = kA := rfl
  go_enter Tryz.func5, Tryz.ntmps5
  rw [eB, eA]
  go_wp2_with (first
    | (go_at_call 14; (with_reducible refine (newAt _).mono ?_); rintro e w1 ⟨g1, F1, rfl, hb1, d1, m1⟩)
    | (go_at_call 15; (with_reducible refine (newColNum _).mono ?_); rintro e w2 ⟨g2, F2, rfl, hb2, c2, m2⟩)
    | (go_at_call 6; (with_reducible refine (newValues _).mono ?_); rintro e w3 ⟨g3, F3, rfl, hb3, v3, m3⟩
       have K : Wk w w3 g1 g2 g3 [] [] [] F1 F2 F3 := ⟨(d1.below hb2).below hb3, c2.below hb3, v3, fun i p q => by have h1 := d1.lt p; have h2 := m2 i q; omega, fun i p q => by have h1 := d1.lt p; have h2 := m3 i q; have h3 := hb2.size; omega, fun i p q => by have h1 := c2.lt p; have h2 := m3 i q; omega, m1, fun i p => Nat.le_trans hb1.size (m2 i p), fun i p => Nat.le_trans (Nat.le_trans hb1.size hb2.size) (m3 i p), below_any (below_any hb1 hb2 hb1.size) hb3 (Nat.le_trans hb1.size hb2.size)⟩
       clear d1 c2 v3 m1 m2 m3 hb1 hb2 hb3)
    | (go_at_call 16; (with_reducible refine (IDNo _ _ [] _ K.d kB (by simp) (by decide) (by decide) (by simp)).mono ?_); rintro e w4 ⟨F4, rfl, d4, t4⟩; replace K := K.turn1 t4 d4; clear t4 d4)
    | (go_at_call 16; (with_reducible refine (IDNo _ _ ([] ++ [kB]) _ K.d kA kA_not (by decide) (by decide) (by simp)).mono ?_); rintro e w5 ⟨F5, rfl, d5, t5⟩; replace K := K.turn1 t5 d5; clear t5 d5)
    | (go_at_call 17; (with_reducible refine (putNum _ _ [] _ K.c (by simp) 5).mono ?_); rintro e w6 ⟨rfl, F6, c6, t6⟩; replace K := K.turn2 t6 c6; clear t6 c6)
    | (go_at_call 18; (with_reducible refine (putNullNum _ _ ([] ++ [some 5]) _ K.c (by simp)).mono ?_); rintro e w7 ⟨rfl, F7, c7, t7⟩; replace K := K.turn2 t7 c7; clear t7 c7)
    | (go_at_call 8; (with_reducible refine (valuesID3 _ _ _ K.v (hG.below K.bel)).mono ?_); rintro e w8 ⟨F8, rfl, v8, t8⟩; replace K := K.turn3 t8 v8; clear t8 v8)
    | (go_at_call 16; (with_reducible refine (IDYes _ _ ([] ++ [kB] ++ [kA]) _ K.d kB 0 rfl (by decide)).mono ?_); rintro e w9 ⟨rfl, rfl⟩)
    | (go_at_call 19; (with_reducible refine (LenAt _ _ ([] ++ [kB] ++ [kA]) _ K.d).mono ?_); rintro e w9 ⟨rfl, rfl⟩)
    | (go_at_call 20; (with_reducible refine (lenNum _ _ ([] ++ [some 5] ++ [none]) _ K.c).mono ?_); rintro e w9 ⟨rfl, rfl⟩)
    | (go_at_call 21; (with_reducible refine (nullsNum _ _ ([] ++ [some 5] ++ [none]) _ K.c (by simp)).mono ?_); rintro e w9 ⟨rfl, rfl⟩)
    | (go_at_call 11; (with_reducible refine (valuesLen _ _ [b3] _ K.v).mono ?_); rintro e w9 ⟨rfl, rfl⟩))
  go_ret
  exact ⟨rfl, K.bel⟩
end Go.Proofs.YtffbcccbhofbpaaGreatDoor

/- A value is written over: its lists' blocks alone change. -/
namespace Go.Proofs.YtffbcccbhofbpaaGreatDoor
open Go.RowKit

/-- Blocks from lo to hi were written, and new ones made. -/
structure Wrote (lo hi : Nat) (w w' : World) : Prop where
  os : w'.os = w.os
  tape : w'.tape = w.tape
  output : w'.output = w.output
  size : w.heap.size ≤ w'.heap.size
  block : ∀ i, i < w.heap.size → ¬ (lo ≤ i ∧ i < hi) → w'.heap[i]? = w.heap[i]?
theorem Wrote.refl (lo hi : Nat) (w : World) : Wrote lo hi w w := ⟨rfl, rfl, rfl, Nat.le_refl _, fun _ _ _ => rfl⟩
theorem Wrote.trans {lo hi : Nat} {a b c : World} (h : Wrote lo hi a b) (k : Wrote lo hi b c) : Wrote lo hi a c :=
  ⟨k.os.trans h.os, k.tape.trans h.tape, k.output.trans h.output, Nat.le_trans h.size k.size, fun i hi hn => (k.block i (Nat.lt_of_lt_of_le hi h.size) hn).trans (h.block i hi hn)⟩
theorem Wrote.of_below {lo hi : Nat} {a b : World} (h : Below a.heap.size a b) : Wrote lo hi a b := ⟨h.os, h.tape, h.output, h.size, fun i hi _ => h.block i hi⟩
theorem Wrote.wide {lo hi lo2 hi2 : Nat} {a b : World} (h : Wrote lo hi a b) (h1 : lo2 ≤ lo) (h2 : hi ≤ hi2) : Wrote lo2 hi2 a b :=
  ⟨h.os, h.tape, h.output, h.size, fun i hi hn => h.block i hi (fun q => hn ⟨by omega, by omega⟩)⟩
theorem Wrote.below {lo hi : Nat} {w a b : World} (h : Wrote lo hi a b) (k : Below w.heap.size w a) (hl : w.heap.size ≤ lo) : Below w.heap.size w b :=
  ⟨h.os.trans k.os, h.tape.trans k.tape, h.output.trans k.output, Nat.le_trans k.size h.size, fun i hi => (h.block i (Nat.lt_of_lt_of_le hi k.size) (by omega)).trans (k.block i hi)⟩
theorem setCells_world (b : Nat) : ∀ (vs : List Value) (o : Nat) (w : World), (w.setCells b o vs).os = w.os ∧ (w.setCells b o vs).tape = w.tape ∧ (w.setCells b o vs).output = w.output ∧ (w.setCells b o vs).heap.size = w.heap.size ∧ ∀ i, i ≠ b → (w.setCells b o vs).heap[i]? = w.heap[i]?
  | [], _, _ => ⟨rfl, rfl, rfl, rfl, fun _ _ => rfl⟩
  | v :: vs, o, w => by
    have h1 : Only b w (w.setCell ⟨b, o, none⟩ v) := (Only.refl b w).setCell o none v
    have h2 := setCells_world b vs (o + 1) (w.setCell ⟨b, o, none⟩ v)
    refine ⟨h2.1.trans h1.os, h2.2.1.trans h1.tape, h2.2.2.1.trans h1.output, ?_, fun i hi => ?_⟩
    · rw [show (w.setCells b o (v :: vs)).heap.size = ((w.setCell ⟨b, o, none⟩ v).setCells b (o + 1) vs).heap.size from rfl, h2.2.2.2.1]
      simp [World.setCell]
    · by_cases hlt : i < w.heap.size
      · exact (h2.2.2.2.2 i hi).trans (h1.block i hlt hi)
      · have e1 : ((w.setCell ⟨b, o, none⟩ v).setCells b (o + 1) vs).heap.size = w.heap.size := h2.2.2.2.1.trans (by simp [World.setCell])
        show ((w.setCell ⟨b, o, none⟩ v).setCells b (o + 1) vs).heap[i]? = _
        rw [Array.getElem?_eq_none (by omega), Array.getElem?_eq_none (by omega)]
/-- What over tells. -/
def OverPost (w : World) (lo hi : Nat) (e : Ending) (w' : World) : Prop := e = .returned (.tuple #[]) ∧ Wrote lo hi w w'
def OverAt (v : Val) : Prop := ∀ (w : World) (lo hi : Nat) (k : Int) (b : Bool) (n : Int) (t x : ByteArray) (q : List Val) (p : Option Addr) (cap : Nat), v = .mk k b n t x q → q.length ≤ 2097152 → HeldT w lo hi (.slice p q.length cap) q → hi ≤ w.heap.size →
  Calls Tryz.prog 26 #[.agg #[.int .i64 k, .bool b, .int .i64 n, .string t, .string x, .slice p q.length cap]] w (OverPost w lo hi)
/-- What is left of a list behind its first j elements. -/
theorem RestT.at_ {w : World} {g : Nat} : (l : List Val) → (off lo hi : Nat) → RestT w g off lo hi l → (h : 0 < l.length) → ∃ s e, lo ≤ s ∧ s ≤ e ∧ e ≤ hi ∧ ¬ (s ≤ g ∧ g < e) ∧ OneT w g off s e (l[0]'h) ∧ RestT w g (off + 6) e hi (l.drop 1)
  | [], _, _, _, _, h => absurd h (by simp)
  | v :: r, off, lo, hi, hr, _ => by
    unfold RestT at hr
    exact hr
theorem OneT.open_ {w : World} {g off s e : Nat} : {v : Val} → OneT w g off s e v → ∃ k b n t x q p cap, v = .mk k b n t x q ∧ w.rangeAt g off [.int .i64 k, .bool b, .int .i64 n, .string t, .string x, .slice p q.length cap] ∧ w.there g off 6 ∧ Fine n t x q.length ∧ HeldT w s e (.slice p q.length cap) q
  | .mk k b n t x q, h => by
    unfold OneT at h
    obtain ⟨L, hr, ht, hf, hl⟩ := h
    obtain ⟨p, cap, rfl⟩ := held_slice (HeldT.held q hl)
    exact ⟨k, b, n, t, x, q, p, cap, rfl, hr, ht, hf, hl⟩
/-- An element of block g was written over. -/
structure Junked (w w' : World) (g o : Nat) : Prop where
  os : w'.os = w.os
  tape : w'.tape = w.tape
  output : w'.output = w.output
  size : w'.heap.size = w.heap.size
  blk : ∀ i, i ≠ g → w'.heap[i]? = w.heap[i]?
  rng : ∀ o' cs, o + 6 ≤ o' → w.rangeAt g o' cs → w'.rangeAt g o' cs
  thr : ∀ o' n, w.there g o' n → w'.there g o' n
theorem junked (w : World) (g o : Nat) (vs : List Value) (hv : vs.length = 6) : Junked w (w.setCells g o vs) g o := by
  have h := setCells_world g vs o w
  exact ⟨h.1, h.2.1, h.2.2.1, h.2.2.2.1, h.2.2.2.2, fun o' cs ho r => World.rangeAt_setCells_apart r g o vs (.inr (.inr (by omega))), fun o' n r => World.there_setCells r g o vs⟩
theorem wpList_storeJunk {ops : Array Oper} {rest : List Oper} {op : Oper} {a : Act} {w : World} {Q : Exit → Act → World → Prop} {k : Int} {b : Bool} {n : Int} {t x : ByteArray} {p : Option Addr} {len cap : Nat} (hgd : op.guard = none) (u v : Operand) (ho : op.op = .store 31 u v)
    (g o : Nat) (hx : a.eval u = .pointer (some ⟨g, o, none⟩)) (hy : a.eval v = .agg #[.int .i64 k, .bool b, .int .i64 n, .string t, .string x, .slice p len cap])
    (ht : w.there g o 6) (h : ∀ w', Junked w w' g o → wpList Tryz.prog ops Q rest (a.put op.dst undef) w') : wpList Tryz.prog ops Q (op :: rest) a w :=
  wpList_store_mid hgd 31 u v ho g o _ hx hy ht info28 (by simp [Value.oneCell']) (h _ (junked w g o _ rfl))
set_option maxRecDepth 20000 in
set_option maxHeartbeats 6400000 in
theorem overSome (q : List Val) (k : Int) (b : Bool) (n : Int) (t x : ByteArray) (g off cap lo hi : Nat) (w : World) (hn : q.length ≤ 2097152) (h1 : lo ≤ g) (h2 : g < hi) (hr : RestT w g off lo hi q) (hs : hi ≤ w.heap.size) (each : ∀ u ∈ q, OverAt u) :
    Calls Tryz.prog 26 #[.agg #[.int .i64 k, .bool b, .int .i64 n, .string t, .string x, .slice (some ⟨g, off, none⟩) q.length cap]] w (OverPost w lo hi) := by
  obtain ⟨W0, hW0⟩ : ∃ W0, W0 = w.alloc (.cells #[.int .i64 k, .bool b, .int .i64 n, .string t, .string x, .slice (some ⟨g, off, none⟩) q.length cap] 31) := ⟨_, rfl⟩
  have S : Six W0 w.heap.size k b n t x (some ⟨g, off, none⟩) q.length cap := by rw [hW0]; exact six_new _ rfl
  have b0 : Below w.heap.size w W0 := by rw [hW0]; exact below1 _ _
  have r0 : RestT W0 g off lo hi q := RestT.keep (Keep.heap (b0.block g (by omega)) (fun i _ c => b0.block i (by omega))) q hr
  have HE := Lib.hid each
  have H0 := Lib.hid hW0
  clear hr each hW0
  go_enter Tryz.func26, Tryz.ntmps26
  go_wp2_with fail
  rw [← H0.out]
  go_loopg [2] q.length (fun gg s2 wr => ∃ (j lj : Nat), j + gg = q.length ∧ s2 = .int .i64 j ∧ lo ≤ lj ∧ Six wr w.heap.size k b n t x (some ⟨g, off, none⟩) q.length cap ∧ Hid (RestT wr g (off + j * 6) lj hi (q.drop j)) ∧ Wrote lo hi w wr)
  case atStart => exact ⟨0, lo, by omega, rfl, Nat.le_refl _, S, Lib.hid (by simpa using r0), Wrote.of_below b0⟩
  case round =>
    clear S b0 r0
    obtain ⟨j, lj, hjg, rfl, hlj, S, HR, HW⟩ := hrel
    have f5 := S.c5
    by_cases hlt : (j : Int) < q.length
    · have hj1 : j < q.length := by omega
      obtain ⟨s, e, g1, g2, g3, g4, ho, hrest⟩ := RestT.at_ (q.drop j) _ _ _ HR.out (by simp; omega)
      have hv : (q.drop j)[0]'(by simp; omega) = q[j] := by simp
      rw [hv] at ho
      obtain ⟨k', b', n', t', x', q', p', cp', ev, hrg, hth, hf', hl'⟩ := ho.open_
      have hd : (q.drop j).drop 1 = q.drop (j + 1) := by rw [List.drop_drop]
      rw [hd] at hrest
      have hws := HW.size
      have hc := HE.out q[j] (List.getElem_mem hj1) wr s e k' b' n' t' x' q' p' cp' ev hf'.hn hl' (by omega)
      unfold OverPost at hc
      have c0 : wr.cell? ⟨g, off + j * 6, none⟩ = some (.int .i64 k') := hrg 0 _ rfl
      have c1 := hrg 1 _ rfl
      have c2 := hrg 2 _ rfl
      have c3 := hrg 3 _ rfl
      have c4 := hrg 4 _ rfl
      have c5 := hrg 5 _ rfl
      have HRR := Lib.hid hrest
      have HTH := Lib.hid hth
      clear hrest hth hrg ho hl' hv hd
      go_wp2_with (first
        | ((with_reducible refine wpList_loadMid6 (.tmp 13) g (off + j * 6) k' b' n' t' x' (.slice p' q'.length cp') c0 c1 c2 c3 c4 c5 ?_ ?_ ?_ ?_); rfl; rfl; rfl)
        | (go_at_call 26; (with_reducible refine hc.mono ?_); rintro e9 w3 ⟨rfl, wr3⟩
           have S3 : Six w3 w.heap.size k b n t x (some ⟨g, off, none⟩) q.length cap := (wr3.block _ S.lt (by omega)).trans S
           have f5 := S3.c5
           have th3 : w3.there g (off + j * 6) 6 := there_heap (wr3.block g (by omega) g4) HTH.out
           clear c0 c1 c2 c3 c4 c5)
        | ((with_reducible refine wpList_storeJunk (k := 98) (b := false) (n := 0) (t := ⟨#[]⟩) (x := ⟨#[]⟩) (p := none) (len := 0) (cap := 0) ?_ (.tmp 20) (.tmp 19) ?_ g (off + j * 6) ?_ ?_ th3 ?_); rfl; rfl; rfl; rfl; intro w4 jk))
      have W4 : Wrote lo hi w w4 := (HW.trans (wr3.wide (by omega) (by omega))).trans ⟨jk.os, jk.tape, jk.output, Nat.le_of_eq jk.size.symm, fun i _ hn => jk.blk i (fun e => hn (by omega))⟩
      have S4 : Six w4 w.heap.size k b n t x (some ⟨g, off, none⟩) q.length cap := (jk.blk _ (by omega)).trans S3
      have R4 : RestT w4 g (off + (j + 1) * 6) e hi (q.drop (j + 1)) := by
        have hk1 : Keep wr w3 g (off + (j + 1) * 6) e hi := Keep.heap (wr3.block g (by omega) g4) (fun i a c => wr3.block i (by omega) (by omega))
        have hk2 : Keep w3 w4 g (off + (j + 1) * 6) e hi := ⟨fun o cs ho r => jk.rng o cs (by omega) r, fun o n _ r => jk.thr o n r, fun i _ _ hne => jk.blk i hne⟩
        exact RestT.keep hk2 _ (RestT.keep hk1 _ (by have h := HRR.out; rwa [show off + j * 6 + 6 = off + (j + 1) * 6 by omega] at h))
      have HR4 := Lib.hid R4
      clear R4 HRR HTH jk th3 S3 wr3 HR hc f5
      go_wp2_with fail
      go_roundg (gk - 1)
      case measure => omega
      case rel => exact ⟨j + 1, e, by omega, by go_num, by omega, S4, HR4, W4⟩
    · go_wp2_with fail
      go_end0
      exact ⟨rfl, HW⟩
set_option maxRecDepth 20000 in
set_option maxHeartbeats 6400000 in
theorem overNone (k : Int) (b : Bool) (n : Int) (t x : ByteArray) (p : Option Addr) (cap lo hi : Nat) (w : World) :
    Calls Tryz.prog 26 #[.agg #[.int .i64 k, .bool b, .int .i64 n, .string t, .string x, .slice p 0 cap]] w (OverPost w lo hi) := by
  obtain ⟨W0, hW0⟩ : ∃ W0, W0 = w.alloc (.cells #[.int .i64 k, .bool b, .int .i64 n, .string t, .string x, .slice p 0 cap] 31) := ⟨_, rfl⟩
  have S : Six W0 w.heap.size k b n t x p 0 cap := by rw [hW0]; exact six_new _ rfl
  have b0 : Below w.heap.size w W0 := by rw [hW0]; exact below1 _ _
  have H0 := Lib.hid hW0
  clear hW0
  go_enter Tryz.func26, Tryz.ntmps26
  go_wp2_with fail
  rw [← H0.out]
  go_loopg [2] 0 (fun gg s2 wr => gg = 0 ∧ s2 = .int .i64 0 ∧ wr = W0)
  case atStart => exact ⟨rfl, rfl, rfl⟩
  case round =>
    obtain ⟨_, rfl, rfl⟩ := hrel
    have f5 := S.c5
    go_wp2_with fail
    go_end0
    exact ⟨rfl, Wrote.of_below b0⟩
theorem overStep (v : Val) (k : Int) (b : Bool) (n : Int) (t x : ByteArray) (q : List Val) (ev : v = .mk k b n t x q) (each : ∀ u ∈ q, OverAt u) : OverAt v := by
  subst ev
  intro w lo hi k1 b1 n1 t1 x1 q1 p cap e hn hl hs
  cases e
  cases q with
  | nil => exact overNone k b n t x p cap lo hi w
  | cons v r =>
    obtain ⟨g, off, rfl, _, h1, h2, hr⟩ := hl.form
    exact overSome (v :: r) k b n t x g off cap lo hi w hn h1 h2 hr hs each
mutual
theorem overVal : (v : Val) → OverAt v
  | .mk k b n t x q => overStep _ k b n t x q rfl (overEach q)
theorem overEach : (q : List Val) → ∀ u ∈ q, OverAt u
  | [], _, h => absurd h (by simp)
  | v :: r, u, h => by
    rcases List.mem_cons.1 h with h | h
    · rw [h]; exact overVal v
    · exact overEach r u h
end
set_option maxRecDepth 20000 in
set_option maxHeartbeats 3200000 in
/-- OverValue. -/
theorem overValue (k : Int) (b : Bool) (n : Int) (t x : ByteArray) (q : List Val) (p : Option Addr) (cap lo hi : Nat) (w : World) (hn : q.length ≤ 2097152) (hl : HeldT w lo hi (.slice p q.length cap) q) (hs : hi ≤ w.heap.size) :
    Calls Tryz.prog 9 #[.agg #[.int .i64 k, .bool b, .int .i64 n, .string t, .string x, .slice p q.length cap]] w (OverPost w lo hi) := by
  obtain ⟨W0, hW0⟩ : ∃ W0, W0 = w.alloc (.cells #[.int .i64 k, .bool b, .int .i64 n, .string t, .string x, .slice p q.length cap] 31) := ⟨_, rfl⟩
  have S : Six W0 w.heap.size k b n t x p q.length cap := by rw [hW0]; exact six_new _ rfl
  have b0 : Below w.heap.size w W0 := by rw [hW0]; exact below1 _ _
  have hc := overVal (.mk k b n t x q) W0 lo hi k b n t x q p cap rfl hn (HeldT.stays (fun i _ c => b0.block i (by omega)) q hl) (by have := b0.size; omega)
  unfold OverPost at hc
  have H0 := Lib.hid hW0
  clear hW0 hl
  go_enter Tryz.func9, Tryz.ntmps9
  go_wp2_with (first
    | ((try rw [← H0.out]); (with_reducible refine wpList_load6 (.tmp 1) w.heap.size S ?_ ?_ ?_ ?_); rfl; rfl; rfl)
    | (go_at_call 26; (with_reducible refine hc.mono ?_); rintro e9 w3 ⟨rfl, wr3⟩))
  go_end0
  exact ⟨rfl, (Wrote.of_below b0).trans wr3⟩
end Go.Proofs.YtffbcccbhofbpaaGreatDoor
