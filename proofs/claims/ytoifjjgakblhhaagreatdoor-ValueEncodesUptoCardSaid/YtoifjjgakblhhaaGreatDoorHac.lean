/- Texts of one kind, one behind the other: each says ahead of itself what it shows. -/
import Derived.Test.YtoifjjgakblhhaaGreatDoorHaa
import Derived.Test.YtoifjjgakblhhaaGreatDoorHab
import Derived.Deep.RegionWith
import Derived.BigGuardPart
/- write: the text of a sign and digits. -/
namespace Go.Proofs.YtoifjjgakblhhaaGreatDoor
open Go.RowKit

/-- Bytes as a string. -/
abbrev bs (l : List UInt8) : ByteArray := ⟨l.toArray⟩

theorem trimL (s A : ByteArray) (H : Hid (A = bs (Lib.trimLeftB s.data.toList 48))) (w : World) :
    Calls Tryz.prog 168 #[.string s, .string ⟨#[48]⟩] w fun e w' => e = .returned (.string A) ∧ w = w' :=
  (Tryz.strings_TrimLeft_one s 48 (by decide) w).mono fun _ _ ⟨h, k⟩ => ⟨by rw [h, H.out], k.symm⟩
theorem trimR (s A : ByteArray) (H : Hid (A = bs (Lib.trimRightB s.data.toList 48))) (w : World) (hs : s.size ≤ maxLen) :
    Calls Tryz.prog 169 #[.string s, .string ⟨#[48]⟩] w fun e w' => e = .returned (.string A) ∧ w = w' :=
  (Tryz.strings_TrimRight_one s 48 (by decide) w (by unfold maxLen at hs; omega)).mono fun _ _ ⟨h, k⟩ => ⟨by rw [h, H.out], k.symm⟩
theorem orN_at (s A : ByteArray) (H : Hid (A = bs (orN s.data.toList))) (w : World) :
    Calls Tryz.prog 170 #[.string s] w fun e w' => e = .returned (.string A) ∧ w = w' :=
  (orNoughtAt s w).mono fun _ _ ⟨h, k⟩ => ⟨by rw [h, H.out], k.symm⟩

theorem orN_size (l : List UInt8) (n : Nat) (h : l.length ≤ n) (hn : 1 ≤ n) : (bs (orN l)).size ≤ n := by
  unfold orN bs
  split <;> simp [ByteArray.size] <;> omega

theorem bytes_ext {a b : ByteArray} (h : a.data.toList = b.data.toList) : a = b := by
  obtain ⟨a⟩ := a; obtain ⟨b⟩ := b
  simp only [ByteArray.mk.injEq]
  exact Array.toList_inj.1 h

set_option maxHeartbeats 800000 in
theorem writePos (neg : Bool) (x y A B : ByteArray) (w : World) (hx : x.size ≤ maxLen) (hy : y.size ≤ maxLen) (HA : Hid (A = bs (Lib.trimLeftB x.data.toList 48))) (HB : Hid (B = bs (Lib.trimRightB y.data.toList 48)))
    (hA : A.size ≤ 40) (hB : B.size ≤ 20) (hn : neg = false) :
    Calls Tryz.prog 148 #[.bool neg, .string x, .string y] w fun e w' => e = .returned (.tuple #[.string (bs ( orN A.data.toList ++ 46 :: orN B.data.toList)), .int .i64 0]) ∧ w = w' := by
  subst hn
  obtain ⟨C, hC⟩ : ∃ C, C = bs (orN A.data.toList) := ⟨_, rfl⟩
  obtain ⟨D, hD⟩ : ∃ D, D = bs (orN B.data.toList) := ⟨_, rfl⟩
  have hCs : C.size ≤ 40 := by rw [hC]; exact orN_size _ _ (by simpa using hA) (by omega)
  have hDs : D.size ≤ 20 := by rw [hD]; exact orN_size _ _ (by simpa using hB) (by omega)
  have HC := Lib.hid hC
  have HD := Lib.hid hD
  clear hC hD
  go_enter Tryz.func148, Tryz.ntmps148
  go_wp2_with (first
    | (go_at_call 168; (with_reducible refine (trimL x A HA _).mono ?_); rintro e w' ⟨rfl, rfl⟩)
    | (go_at_call 169; (with_reducible refine (trimR y B HB _ hy).mono ?_); rintro e w' ⟨rfl, rfl⟩)
    | (go_at_call 170; (with_reducible refine (orN_at A C HC _).mono ?_); rintro e w' ⟨rfl, rfl⟩)
    | (go_at_call 170; (with_reducible refine (orN_at B D HD _).mono ?_); rintro e w' ⟨rfl, rfl⟩))
  go_ret2
  refine ⟨?_, rfl⟩
  have e : (({ data := #[] } : ByteArray) ++ C ++ { data := #[46] } ++ D : ByteArray) = bs ( orN A.data.toList ++ 46 :: orN B.data.toList) := by
    apply bytes_ext
    rw [HC.out, HD.out]
    simp
  exact congrArg (fun z => Ending.returned (.tuple #[.string z, .int .i64 0])) e

set_option maxHeartbeats 800000 in
theorem writeNeg (neg : Bool) (x y A B : ByteArray) (w : World) (hx : x.size ≤ maxLen) (hy : y.size ≤ maxLen) (HA : Hid (A = bs (Lib.trimLeftB x.data.toList 48))) (HB : Hid (B = bs (Lib.trimRightB y.data.toList 48)))
    (hA : A.size ≤ 40) (hB : B.size ≤ 20) (hn : neg = true) (hne : (A ++ B).toList.isEmpty = false) :
    Calls Tryz.prog 148 #[.bool neg, .string x, .string y] w fun e w' => e = .returned (.tuple #[.string (bs (45 :: orN A.data.toList ++ 46 :: orN B.data.toList)), .int .i64 0]) ∧ w = w' := by
  subst hn
  obtain ⟨C, hC⟩ : ∃ C, C = bs (orN A.data.toList) := ⟨_, rfl⟩
  obtain ⟨D, hD⟩ : ∃ D, D = bs (orN B.data.toList) := ⟨_, rfl⟩
  have hCs : C.size ≤ 40 := by rw [hC]; exact orN_size _ _ (by simpa using hA) (by omega)
  have hDs : D.size ≤ 20 := by rw [hD]; exact orN_size _ _ (by simpa using hB) (by omega)
  have HC := Lib.hid hC
  have HD := Lib.hid hD
  clear hC hD
  go_enter Tryz.func148, Tryz.ntmps148
  go_wp2_with (first
    | (go_at_call 168; (with_reducible refine (trimL x A HA _).mono ?_); rintro e w' ⟨rfl, rfl⟩)
    | (go_at_call 169; (with_reducible refine (trimR y B HB _ hy).mono ?_); rintro e w' ⟨rfl, rfl⟩)
    | (go_at_call 170; (with_reducible refine (orN_at A C HC _).mono ?_); rintro e w' ⟨rfl, rfl⟩)
    | (go_at_call 170; (with_reducible refine (orN_at B D HD _).mono ?_); rintro e w' ⟨rfl, rfl⟩))
  go_ret2
  refine ⟨?_, rfl⟩
  have e : (({ data := #[45] } : ByteArray) ++ C ++ { data := #[46] } ++ D : ByteArray) = bs (45 :: orN A.data.toList ++ 46 :: orN B.data.toList) := by
    apply bytes_ext
    rw [HC.out, HD.out]
    simp
  exact congrArg (fun z => Ending.returned (.tuple #[.string z, .int .i64 0])) e

set_option maxHeartbeats 800000 in
theorem writeNil (x y : ByteArray) (w : World) (hx : x.size ≤ maxLen) (hy : y.size ≤ maxLen) (HA : Hid (ByteArray.mk #[] = bs (Lib.trimLeftB x.data.toList 48))) (HB : Hid (ByteArray.mk #[] = bs (Lib.trimRightB y.data.toList 48))) :
    Calls Tryz.prog 148 #[.bool true, .string x, .string y] w fun e w' => e = .returned (.tuple #[.string (bs [48, 46, 48]), .int .i64 0]) ∧ w = w' := by
  have HC : Hid (bs [48] = bs (orN (ByteArray.mk #[]).data.toList)) := Lib.hid rfl
  have hne : (({ data := #[] } : ByteArray) ++ { data := #[] }).toList.isEmpty = true := by rw [ByteArray.toList_eq]; rfl
  go_enter Tryz.func148, Tryz.ntmps148
  go_wp2_with (first
    | (go_at_call 168; (with_reducible refine (trimL x _ HA _).mono ?_); rintro e w' ⟨rfl, rfl⟩)
    | (go_at_call 169; (with_reducible refine (trimR y _ HB _ hy).mono ?_); rintro e w' ⟨rfl, rfl⟩)
    | (go_at_call 170; (with_reducible refine (orN_at _ _ HC _).mono ?_); rintro e w' ⟨rfl, rfl⟩))
  go_ret2
  exact ⟨rfl, rfl⟩

set_option maxHeartbeats 800000 in
theorem writeBad (neg : Bool) (x y A B : ByteArray) (w : World) (hx : x.size ≤ maxLen) (hy : y.size ≤ maxLen) (HA : Hid (A = bs (Lib.trimLeftB x.data.toList 48))) (HB : Hid (B = bs (Lib.trimRightB y.data.toList 48)))
    (h : 40 < A.size ∨ 20 < B.size) :
    Calls Tryz.prog 148 #[.bool neg, .string x, .string y] w fun e w' => e = .returned (.tuple #[.string (bs []), .int .i64 2]) ∧ w = w' := by
  by_cases h1 : (40 : Int) < A.size
  · clear h
    go_enter Tryz.func148, Tryz.ntmps148
    go_wp2_with (first
      | (go_at_call 168; (with_reducible refine (trimL x A HA _).mono ?_); rintro e w' ⟨rfl, rfl⟩)
      | (go_at_call 169; (with_reducible refine (trimR y B HB _ hy).mono ?_); rintro e w' ⟨rfl, rfl⟩))
    go_ret2
    exact ⟨rfl, rfl⟩
  · have h2 : (20 : Int) < B.size := by omega
    clear h
    go_enter Tryz.func148, Tryz.ntmps148
    go_wp2_with (first
      | (go_at_call 168; (with_reducible refine (trimL x A HA _).mono ?_); rintro e w' ⟨rfl, rfl⟩)
      | (go_at_call 169; (with_reducible refine (trimR y B HB _ hy).mono ?_); rintro e w' ⟨rfl, rfl⟩))
    go_ret2
    exact ⟨rfl, rfl⟩

/-- What is handed back. -/
def said (r : Option (List UInt8)) : Value := match r with
  | some t => .tuple #[.string (bs t), .int .i64 0]
  | none => .tuple #[.string (bs []), .int .i64 2]

theorem writeAt (neg : Bool) (x y : ByteArray) (w : World) (hx : x.size ≤ maxLen) (hy : y.size ≤ maxLen) :
    Calls Tryz.prog 148 #[.bool neg, .string x, .string y] w fun e w' => e = .returned (said (wr neg x.data.toList y.data.toList)) ∧ w = w' := by
  obtain ⟨A, hA⟩ : ∃ A, A = bs (Lib.trimLeftB x.data.toList 48) := ⟨_, rfl⟩
  obtain ⟨B, hB⟩ : ∃ B, B = bs (Lib.trimRightB y.data.toList 48) := ⟨_, rfl⟩
  have lA : (Lib.trimLeftB x.data.toList 48).length = A.size := by rw [hA]; simp [ByteArray.size]
  have lB : (Lib.trimRightB y.data.toList 48).length = B.size := by rw [hB]; simp [ByteArray.size]
  have tA : Lib.trimLeftB x.data.toList 48 = A.data.toList := by rw [hA]
  have tB : Lib.trimRightB y.data.toList 48 = B.data.toList := by rw [hB]
  have HA := Lib.hid hA
  have HB := Lib.hid hB
  unfold wr
  simp only [lA, lB]
  by_cases h : 40 < A.size ∨ 20 < B.size
  · rw [if_pos h]
    exact writeBad neg x y A B w hx hy HA HB h
  · rw [if_neg h, tA, tB]
    cases neg
    · exact writePos false x y A B w hx hy HA HB (by omega) (by omega) rfl
    · by_cases hn : (A.data.toList ++ B.data.toList).isEmpty = true
      · have e1 : A.data.toList = [] := by simp at hn; simpa using hn.1
        have e2 : B.data.toList = [] := by simp at hn; simpa using hn.2
        have f1 : A = ByteArray.mk #[] := bytes_ext (by rw [e1])
        have f2 : B = ByteArray.mk #[] := bytes_ext (by rw [e2])
        subst f1 f2
        exact writeNil x y w hx hy HA HB
      · have hn' : (A.data.toList ++ B.data.toList).isEmpty = false := by simpa using hn
        rw [hn']
        exact writeNeg true x y A B w hx hy HA HB (by omega) (by omega) rfl (by rw [ByteArray.toList_eq]; simpa using hn')

end Go.Proofs.YtoifjjgakblhhaaGreatDoor

/- split: a text's sign and digits. -/
namespace Go.Proofs.YtoifjjgakblhhaaGreatDoor
open Go.RowKit

/-- The library's own variable MaxLen holds some number. -/
def Gd (w : World) : Prop := ∃ m, w.cell? ⟨0, 0, none⟩ = some (.int .i64 m)
theorem Gd.below {w w' : World} (h : Gd w) (k : Below w.heap.size w w') : Gd w' := by
  obtain ⟨m, hm⟩ := h
  exact ⟨m, (k.cell (p := ⟨0, 0, none⟩) (World.block_lt_of_cell? w _ hm)).trans hm⟩
theorem Gd.alloc {w : World} (h : Gd w) (o : Obj) : Gd (w.alloc o) := h.below ((Below.refl _ _).alloc (Nat.le_refl _) _)

theorem cutAt (r X Y : ByteArray) (b : Bool) (w : World) (hG : Gd w) (hs : r.size < 4294967281) (HX : Hid (X = bs (Lib.cut r.data.toList [46]).1)) (HY : Hid (Y = bs (Lib.cut r.data.toList [46]).2.1)) (HB : Hid (b = (Lib.cut r.data.toList [46]).2.2)) :
    Calls Tryz.prog 166 #[.string r, .string ⟨#[46]⟩] w fun e w' => e = .returned (.tuple #[.string X, .string Y, .bool b]) ∧ Below w.heap.size w w' := by
  obtain ⟨m, hm⟩ := hG
  refine (Tryz.strings_Cut r ⟨#[46]⟩ m w hs hm).mono ?_
  rintro e w' ⟨rfl, n, rfl⟩
  exact ⟨by rw [HX.out, HY.out, HB.out], below_drewN (Below.refl _ _) n⟩

theorem isDigitsB (s : ByteArray) (d : Bool) (w : World) (hs : s.size ≤ maxLen) (H : Hid (d = digs s.data.toList)) :
    Calls Tryz.prog 167 #[.string s] w fun e w' => e = .returned (.bool d) ∧ w = w' :=
  (isDigitsAt s w hs).mono fun _ _ ⟨h, k⟩ => ⟨by rw [h, H.out], k.symm⟩
theorem prefB (s p : ByteArray) (d : Bool) (w : World) (H : Hid (d = Lib.hasPrefix s.data.toList p.data.toList)) :
    Calls Tryz.prog 165 #[.string s, .string p] w fun e w' => e = .returned (.bool d) ∧ w = w' :=
  (Tryz.strings_HasPrefix s p w).mono fun _ _ ⟨h, k⟩ => ⟨by rw [h, H.out], k.symm⟩

set_option maxHeartbeats 800000 in
theorem splitNegA (s r X Y : ByteArray) (dX dY b : Bool) (w : World) (hG : Gd w) (hs : s.size < 4294967281) (hX : X.size ≤ maxLen) (hY : Y.size ≤ maxLen) (h1 : 1 ≤ s.size)
    (P1 : Hid (true = Lib.hasPrefix s.data.toList (ByteArray.mk #[45]).data.toList)) (hr : r = s.extract 1 s.size)
    (HX : Hid (X = bs (Lib.cut r.data.toList [46]).1)) (HY : Hid (Y = bs (Lib.cut r.data.toList [46]).2.1)) (HB : Hid (b = (Lib.cut r.data.toList [46]).2.2))
    (DX : Hid (dX = digs X.data.toList)) (DY : Hid (dY = digs Y.data.toList)) (hok : dX = true ∧ b = false) :
    Calls Tryz.prog 147 #[.string s] w fun e w' => e = .returned (.tuple #[.bool true, .string X, .string Y, .bool true]) ∧ Below w.heap.size w w' := by
  subst hr
  obtain ⟨rfl, rfl⟩ := hok
  go_enter Tryz.func147, Tryz.ntmps147
  go_wp2_with (first
    | (go_at_call 165; (with_reducible refine (prefB _ _ _ _ P1).mono ?_); rintro e w' ⟨rfl, rfl⟩)
    | (go_at_call 166; (with_reducible refine (cutAt _ X Y _ _ hG ?_ HX HY HB).mono ?_); (simp; omega); rintro e w1 ⟨rfl, hb⟩)
    | (go_at_call 166; (with_reducible refine (cutAt _ X Y _ _ hG hs HX HY HB).mono ?_); rintro e w1 ⟨rfl, hb⟩)
    | (go_at_call 167; (with_reducible refine (isDigitsB X _ _ hX DX).mono ?_); rintro e w' ⟨rfl, rfl⟩)
    | (go_at_call 167; (with_reducible refine (isDigitsB Y _ _ hY DY).mono ?_); rintro e w' ⟨rfl, rfl⟩))
  exact bodyPost_ret (v := .tuple #[.bool true, .string X, .string Y, .bool true]) (by simp [results, Tryz.results147, go_sem]) rfl ⟨rfl, hb⟩

set_option maxHeartbeats 800000 in
theorem splitNegB (s r X Y : ByteArray) (dX dY b : Bool) (w : World) (hG : Gd w) (hs : s.size < 4294967281) (hX : X.size ≤ maxLen) (hY : Y.size ≤ maxLen) (h1 : 1 ≤ s.size)
    (P1 : Hid (true = Lib.hasPrefix s.data.toList (ByteArray.mk #[45]).data.toList)) (hr : r = s.extract 1 s.size)
    (HX : Hid (X = bs (Lib.cut r.data.toList [46]).1)) (HY : Hid (Y = bs (Lib.cut r.data.toList [46]).2.1)) (HB : Hid (b = (Lib.cut r.data.toList [46]).2.2))
    (DX : Hid (dX = digs X.data.toList)) (DY : Hid (dY = digs Y.data.toList)) (hok : dX = true ∧ b = true ∧ dY = true) :
    Calls Tryz.prog 147 #[.string s] w fun e w' => e = .returned (.tuple #[.bool true, .string X, .string Y, .bool true]) ∧ Below w.heap.size w w' := by
  subst hr
  obtain ⟨rfl, rfl, rfl⟩ := hok
  go_enter Tryz.func147, Tryz.ntmps147
  go_wp2_with (first
    | (go_at_call 165; (with_reducible refine (prefB _ _ _ _ P1).mono ?_); rintro e w' ⟨rfl, rfl⟩)
    | (go_at_call 166; (with_reducible refine (cutAt _ X Y _ _ hG ?_ HX HY HB).mono ?_); (simp; omega); rintro e w1 ⟨rfl, hb⟩)
    | (go_at_call 166; (with_reducible refine (cutAt _ X Y _ _ hG hs HX HY HB).mono ?_); rintro e w1 ⟨rfl, hb⟩)
    | (go_at_call 167; (with_reducible refine (isDigitsB X _ _ hX DX).mono ?_); rintro e w' ⟨rfl, rfl⟩)
    | (go_at_call 167; (with_reducible refine (isDigitsB Y _ _ hY DY).mono ?_); rintro e w' ⟨rfl, rfl⟩))
  exact bodyPost_ret (v := .tuple #[.bool true, .string X, .string Y, .bool true]) (by simp [results, Tryz.results147, go_sem]) rfl ⟨rfl, hb⟩

set_option maxHeartbeats 800000 in
theorem splitNegC (s r X Y : ByteArray) (dX dY b : Bool) (w : World) (hG : Gd w) (hs : s.size < 4294967281) (hX : X.size ≤ maxLen) (hY : Y.size ≤ maxLen) (h1 : 1 ≤ s.size)
    (P1 : Hid (true = Lib.hasPrefix s.data.toList (ByteArray.mk #[45]).data.toList)) (hr : r = s.extract 1 s.size)
    (HX : Hid (X = bs (Lib.cut r.data.toList [46]).1)) (HY : Hid (Y = bs (Lib.cut r.data.toList [46]).2.1)) (HB : Hid (b = (Lib.cut r.data.toList [46]).2.2))
    (DX : Hid (dX = digs X.data.toList)) (DY : Hid (dY = digs Y.data.toList)) (hok : dX = false) :
    Calls Tryz.prog 147 #[.string s] w fun e w' => e = .returned (.tuple #[.bool false, .string ⟨#[]⟩, .string ⟨#[]⟩, .bool false]) ∧ Below w.heap.size w w' := by
  subst hr
  obtain rfl := hok
  go_enter Tryz.func147, Tryz.ntmps147
  go_wp2_with (first
    | (go_at_call 165; (with_reducible refine (prefB _ _ _ _ P1).mono ?_); rintro e w' ⟨rfl, rfl⟩)
    | (go_at_call 166; (with_reducible refine (cutAt _ X Y _ _ hG ?_ HX HY HB).mono ?_); (simp; omega); rintro e w1 ⟨rfl, hb⟩)
    | (go_at_call 166; (with_reducible refine (cutAt _ X Y _ _ hG hs HX HY HB).mono ?_); rintro e w1 ⟨rfl, hb⟩)
    | (go_at_call 167; (with_reducible refine (isDigitsB X _ _ hX DX).mono ?_); rintro e w' ⟨rfl, rfl⟩)
    | (go_at_call 167; (with_reducible refine (isDigitsB Y _ _ hY DY).mono ?_); rintro e w' ⟨rfl, rfl⟩))
  exact bodyPost_ret (v := .tuple #[.bool false, .string ⟨#[]⟩, .string ⟨#[]⟩, .bool false]) (by simp [results, Tryz.results147, go_sem]) rfl ⟨rfl, hb⟩

set_option maxHeartbeats 800000 in
theorem splitNegD (s r X Y : ByteArray) (dX dY b : Bool) (w : World) (hG : Gd w) (hs : s.size < 4294967281) (hX : X.size ≤ maxLen) (hY : Y.size ≤ maxLen) (h1 : 1 ≤ s.size)
    (P1 : Hid (true = Lib.hasPrefix s.data.toList (ByteArray.mk #[45]).data.toList)) (hr : r = s.extract 1 s.size)
    (HX : Hid (X = bs (Lib.cut r.data.toList [46]).1)) (HY : Hid (Y = bs (Lib.cut r.data.toList [46]).2.1)) (HB : Hid (b = (Lib.cut r.data.toList [46]).2.2))
    (DX : Hid (dX = digs X.data.toList)) (DY : Hid (dY = digs Y.data.toList)) (hok : dX = true ∧ b = true ∧ dY = false) :
    Calls Tryz.prog 147 #[.string s] w fun e w' => e = .returned (.tuple #[.bool false, .string ⟨#[]⟩, .string ⟨#[]⟩, .bool false]) ∧ Below w.heap.size w w' := by
  subst hr
  obtain ⟨rfl, rfl, rfl⟩ := hok
  go_enter Tryz.func147, Tryz.ntmps147
  go_wp2_with (first
    | (go_at_call 165; (with_reducible refine (prefB _ _ _ _ P1).mono ?_); rintro e w' ⟨rfl, rfl⟩)
    | (go_at_call 166; (with_reducible refine (cutAt _ X Y _ _ hG ?_ HX HY HB).mono ?_); (simp; omega); rintro e w1 ⟨rfl, hb⟩)
    | (go_at_call 166; (with_reducible refine (cutAt _ X Y _ _ hG hs HX HY HB).mono ?_); rintro e w1 ⟨rfl, hb⟩)
    | (go_at_call 167; (with_reducible refine (isDigitsB X _ _ hX DX).mono ?_); rintro e w' ⟨rfl, rfl⟩)
    | (go_at_call 167; (with_reducible refine (isDigitsB Y _ _ hY DY).mono ?_); rintro e w' ⟨rfl, rfl⟩))
  exact bodyPost_ret (v := .tuple #[.bool false, .string ⟨#[]⟩, .string ⟨#[]⟩, .bool false]) (by simp [results, Tryz.results147, go_sem]) rfl ⟨rfl, hb⟩

set_option maxHeartbeats 800000 in
theorem splitPlusA (s r X Y : ByteArray) (dX dY b : Bool) (w : World) (hG : Gd w) (hs : s.size < 4294967281) (hX : X.size ≤ maxLen) (hY : Y.size ≤ maxLen) (h1 : 1 ≤ s.size)
    (P1 : Hid (false = Lib.hasPrefix s.data.toList (ByteArray.mk #[45]).data.toList)) (P2 : Hid (true = Lib.hasPrefix s.data.toList (ByteArray.mk #[43]).data.toList)) (hr : r = s.extract 1 s.size)
    (HX : Hid (X = bs (Lib.cut r.data.toList [46]).1)) (HY : Hid (Y = bs (Lib.cut r.data.toList [46]).2.1)) (HB : Hid (b = (Lib.cut r.data.toList [46]).2.2))
    (DX : Hid (dX = digs X.data.toList)) (DY : Hid (dY = digs Y.data.toList)) (hok : dX = true ∧ b = false) :
    Calls Tryz.prog 147 #[.string s] w fun e w' => e = .returned (.tuple #[.bool false, .string X, .string Y, .bool true]) ∧ Below w.heap.size w w' := by
  subst hr
  obtain ⟨rfl, rfl⟩ := hok
  go_enter Tryz.func147, Tryz.ntmps147
  go_wp2_with (first
    | (go_at_call 165; (with_reducible refine (prefB _ _ _ _ P1).mono ?_); rintro e w' ⟨rfl, rfl⟩)
    | (go_at_call 165; (with_reducible refine (prefB _ _ _ _ P2).mono ?_); rintro e w' ⟨rfl, rfl⟩)
    | (go_at_call 166; (with_reducible refine (cutAt _ X Y _ _ hG ?_ HX HY HB).mono ?_); (simp; omega); rintro e w1 ⟨rfl, hb⟩)
    | (go_at_call 166; (with_reducible refine (cutAt _ X Y _ _ hG hs HX HY HB).mono ?_); rintro e w1 ⟨rfl, hb⟩)
    | (go_at_call 167; (with_reducible refine (isDigitsB X _ _ hX DX).mono ?_); rintro e w' ⟨rfl, rfl⟩)
    | (go_at_call 167; (with_reducible refine (isDigitsB Y _ _ hY DY).mono ?_); rintro e w' ⟨rfl, rfl⟩))
  exact bodyPost_ret (v := .tuple #[.bool false, .string X, .string Y, .bool true]) (by simp [results, Tryz.results147, go_sem]) rfl ⟨rfl, hb⟩

set_option maxHeartbeats 800000 in
theorem splitPlusB (s r X Y : ByteArray) (dX dY b : Bool) (w : World) (hG : Gd w) (hs : s.size < 4294967281) (hX : X.size ≤ maxLen) (hY : Y.size ≤ maxLen) (h1 : 1 ≤ s.size)
    (P1 : Hid (false = Lib.hasPrefix s.data.toList (ByteArray.mk #[45]).data.toList)) (P2 : Hid (true = Lib.hasPrefix s.data.toList (ByteArray.mk #[43]).data.toList)) (hr : r = s.extract 1 s.size)
    (HX : Hid (X = bs (Lib.cut r.data.toList [46]).1)) (HY : Hid (Y = bs (Lib.cut r.data.toList [46]).2.1)) (HB : Hid (b = (Lib.cut r.data.toList [46]).2.2))
    (DX : Hid (dX = digs X.data.toList)) (DY : Hid (dY = digs Y.data.toList)) (hok : dX = true ∧ b = true ∧ dY = true) :
    Calls Tryz.prog 147 #[.string s] w fun e w' => e = .returned (.tuple #[.bool false, .string X, .string Y, .bool true]) ∧ Below w.heap.size w w' := by
  subst hr
  obtain ⟨rfl, rfl, rfl⟩ := hok
  go_enter Tryz.func147, Tryz.ntmps147
  go_wp2_with (first
    | (go_at_call 165; (with_reducible refine (prefB _ _ _ _ P1).mono ?_); rintro e w' ⟨rfl, rfl⟩)
    | (go_at_call 165; (with_reducible refine (prefB _ _ _ _ P2).mono ?_); rintro e w' ⟨rfl, rfl⟩)
    | (go_at_call 166; (with_reducible refine (cutAt _ X Y _ _ hG ?_ HX HY HB).mono ?_); (simp; omega); rintro e w1 ⟨rfl, hb⟩)
    | (go_at_call 166; (with_reducible refine (cutAt _ X Y _ _ hG hs HX HY HB).mono ?_); rintro e w1 ⟨rfl, hb⟩)
    | (go_at_call 167; (with_reducible refine (isDigitsB X _ _ hX DX).mono ?_); rintro e w' ⟨rfl, rfl⟩)
    | (go_at_call 167; (with_reducible refine (isDigitsB Y _ _ hY DY).mono ?_); rintro e w' ⟨rfl, rfl⟩))
  exact bodyPost_ret (v := .tuple #[.bool false, .string X, .string Y, .bool true]) (by simp [results, Tryz.results147, go_sem]) rfl ⟨rfl, hb⟩

set_option maxHeartbeats 800000 in
theorem splitPlusC (s r X Y : ByteArray) (dX dY b : Bool) (w : World) (hG : Gd w) (hs : s.size < 4294967281) (hX : X.size ≤ maxLen) (hY : Y.size ≤ maxLen) (h1 : 1 ≤ s.size)
    (P1 : Hid (false = Lib.hasPrefix s.data.toList (ByteArray.mk #[45]).data.toList)) (P2 : Hid (true = Lib.hasPrefix s.data.toList (ByteArray.mk #[43]).data.toList)) (hr : r = s.extract 1 s.size)
    (HX : Hid (X = bs (Lib.cut r.data.toList [46]).1)) (HY : Hid (Y = bs (Lib.cut r.data.toList [46]).2.1)) (HB : Hid (b = (Lib.cut r.data.toList [46]).2.2))
    (DX : Hid (dX = digs X.data.toList)) (DY : Hid (dY = digs Y.data.toList)) (hok : dX = false) :
    Calls Tryz.prog 147 #[.string s] w fun e w' => e = .returned (.tuple #[.bool false, .string ⟨#[]⟩, .string ⟨#[]⟩, .bool false]) ∧ Below w.heap.size w w' := by
  subst hr
  obtain rfl := hok
  go_enter Tryz.func147, Tryz.ntmps147
  go_wp2_with (first
    | (go_at_call 165; (with_reducible refine (prefB _ _ _ _ P1).mono ?_); rintro e w' ⟨rfl, rfl⟩)
    | (go_at_call 165; (with_reducible refine (prefB _ _ _ _ P2).mono ?_); rintro e w' ⟨rfl, rfl⟩)
    | (go_at_call 166; (with_reducible refine (cutAt _ X Y _ _ hG ?_ HX HY HB).mono ?_); (simp; omega); rintro e w1 ⟨rfl, hb⟩)
    | (go_at_call 166; (with_reducible refine (cutAt _ X Y _ _ hG hs HX HY HB).mono ?_); rintro e w1 ⟨rfl, hb⟩)
    | (go_at_call 167; (with_reducible refine (isDigitsB X _ _ hX DX).mono ?_); rintro e w' ⟨rfl, rfl⟩)
    | (go_at_call 167; (with_reducible refine (isDigitsB Y _ _ hY DY).mono ?_); rintro e w' ⟨rfl, rfl⟩))
  exact bodyPost_ret (v := .tuple #[.bool false, .string ⟨#[]⟩, .string ⟨#[]⟩, .bool false]) (by simp [results, Tryz.results147, go_sem]) rfl ⟨rfl, hb⟩

set_option maxHeartbeats 800000 in
theorem splitPlusD (s r X Y : ByteArray) (dX dY b : Bool) (w : World) (hG : Gd w) (hs : s.size < 4294967281) (hX : X.size ≤ maxLen) (hY : Y.size ≤ maxLen) (h1 : 1 ≤ s.size)
    (P1 : Hid (false = Lib.hasPrefix s.data.toList (ByteArray.mk #[45]).data.toList)) (P2 : Hid (true = Lib.hasPrefix s.data.toList (ByteArray.mk #[43]).data.toList)) (hr : r = s.extract 1 s.size)
    (HX : Hid (X = bs (Lib.cut r.data.toList [46]).1)) (HY : Hid (Y = bs (Lib.cut r.data.toList [46]).2.1)) (HB : Hid (b = (Lib.cut r.data.toList [46]).2.2))
    (DX : Hid (dX = digs X.data.toList)) (DY : Hid (dY = digs Y.data.toList)) (hok : dX = true ∧ b = true ∧ dY = false) :
    Calls Tryz.prog 147 #[.string s] w fun e w' => e = .returned (.tuple #[.bool false, .string ⟨#[]⟩, .string ⟨#[]⟩, .bool false]) ∧ Below w.heap.size w w' := by
  subst hr
  obtain ⟨rfl, rfl, rfl⟩ := hok
  go_enter Tryz.func147, Tryz.ntmps147
  go_wp2_with (first
    | (go_at_call 165; (with_reducible refine (prefB _ _ _ _ P1).mono ?_); rintro e w' ⟨rfl, rfl⟩)
    | (go_at_call 165; (with_reducible refine (prefB _ _ _ _ P2).mono ?_); rintro e w' ⟨rfl, rfl⟩)
    | (go_at_call 166; (with_reducible refine (cutAt _ X Y _ _ hG ?_ HX HY HB).mono ?_); (simp; omega); rintro e w1 ⟨rfl, hb⟩)
    | (go_at_call 166; (with_reducible refine (cutAt _ X Y _ _ hG hs HX HY HB).mono ?_); rintro e w1 ⟨rfl, hb⟩)
    | (go_at_call 167; (with_reducible refine (isDigitsB X _ _ hX DX).mono ?_); rintro e w' ⟨rfl, rfl⟩)
    | (go_at_call 167; (with_reducible refine (isDigitsB Y _ _ hY DY).mono ?_); rintro e w' ⟨rfl, rfl⟩))
  exact bodyPost_ret (v := .tuple #[.bool false, .string ⟨#[]⟩, .string ⟨#[]⟩, .bool false]) (by simp [results, Tryz.results147, go_sem]) rfl ⟨rfl, hb⟩

set_option maxHeartbeats 800000 in
theorem splitNoneA (s r X Y : ByteArray) (dX dY b : Bool) (w : World) (hG : Gd w) (hs : s.size < 4294967281) (hX : X.size ≤ maxLen) (hY : Y.size ≤ maxLen) 
    (P1 : Hid (false = Lib.hasPrefix s.data.toList (ByteArray.mk #[45]).data.toList)) (P2 : Hid (false = Lib.hasPrefix s.data.toList (ByteArray.mk #[43]).data.toList)) (hr : r = s)
    (HX : Hid (X = bs (Lib.cut r.data.toList [46]).1)) (HY : Hid (Y = bs (Lib.cut r.data.toList [46]).2.1)) (HB : Hid (b = (Lib.cut r.data.toList [46]).2.2))
    (DX : Hid (dX = digs X.data.toList)) (DY : Hid (dY = digs Y.data.toList)) (hok : dX = true ∧ b = false) :
    Calls Tryz.prog 147 #[.string s] w fun e w' => e = .returned (.tuple #[.bool false, .string X, .string Y, .bool true]) ∧ Below w.heap.size w w' := by
  subst hr
  obtain ⟨rfl, rfl⟩ := hok
  go_enter Tryz.func147, Tryz.ntmps147
  go_wp2_with (first
    | (go_at_call 165; (with_reducible refine (prefB _ _ _ _ P1).mono ?_); rintro e w' ⟨rfl, rfl⟩)
    | (go_at_call 165; (with_reducible refine (prefB _ _ _ _ P2).mono ?_); rintro e w' ⟨rfl, rfl⟩)
    | (go_at_call 166; (with_reducible refine (cutAt _ X Y _ _ hG ?_ HX HY HB).mono ?_); (simp; omega); rintro e w1 ⟨rfl, hb⟩)
    | (go_at_call 166; (with_reducible refine (cutAt _ X Y _ _ hG hs HX HY HB).mono ?_); rintro e w1 ⟨rfl, hb⟩)
    | (go_at_call 167; (with_reducible refine (isDigitsB X _ _ hX DX).mono ?_); rintro e w' ⟨rfl, rfl⟩)
    | (go_at_call 167; (with_reducible refine (isDigitsB Y _ _ hY DY).mono ?_); rintro e w' ⟨rfl, rfl⟩))
  exact bodyPost_ret (v := .tuple #[.bool false, .string X, .string Y, .bool true]) (by simp [results, Tryz.results147, go_sem]) rfl ⟨rfl, hb⟩

set_option maxHeartbeats 800000 in
theorem splitNoneB (s r X Y : ByteArray) (dX dY b : Bool) (w : World) (hG : Gd w) (hs : s.size < 4294967281) (hX : X.size ≤ maxLen) (hY : Y.size ≤ maxLen) 
    (P1 : Hid (false = Lib.hasPrefix s.data.toList (ByteArray.mk #[45]).data.toList)) (P2 : Hid (false = Lib.hasPrefix s.data.toList (ByteArray.mk #[43]).data.toList)) (hr : r = s)
    (HX : Hid (X = bs (Lib.cut r.data.toList [46]).1)) (HY : Hid (Y = bs (Lib.cut r.data.toList [46]).2.1)) (HB : Hid (b = (Lib.cut r.data.toList [46]).2.2))
    (DX : Hid (dX = digs X.data.toList)) (DY : Hid (dY = digs Y.data.toList)) (hok : dX = true ∧ b = true ∧ dY = true) :
    Calls Tryz.prog 147 #[.string s] w fun e w' => e = .returned (.tuple #[.bool false, .string X, .string Y, .bool true]) ∧ Below w.heap.size w w' := by
  subst hr
  obtain ⟨rfl, rfl, rfl⟩ := hok
  go_enter Tryz.func147, Tryz.ntmps147
  go_wp2_with (first
    | (go_at_call 165; (with_reducible refine (prefB _ _ _ _ P1).mono ?_); rintro e w' ⟨rfl, rfl⟩)
    | (go_at_call 165; (with_reducible refine (prefB _ _ _ _ P2).mono ?_); rintro e w' ⟨rfl, rfl⟩)
    | (go_at_call 166; (with_reducible refine (cutAt _ X Y _ _ hG ?_ HX HY HB).mono ?_); (simp; omega); rintro e w1 ⟨rfl, hb⟩)
    | (go_at_call 166; (with_reducible refine (cutAt _ X Y _ _ hG hs HX HY HB).mono ?_); rintro e w1 ⟨rfl, hb⟩)
    | (go_at_call 167; (with_reducible refine (isDigitsB X _ _ hX DX).mono ?_); rintro e w' ⟨rfl, rfl⟩)
    | (go_at_call 167; (with_reducible refine (isDigitsB Y _ _ hY DY).mono ?_); rintro e w' ⟨rfl, rfl⟩))
  exact bodyPost_ret (v := .tuple #[.bool false, .string X, .string Y, .bool true]) (by simp [results, Tryz.results147, go_sem]) rfl ⟨rfl, hb⟩

set_option maxHeartbeats 800000 in
theorem splitNoneC (s r X Y : ByteArray) (dX dY b : Bool) (w : World) (hG : Gd w) (hs : s.size < 4294967281) (hX : X.size ≤ maxLen) (hY : Y.size ≤ maxLen) 
    (P1 : Hid (false = Lib.hasPrefix s.data.toList (ByteArray.mk #[45]).data.toList)) (P2 : Hid (false = Lib.hasPrefix s.data.toList (ByteArray.mk #[43]).data.toList)) (hr : r = s)
    (HX : Hid (X = bs (Lib.cut r.data.toList [46]).1)) (HY : Hid (Y = bs (Lib.cut r.data.toList [46]).2.1)) (HB : Hid (b = (Lib.cut r.data.toList [46]).2.2))
    (DX : Hid (dX = digs X.data.toList)) (DY : Hid (dY = digs Y.data.toList)) (hok : dX = false) :
    Calls Tryz.prog 147 #[.string s] w fun e w' => e = .returned (.tuple #[.bool false, .string ⟨#[]⟩, .string ⟨#[]⟩, .bool false]) ∧ Below w.heap.size w w' := by
  subst hr
  obtain rfl := hok
  go_enter Tryz.func147, Tryz.ntmps147
  go_wp2_with (first
    | (go_at_call 165; (with_reducible refine (prefB _ _ _ _ P1).mono ?_); rintro e w' ⟨rfl, rfl⟩)
    | (go_at_call 165; (with_reducible refine (prefB _ _ _ _ P2).mono ?_); rintro e w' ⟨rfl, rfl⟩)
    | (go_at_call 166; (with_reducible refine (cutAt _ X Y _ _ hG ?_ HX HY HB).mono ?_); (simp; omega); rintro e w1 ⟨rfl, hb⟩)
    | (go_at_call 166; (with_reducible refine (cutAt _ X Y _ _ hG hs HX HY HB).mono ?_); rintro e w1 ⟨rfl, hb⟩)
    | (go_at_call 167; (with_reducible refine (isDigitsB X _ _ hX DX).mono ?_); rintro e w' ⟨rfl, rfl⟩)
    | (go_at_call 167; (with_reducible refine (isDigitsB Y _ _ hY DY).mono ?_); rintro e w' ⟨rfl, rfl⟩))
  exact bodyPost_ret (v := .tuple #[.bool false, .string ⟨#[]⟩, .string ⟨#[]⟩, .bool false]) (by simp [results, Tryz.results147, go_sem]) rfl ⟨rfl, hb⟩

set_option maxHeartbeats 800000 in
theorem splitNoneD (s r X Y : ByteArray) (dX dY b : Bool) (w : World) (hG : Gd w) (hs : s.size < 4294967281) (hX : X.size ≤ maxLen) (hY : Y.size ≤ maxLen) 
    (P1 : Hid (false = Lib.hasPrefix s.data.toList (ByteArray.mk #[45]).data.toList)) (P2 : Hid (false = Lib.hasPrefix s.data.toList (ByteArray.mk #[43]).data.toList)) (hr : r = s)
    (HX : Hid (X = bs (Lib.cut r.data.toList [46]).1)) (HY : Hid (Y = bs (Lib.cut r.data.toList [46]).2.1)) (HB : Hid (b = (Lib.cut r.data.toList [46]).2.2))
    (DX : Hid (dX = digs X.data.toList)) (DY : Hid (dY = digs Y.data.toList)) (hok : dX = true ∧ b = true ∧ dY = false) :
    Calls Tryz.prog 147 #[.string s] w fun e w' => e = .returned (.tuple #[.bool false, .string ⟨#[]⟩, .string ⟨#[]⟩, .bool false]) ∧ Below w.heap.size w w' := by
  subst hr
  obtain ⟨rfl, rfl, rfl⟩ := hok
  go_enter Tryz.func147, Tryz.ntmps147
  go_wp2_with (first
    | (go_at_call 165; (with_reducible refine (prefB _ _ _ _ P1).mono ?_); rintro e w' ⟨rfl, rfl⟩)
    | (go_at_call 165; (with_reducible refine (prefB _ _ _ _ P2).mono ?_); rintro e w' ⟨rfl, rfl⟩)
    | (go_at_call 166; (with_reducible refine (cutAt _ X Y _ _ hG ?_ HX HY HB).mono ?_); (simp; omega); rintro e w1 ⟨rfl, hb⟩)
    | (go_at_call 166; (with_reducible refine (cutAt _ X Y _ _ hG hs HX HY HB).mono ?_); rintro e w1 ⟨rfl, hb⟩)
    | (go_at_call 167; (with_reducible refine (isDigitsB X _ _ hX DX).mono ?_); rintro e w' ⟨rfl, rfl⟩)
    | (go_at_call 167; (with_reducible refine (isDigitsB Y _ _ hY DY).mono ?_); rintro e w' ⟨rfl, rfl⟩))
  exact bodyPost_ret (v := .tuple #[.bool false, .string ⟨#[]⟩, .string ⟨#[]⟩, .bool false]) (by simp [results, Tryz.results147, go_sem]) rfl ⟨rfl, hb⟩

end Go.Proofs.YtoifjjgakblhhaaGreatDoor
