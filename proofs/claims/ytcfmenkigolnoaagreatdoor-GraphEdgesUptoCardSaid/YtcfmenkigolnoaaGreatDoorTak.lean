/- Texts of one kind, one behind the other: each says ahead of itself what it shows. -/
import Derived.Shelf.Small.Strs
import Derived.Shelf.SlSortCmp.NoneTotal
import Derived.Test.YtcfmenkigolnoaaGreatDoorTaj
import Derived.Test.YtcfmenkigolnoaaGreatDoorTah
/- Pairs sorted by their keys. -/
namespace Go.Proofs.YtcfmenkigolnoaaGreatDoor
open Go.RowKit

def Tryz.lays106_ren : Go.Shelf.Ren := ⟨fun | 106 => 93 | 213 => 114 | 265 => 139 | n => n, fun | n => n, fun | n => n⟩
theorem Tryz.lays106 : Go.Proofs.Lays.n106 Tryz.prog Tryz.lays106_ren := {
  mixed := by kernel_rfl
  f106 := Tryz.func93.trans (congrArg some (by kernel_rfl))
  f213 := Tryz.func114.trans (congrArg some (by kernel_rfl))
  f265 := Tryz.func139.trans (congrArg some (by kernel_rfl))
  t3 := Tryz.underlying3
  a3 := Tryz.isAgg3
  z3 := Tryz.sizeOf3
  v3 := Tryz.zeroValue3
  t9 := Tryz.underlying9
  a9 := Tryz.isAgg9
  z9 := Tryz.sizeOf9
  v9 := Tryz.zeroValue9 }

theorem strCmpAt (a b : ByteArray) (w : World) : Calls Tryz.prog 93 #[.string a, .string b] w fun e w' => e = .returned (.int .i64 (Lib.compareBytes (bl a) (bl b))) ∧ w' = w :=
  Any.strings_Compare Tryz.lays106 a b w
theorem compareBytes_lt : (l m : List UInt8) → (Lib.compareBytes l m < 0 ↔ l < m)
  | [], [] => by simp [Lib.compareBytes]
  | [], _ :: _ => by simp [Lib.compareBytes]
  | _ :: _, [] => by simp [Lib.compareBytes]
  | a :: x, b :: y => by
    unfold Lib.compareBytes
    rw [List.cons_lt_cons_iff]
    have ih := compareBytes_lt x y
    by_cases h : a < b
    · simp [h]
    · by_cases g : b < a
      · have e : a ≠ b := by
          intro e
          subst e
          exact h g
        simp [h, g, e]
      · have e : a = b := by
          rw [UInt8.lt_iff_toNat_lt] at h g
          exact UInt8.toNat_inj.1 (by omega)
        subst e
        simpa [h] using ih
set_option maxHeartbeats 1600000 in
set_option maxRecDepth 20000 in
theorem cmpKeysAt (x y : List Value) (kx ky : ByteArray) (w : World) (hx : x[0]? = some (.string kx)) (hy : y[0]? = some (.string ky)) :
    Calls Tryz.prog 104 #[.agg x.toArray, .agg y.toArray] w fun e w' => e = .returned (.int .i64 (Lib.compareBytes (bl kx) (bl ky))) ∧ w' = (w.alloc (.cells x.toArray 70)).alloc (.cells y.toArray 70) := by
  have c0 : ((w.alloc (.cells x.toArray 70)).alloc (.cells y.toArray 70)).cell? ⟨w.heap.size, 0, none⟩ = some (.string kx) := cell_of (heap_old _ (heap_new _ _ rfl)) 0 (by simpa using hx)
  have c1 : ((w.alloc (.cells x.toArray 70)).alloc (.cells y.toArray 70)).cell? ⟨w.heap.size + 1, 0, none⟩ = some (.string ky) := cell_of (heap_new _ _ (by simp)) 0 (by simpa using hy)
  obtain ⟨r, hr⟩ : ∃ r, r = Lib.compareBytes (bl kx) (bl ky) := ⟨_, rfl⟩
  have HC := Lib.hid (fun W => strCmpAt kx ky W)
  rw [← hr] at HC ⊢
  clear hx hy hr
  go_enter Tryz.func104, Tryz.ntmps104
  go_wp2_with (first
    | (go_at_call 93; (with_reducible refine (HC.out _).mono ?_); rintro e w1 ⟨rfl, rfl⟩))
  go_ret
  exact ⟨rfl, rfl⟩
theorem row_putK {w : World} {base g cap q n k : Nat} {e : TypeId} {cur : Array Value} {os : Array Obj} (F : List Value) (hF : F.length = n * k) (hbase : base ≤ g) (hb : w.heap[g]? = some (.cells cur e (0, 0))) (h1 : n ≤ cap) (h2 : cap ≤ maxLen) (h3 : cur.size = cap * k) :
    (Go.Sort.grow (Go.Sort.putRow id (Go.Sort.ahead w q) g 0 F.toArray) os).ownsRow base e k (.slice (some ⟨g, 0, none⟩) n cap) n F ∧ w.grownBy (Go.Sort.grow (Go.Sort.putRow id (Go.Sort.ahead w q) g 0 F.toArray) os) (some g) := by
  have hg : g < w.heap.size := lt_of_heap hb
  have hle : n * k ≤ cap * k := Nat.mul_le_mul_right _ h1
  refine ⟨⟨hF, .inr ⟨g, cap, Go.Sort.putCells id 0 F.toArray cur, rfl, hbase, ?_, h1, h2, by simp [Go.Sort.putCells, h3], ?_⟩⟩, ⟨rfl, rfl, rfl, by simp, fun i hi hne => ?_⟩⟩
  · rw [Go.Sort.heap_grow_old _ _ (by simpa using hg)]
    simp [Go.Sort.putRow, Go.Sort.mapBlock, Go.Sort.ahead, Array.getElem?_modify, hb, Go.Sort.onCells]
  · apply List.ext_getElem?
    intro j
    by_cases hj : j < n * k
    · rw [List.getElem?_take_of_lt hj, Array.getElem?_toList]
      simp [Go.Sort.putCells, show j < cur.size by omega, show j < F.length by omega]
    · rw [List.getElem?_take_eq_none (by omega), List.getElem?_eq_none (by omega)]
  · have : g ≠ i := fun e => hne (by rw [e])
    rw [Go.Sort.heap_grow_old _ _ (by simpa using hi)]
    simp [Go.Sort.putRow, Go.Sort.mapBlock, Go.Sort.ahead, Array.getElem?_modify, this]
theorem flatMap_getK {α : Type} [Inhabited α] (enc : α → List Value) (k : Nat) (hk : ∀ x, (enc x).length = k) : (l : List α) → (t : Nat) → t < l.length * k → (l.flatMap enc)[t]? = some ((enc l[t / k]!)[t % k]!)
  | [], t, h => by simp at h
  | x :: l, t, h => by
    have k0 : 0 < k := by
      rcases Nat.eq_zero_or_pos k with e | e
      · subst e; simp at h
      · exact e
    rw [List.flatMap_cons]
    by_cases q : t < k
    · rw [List.getElem?_append_left (by rw [hk]; exact q), Nat.div_eq_of_lt q, Nat.mod_eq_of_lt q]
      have : t < (enc x).length := by rw [hk]; exact q
      show (enc x)[t]? = some ((enc x)[t]!)
      rw [List.getElem?_eq_getElem this, getElem!_pos _ t this]
    · have h2 : t - k < l.length * k := by
        simp only [List.length_cons, Nat.add_mul] at h
        omega
      rw [List.getElem?_append_right (by rw [hk]; omega), hk, flatMap_getK enc k hk l (t - k) h2]
      have e1 : t / k = (t - k) / k + 1 := Nat.div_eq_sub_div k0 (by omega)
      have e2 : t % k = (t - k) % k := Nat.mod_eq_sub_mod (by omega)
      rw [e1, e2]
      simp
theorem flatMap_lenK {α : Type} (enc : α → List Value) (k : Nat) (hk : ∀ x, (enc x).length = k) : (l : List α) → (l.flatMap enc).length = l.length * k
  | [] => by simp
  | x :: l => by rw [List.flatMap_cons, List.length_append, hk, flatMap_lenK enc k hk l, List.length_cons, Nat.add_mul]; omega
theorem flatK_eq {α : Type} [Inhabited α] (enc : α → List Value) (k : Nat) (hk : ∀ x, (enc x).length = k) (d : Array α) : Go.Sort.flatK enc k d = (d.toList.flatMap enc).toArray := by
  have hl := flatMap_lenK enc k hk d.toList
  apply Array.ext_getElem?
  intro t
  by_cases h : t < d.size * k
  · have h' : t < (Go.Sort.flatK enc k d).size := by simpa using h
    rw [Array.getElem?_eq_getElem h', ← getElem!_pos _ t h', Go.Sort.get_flatK _ _ _ _ h, List.getElem?_toArray, flatMap_getK enc k hk d.toList t (by simpa using h)]
    have hq : t / k < d.size := Nat.div_lt_of_lt_mul (by rw [Nat.mul_comm]; exact h)
    rw [getElem!_pos d.toList _ (by simpa using hq), getElem!_pos d _ hq]
    simp
  · rw [Array.getElem?_eq_none (by simpa using h), List.getElem?_toArray, List.getElem?_eq_none (by rw [hl]; simpa using h)]
section
variable {w : World} {P : Nat → Prop}
/-- A pair with its cells. -/
abbrev PC (w : World) (P : Nat → Prop) := { x : List Value × PairL // pairE.rel w P x.1 x.2 }
def PC.enc (x : PC w P) : List Value := x.1.1
def PC.cf (x y : PC w P) : Int := Lib.compareBytes (bl x.1.2.key) (bl y.1.2.key)
theorem PC.len7 (x : PC w P) : x.enc.length = 7 := pairE.len x.2
theorem PC.one (x : PC w P) : ∀ v ∈ x.enc, v.oneCell' = true := pairE.one x.2
theorem PC.lt (x y : PC w P) : ltOf PC.cf x y = true ↔ bl x.1.2.key < bl y.1.2.key := by
  rw [show ltOf PC.cf x y = decide (PC.cf x y < 0) from rfl, decide_eq_true_eq]
  exact compareBytes_lt _ _
theorem PC.nlt (x y : PC w P) : ltOf PC.cf x y = false ↔ bl y.1.2.key ≤ bl x.1.2.key := by
  rw [← Bool.not_eq_true, PC.lt]
  exact List.not_lt
theorem swoP : Go.Sort.SWO (ltOf (PC.cf (w := w) (P := P))) where
  irrefl x := (PC.nlt x x).2 (List.le_refl _)
  trans x y z h1 h2 := (PC.lt x z).2 (List.lt_trans ((PC.lt x y).1 h1) ((PC.lt y z).1 h2))
  ntrans x y z h1 h2 := (PC.nlt x z).2 (List.le_trans ((PC.nlt y z).1 h2) ((PC.nlt x y).1 h1))
theorem PC.of_row : {xs : List Value} → (l : List PairL) → RowE pairE w P xs l → ∃ d : List (PC w P), xs = d.flatMap PC.enc ∧ d.map (fun x => x.1.2) = l
  | _, [], h => by
    unfold RowE at h
    subst h
    exact ⟨[], rfl, rfl⟩
  | _, a :: l, h => by
    unfold RowE at h
    obtain ⟨c, ys, rfl, hc, hr⟩ := h
    obtain ⟨d, rfl, rfl⟩ := PC.of_row l hr
    exact ⟨⟨(c, a), hc⟩ :: d, rfl, rfl⟩
theorem PC.row : (d : List (PC w P)) → RowE pairE w P (d.flatMap PC.enc) (d.map (fun x => x.1.2))
  | [] => RowE.nil
  | x :: d => by
    rw [List.flatMap_cons, List.map_cons]
    exact RowE.append [x.1.2] _ (RowE.single x.2) (PC.row d)
end
theorem sortPairsAt (V : Value) (ps : List PairL) (xs : List Value) (base : Nat) (P : Nat → Prop) (w : World) (h : w.ownsRow base 70 7 V ps.length xs) (hr : RowE pairE w P xs ps) (hP : ∀ g, P g → g < w.heap.size ∧ V.ownBlock ≠ some g) (hn : ps.length ≤ 2097152) :
    Calls Tryz.prog 103 #[V, .func (.func 104) #[] #[]] w fun e w' => e = .returned (.tuple #[]) ∧ ∃ xs' ps', ps'.Perm ps ∧ ps'.Pairwise (fun a b => leT a.key b.key = true) ∧ w'.ownsRow base 70 7 V ps.length xs' ∧ RowE pairE w' P xs' ps' ∧ w.grownBy w' V.ownBlock := by
  have empty : ∀ (p : Option Addr) (cap : Nat), Calls Tryz.prog 103 #[.slice p 0 cap, .func (.func 104) #[] #[]] w fun e w' => e = .returned (.tuple #[]) ∧ w' = w := fun p cap => AnyF.slices_SortFunc_none Tryz.sortV p cap _ w
  by_cases h0 : ps = []
  · subst h0
    obtain ⟨p, cap, rfl⟩ := own_slice h
    refine (empty p cap).mono ?_
    rintro e w' ⟨rfl, rfl⟩
    exact ⟨rfl, xs, [], List.Perm.refl _, List.Pairwise.nil, h, hr, grown_refl _ _⟩
  · rcases h.2 with ⟨rfl, hz⟩ | ⟨g, cap, cur, rfl, hb, hg, h1, h2, h3, h4⟩
    · exact absurd (List.length_eq_zero_iff.1 hz) h0
    · obtain ⟨d, rfl, hd⟩ := PC.of_row ps hr
      have hdl : d.length = ps.length := by rw [← hd, List.length_map]
      obtain ⟨x0, d0, rfl⟩ : ∃ x0 d0, d = x0 :: d0 := by
        cases d with
        | nil => exact absurd (by rw [← hd]; rfl) h0
        | cons x d => exact ⟨x, d, rfl⟩
      have _inst : Inhabited (PC w P) := ⟨x0⟩
      obtain ⟨d, hdd⟩ : ∃ d, d = x0 :: d0 := ⟨_, rfl⟩
      rw [← hdd] at h h4 hd hdl hr
      clear hdd
      have hH : Go.Sort.HoldsK (PC.enc (w := w) (P := P)) 7 w g 0 d.toArray := by
        unfold Go.Sort.HoldsK
        rw [flatK_eq PC.enc 7 PC.len7]
        intro t ht
        have ht2 : t < (d.flatMap PC.enc).length := by simpa using ht
        refine ⟨?_, h.frozenAt _⟩
        rw [Nat.zero_add, h.cellAt t (by rw [← h.1]; exact ht2)]
        simp [List.getElem?_eq_getElem ht2]
      have cmp : CmpLays Tryz.prog 104 #[] (PC.enc (w := w) (P := P)) 7 PC.cf g 0 d.toArray.size w := fun m os dk hs x y => by
        obtain ⟨⟨x, px⟩, c1, hx1, hx2, hx3⟩ := x
        obtain ⟨⟨y, py⟩, c2, hy1, hy2, hy3⟩ := y
        simp only at hx1 hy1 hx3 hy3
        subst hx1 hy1
        refine (cmpKeysAt (.string px.key :: c1) (.string py.key :: c2) px.key py.key _ rfl rfl).mono ?_
        rintro e w' ⟨rfl, rfl⟩
        exact ⟨rfl, 0, #[.cells (Value.string px.key :: c1).toArray 70, .cells (Value.string py.key :: c2).toArray 70], by rw [Go.Sort.alloc_eq_grow, Go.Sort.alloc_eq_grow, Go.Sort.grow_grow]; rfl⟩
      have eg : ∀ args w, (callFunc 104 args).run Tryz.prog w = .ok (.enter 104 args) w := enters_of Tryz.func104 (by kernel_rfl) rfl
      have c := AnyQ.slices_SortFunc Tryz.sortV 7 Tryz.isAgg70 Tryz.sizeOf70 PC.enc PC.len7 PC.one PC.cf swoP 104 #[] g 0 cap d.toArray w eg cmp hH (lt_of_heap hg) (by simp; omega)
      simp only [List.size_toArray, hdl] at c
      refine c.mono ?_
      rintro e w' ⟨rfl, d', n, os, hp, hs, rfl⟩
      have hd's : d'.size = d.length := by simpa using hp.1
      have hperm : d'.toList.Perm d := by
        have := hp.2.2
        rw [← hdl] at this
        have e1 : d'.extract 0 d.length = d' := by rw [← hd's]; exact Array.extract_size
        have e2 : d.toArray.extract 0 d.length = d.toArray := by
          simp
        rw [e1, e2] at this
        exact this
      obtain ⟨r1, r2⟩ := row_putK (q := n) (os := os) (n := ps.length) (k := 7) (d'.toList.flatMap PC.enc) (by rw [flatMap_lenK PC.enc 7 PC.len7]; simp [hd's, hdl]) hb hg h1 h2 h3
      have ew : sortWorldK PC.enc 7 w g 0 n d' os = Go.Sort.grow (Go.Sort.putRow id (Go.Sort.ahead w n) g 0 (d'.toList.flatMap PC.enc).toArray) os := by
        unfold sortWorldK Go.Sort.putRowK
        rw [flatK_eq PC.enc 7 PC.len7]
      rw [ew]
      refine ⟨rfl, _, d'.toList.map (fun x => x.1.2), ?_, ?_, r1, (PC.row d'.toList).stays (fun i hi => ⟨hi, r2.block i (hP i hi).1 (fun e => (hP i hi).2 e.symm)⟩) _, r2⟩
      · rw [← hd]
        exact hperm.map _
      · rw [List.pairwise_map, List.pairwise_iff_getElem]
        intro i j hi hj hij
        have hj' : j < ps.length := by rw [← hdl, ← hd's]; simpa using hj
        have := hs i j (Nat.zero_le _) hij hj'
        rw [PC.nlt] at this
        rw [getElem!_pos d' i (by simpa using hi), getElem!_pos d' j (by simpa using hj)] at this
        simpa [leT, leB] using this
end Go.Proofs.YtcfmenkigolnoaaGreatDoor

/- plainNode, plainEdge: labels and keys in their order. -/
namespace Go.Proofs.YtcfmenkigolnoaaGreatDoor
open Go.RowKit

/-- Properties by their keys. -/
def PlainP (ps ps' : List PairL) : Prop := ps'.Perm ps ∧ ps'.Pairwise (fun x y => leT x.key y.key = true)
/-- A node, an edge, in its plain form. -/
def PlainN (a a' : NodeL) : Prop := a'.id = a.id ∧ a'.labels = sortS a.labels ∧ PlainP a.props a'.props
def PlainE (a a' : EdgeL) : Prop := a'.id = a.id ∧ a'.src = a.src ∧ a'.dst = a.dst ∧ a'.type = a.type ∧ PlainP a.props a'.props
theorem own_grown {w w' : World} {base size n : Nat} {e : TypeId} {v : Value} {xs : List Value} {r : Option Nat} (h : w.ownsRow base e size v n xs) (g : w.grownBy w' r) (hr : ∀ b, v.ownBlock = some b → r ≠ some b) : w'.ownsRow base e size v n xs :=
  own_keep h fun b e => g.block b (h.lt b e).2 (fun q => hr b e q.symm)
theorem own_only {w w' : World} {base size n b : Nat} {e : TypeId} {v : Value} {xs : List Value} (h : w.ownsRow base e size v n xs) (g : Only b w w') (hb : b < base) : w'.ownsRow base e size v n xs :=
  own_keep h fun i q => g.block i (h.lt i q).2 (by have := (h.lt i q).1; omega)
theorem texts_slice {w : World} {P : Nat → Prop} {base : Nat} {V : Value} {ls : List ByteArray} (h : w.ownsRow base 9 1 V ls.length (ls.map Value.string)) (ht : ∀ t ∈ ls, t.size ≤ 2097152) (hP : ∀ g, V.ownBlock = some g → P g) : SliceE textE w P V ls := by
  have hr : ∀ l : List ByteArray, (∀ t ∈ l, t.size ≤ 2097152) → RowE textE w P (l.map Value.string) l := by
    intro l
    induction l with
    | nil => exact fun _ => RowE.nil
    | cons t l ih => exact fun h => RowE.append [t] l (RowE.single (E := textE) (c := [.string t]) ⟨rfl, h t (by simp)⟩) (ih fun u hu => h u (by simp [hu]))
  exact sliceE_of_own h (hr ls ht) (fun g hg => hg) hP
set_option maxHeartbeats 6400000 in
set_option maxRecDepth 20000 in
theorem plainNodeStep (id : Int) (ls : List ByteArray) (ps : List PairL) (p1 p2 : Option Addr) (c1 c2 : Nat) (w : World) (hn1 : ls.length ≤ 2097152) (hn2 : ps.length ≤ 2097152) (hl : SliceE textE w (Old w) (.slice p1 ls.length c1) ls) (hp : SliceE pairE w (Old w) (.slice p2 ps.length c2) ps) :
    Calls Tryz.prog 78 #[.agg #[.int .i64 id, .slice p1 ls.length c1, .slice p2 ps.length c2]] w fun e w' => ∃ V U ps', e = .returned (.agg #[.int .i64 id, V, U]) ∧ PlainP ps ps' ∧ SliceE textE w' (New w w') V (sortS ls) ∧ SliceE pairE w' (New w w') U ps' ∧ Below w.heap.size w w' := by
  obtain ⟨w1, hw1⟩ : ∃ w1, w1 = (w.alloc (.cells #[.int .i64 id, .slice p1 ls.length c1, .slice p2 ps.length c2] 38)).alloc (.cells #[.int .i64 0, .slice none 0 0, .slice none 0 0] 38) := ⟨_, rfl⟩
  have u1 : w1.heap[w.heap.size]? = some (.cells #[.int .i64 id, .slice p1 ls.length c1, .slice p2 ps.length c2] 38 (0, 0)) := by rw [hw1]; exact heap_old _ (heap_new _ _ rfl)
  have u2 : w1.heap[w.heap.size + 1]? = some (.cells #[.int .i64 0, .slice none 0 0, .slice none 0 0] 38 (0, 0)) := by rw [hw1]; exact heap_new _ _ (by simp)
  have bw : Below w.heap.size w w1 := by rw [hw1]; exact below2 _ _ _
  have z1 : w1.heap.size = w.heap.size + 2 := by rw [hw1]; simp
  have HO : Hid (∀ W, Below w.heap.size w W → Calls Tryz.prog 47 #[.agg #[.int .i64 id, .slice p1 ls.length c1, .slice p2 ps.length c2]] W fun e w' => ∃ V U, e = .returned (.agg #[.int .i64 id, V, U]) ∧ OwnT W.heap.size w' V ls ∧ OwnP W.heap.size V w' U ps ∧ Below W.heap.size W w') := Lib.hid fun W hb => ownNodeStep id ls ps p1 p2 c1 c2 W hn1 hn2 (hl.stays (old_below hb)) (hp.stays (old_below hb))
  have HW := Lib.hid hw1
  clear hw1 hp hl
  go_enter Tryz.func78, Tryz.ntmps78
  go_upto_region 1 with fail
  rw [← HW.out]
  go_upto_region 2 with (first
    | ((with_reducible refine wpList_loadRowE (.tmp 1) w.heap.size 38 38 [.int .i64 id, .slice p1 ls.length c1, .slice p2 ps.length c2] 3 _ u1 rfl Tryz.underlying38 rfl size_nodeE ?_ ?_ ?_ ?_); rfl; rfl; rfl)
    | (go_at_call 47; (with_reducible refine (HO.out _ bw).mono ?_); rintro e w2 ⟨V, U, rfl, hV, hU, hb2⟩
       replace u1 := (hb2.block _ (lt_of_heap u1)).trans u1
       replace u2 := (hb2.block _ (lt_of_heap u2)).trans u2
       replace bw := below_any bw hb2 bw.size
       obtain ⟨pV, cV, rfl⟩ := own_slice hV.1
       obtain ⟨lo, xs, h1, h2, h3, h4⟩ := hU
       obtain ⟨pU, cU, rfl⟩ := own_slice h3
       clear hb2)
    | ((with_reducible refine wpList_storeE (.tmp 1) (.tmp 4) w.heap.size 38 38 _ [.int .i64 id, .slice pV ls.length cV, .slice pU ps.length cU] 3 u1 rfl ?_ ?_ ?_ ?_ size_nodeE rfl (by simp [Value.oneCell']) ?_); rfl; rfl; rfl; rfl; intro w3 o3 v1))
  replace u2 := (o3.block (w.heap.size + 1) (lt_of_heap u2) (by omega)).trans u2
  have b3 := below_only bw o3 (Nat.le_refl _) bw.size
  have q3 := own_only h3 o3 (by omega)
  have r3 : RowE pairE w3 (fun g => lo ≤ g ∧ g < w3.heap.size ∧ (Value.slice pU ps.length cU).ownBlock ≠ some g) xs ps := h4.stays fun g hg => ⟨⟨hg.1, Nat.lt_of_lt_of_le hg.2.1 o3.size, hg.2.2⟩, o3.block g hg.2.1 (by have := hg.1; omega)⟩
  have t3 := own_only hV.1 o3 (by omega)
  have hVt := hV.2
  clear hV h3 h4 u1 o3 bw
  have c0 := cell_of v1 1 rfl
  have HS := Lib.hid (fun W h => sortStrsAt (.slice pV ls.length cV) ls (w1.heap.size + 2) W h hn1)
  go_upto_region 3 with (first
    | (go_at_call 90; (with_reducible refine (HS.out _ t3).mono ?_); rintro e w4 ⟨rfl, t4, g4⟩))
  have hne : ∀ b, (Value.slice pU ps.length cU).ownBlock = some b → (Value.slice pV ls.length cV).ownBlock ≠ some b := fun b e q => by
    have := (q3.lt b e).1
    have := h2 b q
    omega
  have hN : (Value.slice pV ls.length cV).ownBlock ≠ some w.heap.size := fun q => by
    have := (t3.lt _ q).1
    omega
  have hN1 : (Value.slice pV ls.length cV).ownBlock ≠ some (w.heap.size + 1) := fun q => by
    have := (t3.lt _ q).1
    omega
  have v4 := (g4.block _ (lt_of_heap v1) (fun q => hN q.symm)).trans v1
  replace u2 := (g4.block _ (lt_of_heap u2) (fun q => hN1 q.symm)).trans u2
  have q4 := own_grown q3 g4 hne
  have r4 : RowE pairE w4 (fun g => lo ≤ g ∧ g < w4.heap.size ∧ (Value.slice pU ps.length cU).ownBlock ≠ some g) xs ps := r3.stays fun g hg => ⟨⟨hg.1, Nat.lt_of_lt_of_le hg.2.1 g4.size, hg.2.2⟩, g4.block g hg.2.1 (fun q => by have := h2 g q.symm; have := hg.1; omega)⟩
  have b4 : Below w.heap.size w w4 := b3.grown g4 b3.size (fun j e => by have := (t3.lt j e).1; omega)
  clear c0 t3 g4 v1 r3 q3 b3
  have c0 := cell_of v4 2 rfl
  have HP := Lib.hid (fun W h r => sortPairsAt (.slice pU ps.length cU) ps xs lo (fun g => lo ≤ g ∧ g < W.heap.size ∧ (Value.slice pU ps.length cU).ownBlock ≠ some g) W h r (fun g hg => ⟨hg.2.1, hg.2.2⟩) hn2)
  go_upto_region 4 with (first
    | (go_at_call 103; (with_reducible refine (HP.out _ q4 r4).mono ?_); rintro e w5 ⟨rfl, xs', ps', hperm, hsort, q5, r5, g5⟩))
  have hU0 : (Value.slice pU ps.length cU).ownBlock ≠ some w.heap.size := fun q => by
    have := (q4.lt _ q).1
    omega
  have hU1 : (Value.slice pU ps.length cU).ownBlock ≠ some (w.heap.size + 1) := fun q => by
    have := (q4.lt _ q).1
    omega
  have v5 := (g5.block _ (lt_of_heap v4) (fun q => hU0 q.symm)).trans v4
  replace u2 := (g5.block _ (lt_of_heap u2) (fun q => hU1 q.symm)).trans u2
  have b5 : Below w.heap.size w w5 := b4.grown g5 b4.size (fun j e => by have := (q4.lt j e).1; omega)
  have s5 := g5.size
  have t5 := own_grown t4 g5 (fun b e q => hne b q e)
  clear c0 v4
  go_wp2_with (first
    | ((with_reducible refine wpList_loadRowE (.tmp 1) w.heap.size 38 38 [.int .i64 id, .slice pV ls.length cV, .slice pU ps.length cU] 3 _ v5 rfl Tryz.underlying38 rfl size_nodeE ?_ ?_ ?_ ?_); rfl; rfl; rfl)
    | ((with_reducible refine wpList_storeE (.tmp 2) (.tmp 11) (w.heap.size + 1) 38 38 _ [.int .i64 id, .slice pV ls.length cV, .slice pU ps.length cU] 3 u2 rfl ?_ ?_ ?_ ?_ size_nodeE rfl (by simp [Value.oneCell']) ?_); rfl; rfl; rfl; rfl; intro w6 o6 u6))
  have b6 := below_only b5 o6 (Nat.le_succ _) b5.size
  have hl5 : ps.length = ps'.length := hperm.length_eq.symm
  have q6 := own_only q5 o6 (by omega)
  rw [hl5] at q6
  have sp : SliceE pairE w6 (New w w6) (.slice pU ps.length cU) ps' := by
    rw [hl5]
    exact sliceE_of_own q6 (r5.stays (P' := New w w6) fun g hg => ⟨⟨by have := hg.1; omega, by have := o6.size; have := hg.2.1; omega⟩, o6.block g (by have := hg.2.1; omega) (by have := hg.1; omega)⟩) (fun g hg => hg) (fun g e => ⟨by have := (q6.lt g e).1; omega, (q6.lt g e).2⟩)
  have t6 := own_only t5 o6 (by omega)
  have st : SliceE textE w6 (New w w6) (.slice pV ls.length cV) (sortS ls) := by
    rw [← sortS_len] at t6 ⊢
    exact texts_slice t6 (fun t ht => hVt t ((sortS_mem ls t).1 ht)) (fun g e => ⟨by have := (t6.lt g e).1; omega, (t6.lt g e).2⟩)
  exact bodyPost_ret (results_cell_row (p := 2) (ty := 38) Tryz.results78 _ _ (w.heap.size + 1) 38 _ (0, 0) _ rfl u6 Tryz.underlying38 rfl size_nodeE) rfl ⟨_, _, ps', rfl, ⟨hperm, hsort⟩, st, sp, b6⟩
theorem plainNodeAt (a : NodeL) (W : World) (c : List Value) (h : nodeE.rel W (Old W) c a) : Calls Tryz.prog 78 #[.agg c.toArray] W fun e w' => ∃ a', PlainN a a' ∧ ∃ c', e = .returned (.agg c'.toArray) ∧ nodeE.rel w' (New W w') c' a' ∧ Below W.heap.size W w' := by
  obtain ⟨id, ls, ps⟩ := a
  obtain ⟨lv, pv, rfl, hid, hn1, hn2, hl, hp⟩ := h
  obtain ⟨p1, c1, rfl⟩ := hl.slice
  obtain ⟨p2, c2, rfl⟩ := hp.slice
  refine (plainNodeStep id ls ps p1 p2 c1 c2 W hn1 hn2 hl hp).mono ?_
  rintro e w' ⟨V, U, ps', rfl, hpl, hV, hU, hb⟩
  exact ⟨⟨id, sortS ls, ps'⟩, ⟨rfl, rfl, hpl⟩, [.int .i64 id, V, U], rfl, ⟨V, U, rfl, hid, by simpa [sortS_len] using hn1, by rw [show (NodeL.mk id (sortS ls) ps').props.length = ps.length from hpl.1.length_eq]; exact hn2, hV, hU⟩, hb⟩
set_option maxHeartbeats 6400000 in
set_option maxRecDepth 20000 in
theorem plainEdgeStep (id src dst : Int) (ty : ByteArray) (ps : List PairL) (p2 : Option Addr) (c2 : Nat) (w : World) (hn1 : ty.size ≤ 2097152) (hn2 : ps.length ≤ 2097152) (hp : SliceE pairE w (Old w) (.slice p2 ps.length c2) ps) :
    Calls Tryz.prog 81 #[.agg #[.int .i64 id, .int .i64 src, .int .i64 dst, .string ty, .slice p2 ps.length c2]] w fun e w' => ∃ U ps', e = .returned (.agg #[.int .i64 id, .int .i64 src, .int .i64 dst, .string ty, U]) ∧ PlainP ps ps' ∧ SliceE pairE w' (New w w') U ps' ∧ Below w.heap.size w w' := by
  obtain ⟨w1, hw1⟩ : ∃ w1, w1 = (w.alloc (.cells #[.int .i64 id, .int .i64 src, .int .i64 dst, .string ty, .slice p2 ps.length c2] 41)).alloc (.cells #[.int .i64 0, .int .i64 0, .int .i64 0, .string ⟨#[]⟩, .slice none 0 0] 41) := ⟨_, rfl⟩
  have u1 : w1.heap[w.heap.size]? = some (.cells #[.int .i64 id, .int .i64 src, .int .i64 dst, .string ty, .slice p2 ps.length c2] 41 (0, 0)) := by rw [hw1]; exact heap_old _ (heap_new _ _ rfl)
  have u2 : w1.heap[w.heap.size + 1]? = some (.cells #[.int .i64 0, .int .i64 0, .int .i64 0, .string ⟨#[]⟩, .slice none 0 0] 41 (0, 0)) := by rw [hw1]; exact heap_new _ _ (by simp)
  have bw : Below w.heap.size w w1 := by rw [hw1]; exact below2 _ _ _
  have z1 : w1.heap.size = w.heap.size + 2 := by rw [hw1]; simp
  have HO : Hid (∀ W, Below w.heap.size w W → Calls Tryz.prog 50 #[.agg #[.int .i64 id, .int .i64 src, .int .i64 dst, .string ty, .slice p2 ps.length c2]] W fun e w' => ∃ U, e = .returned (.agg #[.int .i64 id, .int .i64 src, .int .i64 dst, .string ty, U]) ∧ OwnP W.heap.size (.slice none 0 0) w' U ps ∧ Below W.heap.size W w') := Lib.hid fun W hb => ownEdgeStep id src dst ty ps p2 c2 W hn1 hn2 (hp.stays (old_below hb))
  have HW := Lib.hid hw1
  clear hw1 hp
  go_enter Tryz.func81, Tryz.ntmps81
  go_upto_region 1 with fail
  rw [← HW.out]
  go_upto_region 2 with (first
    | ((with_reducible refine wpList_loadRowE (.tmp 1) w.heap.size 41 41 [.int .i64 id, .int .i64 src, .int .i64 dst, .string ty, .slice p2 ps.length c2] 5 _ u1 rfl Tryz.underlying41 rfl size_edgeE ?_ ?_ ?_ ?_); rfl; rfl; rfl)
    | (go_at_call 50; (with_reducible refine (HO.out _ bw).mono ?_); rintro e w2 ⟨U, rfl, hU, hb2⟩
       replace u1 := (hb2.block _ (lt_of_heap u1)).trans u1
       replace u2 := (hb2.block _ (lt_of_heap u2)).trans u2
       replace bw := below_any bw hb2 bw.size
       obtain ⟨lo, xs, h1, h2, h3, h4⟩ := hU
       obtain ⟨pU, cU, rfl⟩ := own_slice h3
       clear hb2)
    | ((with_reducible refine wpList_storeE (.tmp 1) (.tmp 4) w.heap.size 41 41 _ [.int .i64 id, .int .i64 src, .int .i64 dst, .string ty, .slice pU ps.length cU] 5 u1 rfl ?_ ?_ ?_ ?_ size_edgeE rfl (by simp [Value.oneCell']) ?_); rfl; rfl; rfl; rfl; intro w3 o3 v1))
  replace u2 := (o3.block (w.heap.size + 1) (lt_of_heap u2) (by omega)).trans u2
  have b3 := below_only bw o3 (Nat.le_refl _) bw.size
  have q3 := own_only h3 o3 (by omega)
  have r3 : RowE pairE w3 (fun g => lo ≤ g ∧ g < w3.heap.size ∧ (Value.slice pU ps.length cU).ownBlock ≠ some g) xs ps := h4.stays fun g hg => ⟨⟨hg.1, Nat.lt_of_lt_of_le hg.2.1 o3.size, hg.2.2⟩, o3.block g hg.2.1 (by have := hg.1; omega)⟩
  clear h3 h4 u1 o3 bw
  have v4 := v1
  have q4 := q3
  have r4 := r3
  have b4 := b3
  clear v1 q3 r3 b3
  have c0 := cell_of v4 4 rfl
  have HP := Lib.hid (fun W h r => sortPairsAt (.slice pU ps.length cU) ps xs lo (fun g => lo ≤ g ∧ g < W.heap.size ∧ (Value.slice pU ps.length cU).ownBlock ≠ some g) W h r (fun g hg => ⟨hg.2.1, hg.2.2⟩) hn2)
  go_upto_region 3 with (first
    | (go_at_call 103; (with_reducible refine (HP.out _ q4 r4).mono ?_); rintro e w5 ⟨rfl, xs', ps', hperm, hsort, q5, r5, g5⟩))
  have hU0 : (Value.slice pU ps.length cU).ownBlock ≠ some w.heap.size := fun q => by
    have := (q4.lt _ q).1
    omega
  have hU1 : (Value.slice pU ps.length cU).ownBlock ≠ some (w.heap.size + 1) := fun q => by
    have := (q4.lt _ q).1
    omega
  have v5 := (g5.block _ (lt_of_heap v4) (fun q => hU0 q.symm)).trans v4
  replace u2 := (g5.block _ (lt_of_heap u2) (fun q => hU1 q.symm)).trans u2
  have b5 : Below w.heap.size w w5 := b4.grown g5 b4.size (fun j e => by have := (q4.lt j e).1; omega)
  have s5 := g5.size
  clear c0 v4
  go_wp2_with (first
    | ((with_reducible refine wpList_loadRowE (.tmp 1) w.heap.size 41 41 [.int .i64 id, .int .i64 src, .int .i64 dst, .string ty, .slice pU ps.length cU] 5 _ v5 rfl Tryz.underlying41 rfl size_edgeE ?_ ?_ ?_ ?_); rfl; rfl; rfl)
    | ((with_reducible refine wpList_storeE (.tmp 2) (.tmp 8) (w.heap.size + 1) 41 41 _ [.int .i64 id, .int .i64 src, .int .i64 dst, .string ty, .slice pU ps.length cU] 5 u2 rfl ?_ ?_ ?_ ?_ size_edgeE rfl (by simp [Value.oneCell']) ?_); rfl; rfl; rfl; rfl; intro w6 o6 u6))
  have b6 := below_only b5 o6 (Nat.le_succ _) b5.size
  have hl5 : ps.length = ps'.length := hperm.length_eq.symm
  have q6 := own_only q5 o6 (by omega)
  rw [hl5] at q6
  have sp : SliceE pairE w6 (New w w6) (.slice pU ps.length cU) ps' := by
    rw [hl5]
    exact sliceE_of_own q6 (r5.stays (P' := New w w6) fun g hg => ⟨⟨by have := hg.1; omega, by have := o6.size; have := hg.2.1; omega⟩, o6.block g (by have := hg.2.1; omega) (by have := hg.1; omega)⟩) (fun g hg => hg) (fun g e => ⟨by have := (q6.lt g e).1; omega, (q6.lt g e).2⟩)
  exact bodyPost_ret (results_cell_row (p := 2) (ty := 41) Tryz.results81 _ _ (w.heap.size + 1) 41 _ (0, 0) _ rfl u6 Tryz.underlying41 rfl size_edgeE) rfl ⟨_, ps', rfl, ⟨hperm, hsort⟩, sp, b6⟩
theorem plainEdgeAt (a : EdgeL) (W : World) (c : List Value) (h : edgeE.rel W (Old W) c a) : Calls Tryz.prog 81 #[.agg c.toArray] W fun e w' => ∃ a', PlainE a a' ∧ ∃ c', e = .returned (.agg c'.toArray) ∧ edgeE.rel w' (New W w') c' a' ∧ Below W.heap.size W w' := by
  obtain ⟨id, src, dst, ty, ps⟩ := a
  obtain ⟨pv, rfl, hid, hn1, hn2, hp⟩ := h
  obtain ⟨p2, c2, rfl⟩ := hp.slice
  refine (plainEdgeStep id src dst ty ps p2 c2 W hn1 hn2 hp).mono ?_
  rintro e w' ⟨U, ps', rfl, hpl, hU, hb⟩
  exact ⟨⟨id, src, dst, ty, ps'⟩, ⟨rfl, rfl, rfl, rfl, hpl⟩, [.int .i64 id, .int .i64 src, .int .i64 dst, .string ty, U], rfl, ⟨U, rfl, hid, hn1, by rw [show (EdgeL.mk id src dst ty ps').props.length = ps.length from hpl.1.length_eq]; exact hn2, hU⟩, hb⟩
end Go.Proofs.YtcfmenkigolnoaaGreatDoor

/- Which labels, keys, properties may be. -/
namespace Go.Proofs.YtcfmenkigolnoaaGreatDoor
open Go.RowKit

/-- May a text be a label, a type, a key? -/
def wordP (s : ByteArray) : Bool := decide (s.size ≠ 0) && decide (s.size ≤ 1048576)
def wordsP (l : List ByteArray) : Bool := (decide (l.length ≤ 65536) && l.all wordP) && decide (l.map bl).Nodup
def plainK : Val → Bool
  | .mk k _ _ _ _ _ => decide (k = 1) || decide (k = 2) || decide (k = 3) || decide (k = 4)
/-- May a value be a property's? -/
def propV : Val → Bool
  | .mk k b n t x q => (plainK (.mk k b n t x q) || (decide (k = 5) && q.all plainK)) && mayP (.mk k b n t x q) 0
def propsP (ps : List PairL) : Bool := (decide (ps.length ≤ 65536) && wordsP (ps.map PairL.key)) && ps.all fun p => propV p.v
def nodeP (a : NodeL) : Bool := (decide (0 ≤ a.id) && wordsP a.labels) && propsP a.props
def edgeP (a : EdgeL) : Bool := (decide (0 ≤ a.id) && wordP a.type) && propsP a.props

set_option maxHeartbeats 1600000 in
set_option maxRecDepth 20000 in
theorem isWordAt (s : ByteArray) (w : World) (hs : s.size ≤ 2097152) : Calls Tryz.prog 102 #[.string s] w fun e w' => e = .returned (.bool (wordP s)) ∧ w' = w := by
  have hmax : s.size ≤ maxLen := by unfold maxLen; omega
  by_cases h0 : s.toList.isEmpty = true
  · have e : wordP s = false := by
      have := (empty_iff s).1 h0
      simp [wordP, this]
    rw [e]
    clear e
    go_enter Tryz.func102, Tryz.ntmps102
    go_wp2_with fail
    go_ret
    exact ⟨rfl, rfl⟩
  · have h1 : s.size ≠ 0 := fun q => h0 ((empty_iff s).2 q)
    replace h0 : s.toList.isEmpty = false := by simpa using h0
    by_cases h2 : s.size ≤ 1048576
    · have e : wordP s = true := by simp [wordP, h1, h2]
      rw [e]
      clear e
      go_enter Tryz.func102, Tryz.ntmps102
      go_wp2_with fail
      go_ret
      exact ⟨by simp [h2]; try omega, rfl⟩
    · have e : wordP s = false := by simp [wordP, h2]
      rw [e]
      clear e
      go_enter Tryz.func102, Tryz.ntmps102
      go_wp2_with fail
      go_ret
      exact ⟨by simp [h2]; try omega, rfl⟩
set_option maxHeartbeats 1600000 in
set_option maxRecDepth 20000 in
theorem isPlainAt (v : Val) (W : World) (c : List Value) (P : Nat → Prop) (h : valRel W P c v) : Calls Tryz.prog 148 #[.agg c.toArray] W fun e w' => e = .returned (.bool (plainK v)) ∧ Below W.heap.size W w' := by
  obtain ⟨k, b, n, t, x, q⟩ := v
  obtain ⟨L, rfl, hf, hq⟩ := h
  obtain ⟨p, cap, rfl⟩ := held_slice (HeldF.held q hq)
  have c0 : (W.alloc (.cells #[.int .i64 k, .bool b, .int .i64 n, .string t, .string x, .slice p q.length cap] 60)).cell? ⟨W.heap.size, 0, none⟩ = some (.int .i64 k) := cell_of (heap_new _ _ rfl) 0 rfl
  have b0 := below1 W (.cells #[.int .i64 k, .bool b, .int .i64 n, .string t, .string x, .slice p q.length cap] 60)
  clear hf hq
  unfold plainK
  by_cases h1 : k = 1
  · subst h1
    go_enter Tryz.func148, Tryz.ntmps148
    go_wp2_with fail
    go_ret
    exact ⟨rfl, b0⟩
  · by_cases h2 : k = 2
    · subst h2
      go_enter Tryz.func148, Tryz.ntmps148
      go_wp2_with fail
      go_ret
      exact ⟨rfl, b0⟩
    · by_cases h3 : k = 3
      · subst h3
        go_enter Tryz.func148, Tryz.ntmps148
        go_wp2_with fail
        go_ret
        exact ⟨rfl, b0⟩
      · by_cases h4 : k = 4
        · subst h4
          go_enter Tryz.func148, Tryz.ntmps148
          go_wp2_with fail
          go_ret
          exact ⟨rfl, b0⟩
        · simp only [h1, h2, h3, h4, decide_false, Bool.or_false]
          go_enter Tryz.func148, Tryz.ntmps148
          go_wp2_with fail
          go_ret
          exact ⟨rfl, b0⟩
set_option maxHeartbeats 3200000 in
set_option maxRecDepth 20000 in
theorem isPropAt (v : Val) (W : World) (c : List Value) (hG : Gd W) (h : valRel W (Old W) c v) : Calls Tryz.prog 122 #[.agg c.toArray] W fun e w' => e = .returned (.bool (propV v)) ∧ Below W.heap.size W w' := by
  obtain ⟨r1, hr1⟩ : ∃ r, r = plainK v := ⟨_, rfl⟩
  have hp : ∀ W', Below W.heap.size W W' → Calls Tryz.prog 148 #[.agg c.toArray] W' fun e w' => e = .returned (.bool r1) ∧ Below W'.heap.size W' w' := fun W' hb => by
    rw [hr1]
    exact isPlainAt v W' c (Old W') (valE.stays (old_below hb) h)
  obtain ⟨r3, hr3⟩ : ∃ r, r = mayP v 0 := ⟨_, rfl⟩
  have hch : ∀ W', Below W.heap.size W W' → Calls Tryz.prog 150 #[.agg c.toArray] W' fun e w' => e = .returned (.bool r3) ∧ Below W'.heap.size W' w' := fun W' hb => by
    obtain ⟨k, b, n, t, x, q⟩ := v
    have h' : valRel W' (Old W') c (.mk k b n t x q) := valE.stays (old_below hb) (show valE.rel W (Old W) c (.mk k b n t x q) from h)
    obtain ⟨L, rfl, hf, hq⟩ := h'
    rw [hr3]
    exact checkAtV _ k b n t x q L W' rfl (hG.below hb) hf.ht hf.hx (HeldF.held q hq)
  obtain ⟨k, b, n, t, x, q⟩ := v
  obtain ⟨r2, hr2⟩ : ∃ r, r = q.all plainK := ⟨_, rfl⟩
  have e : propV (.mk k b n t x q) = ((r1 || (decide (k = 5) && r2)) && r3) := by rw [hr1, hr2, hr3]; rfl
  rw [e]
  obtain ⟨L, rfl, hf, hq⟩ := h
  obtain ⟨p, cap, rfl⟩ := held_slice (HeldF.held q hq)
  have hal : ∀ W', Below W.heap.size W W' → Calls Tryz.prog 149 #[.slice p q.length cap, .func (.func 148) #[] #[]] W' fun e w' => e = .returned (.bool r2) ∧ Below W'.heap.size W' w' := fun W' hb => by
    rw [hr2]
    exact hold149 plainK q _ W' (sliceE_of_heldF q (HeldF.stays (old_below hb) q hq)) hf.hn fun u hu W2 c2 _ hc => isPlainAt u W2 c2 _ hc
  have S : Six (W.alloc (.cells #[.int .i64 k, .bool b, .int .i64 n, .string t, .string x, .slice p q.length cap] 60)) W.heap.size k b n t x p q.length cap := six_new _ rfl
  have b0 := below1 W (.cells #[.int .i64 k, .bool b, .int .i64 n, .string t, .string x, .slice p q.length cap] 60)
  have HP := Lib.hid hp
  have HC := Lib.hid hch
  have HA := Lib.hid hal
  clear hp hch hal hf hq hr1 hr2 hr3 e hG
  obtain ⟨W0, hW0⟩ : ∃ W0, W0 = W.alloc (.cells #[.int .i64 k, .bool b, .int .i64 n, .string t, .string x, .slice p q.length cap] 60) := ⟨_, rfl⟩
  rw [← hW0] at S b0
  have H0 := Lib.hid hW0
  clear hW0
  cases r1 with
  | true =>
    go_enter Tryz.func122, Tryz.ntmps122
    go_upto_region 1 with fail
    rw [← H0.out]
    go_wp2_with (first
      | ((with_reducible refine wpList_load6 (.tmp 1) W.heap.size S ?_ ?_ ?_ ?_); rfl; rfl; rfl)
      | (go_at_call 148; (with_reducible refine (HP.out _ b0).mono ?_); rintro e w1 ⟨rfl, hb1⟩; have S1 := S.below hb1; have b1 := below_any b0 hb1 b0.size; have c0 := S1.c0; have c5 := S1.c5; clear hb1)
      | ((with_reducible refine wpList_load6g (.tmp 1) W.heap.size S1 ?_ ?_ ?_ ?_); rfl; rfl; rfl)
      | (go_at_call 150; (with_reducible refine (HC.out _ b1).mono ?_); rintro e w9 ⟨rfl, hb9⟩))
    go_ret
    exact ⟨by simp, below_any b1 hb9 b1.size⟩
  | false =>
    by_cases h5 : k = 5
    · subst h5
      cases r2 with
      | true =>
        go_enter Tryz.func122, Tryz.ntmps122
        go_upto_region 1 with fail
        rw [← H0.out]
        go_wp2_with (first
          | ((with_reducible refine wpList_load6 (.tmp 1) W.heap.size S ?_ ?_ ?_ ?_); rfl; rfl; rfl)
          | (go_at_call 148; (with_reducible refine (HP.out _ b0).mono ?_); rintro e w1 ⟨rfl, hb1⟩; have S1 := S.below hb1; have b1 := below_any b0 hb1 b0.size; have c0 := S1.c0; have c5 := S1.c5; clear hb1)
          | (go_at_call 149; (with_reducible refine (HA.out _ b1).mono ?_); rintro e w2 ⟨rfl, hb2⟩; have S2 := S1.below hb2; have b2 := below_any b1 hb2 b1.size; clear hb2)
          | ((with_reducible refine wpList_load6g (.tmp 1) W.heap.size S2 ?_ ?_ ?_ ?_); rfl; rfl; rfl)
          | (go_at_call 150; (with_reducible refine (HC.out _ b2).mono ?_); rintro e w9 ⟨rfl, hb9⟩))
        go_ret
        exact ⟨by simp, below_any b2 hb9 b2.size⟩
      | false =>
        go_enter Tryz.func122, Tryz.ntmps122
        go_upto_region 1 with fail
        rw [← H0.out]
        go_wp2_with (first
          | ((with_reducible refine wpList_load6 (.tmp 1) W.heap.size S ?_ ?_ ?_ ?_); rfl; rfl; rfl)
          | (go_at_call 148; (with_reducible refine (HP.out _ b0).mono ?_); rintro e w1 ⟨rfl, hb1⟩; have S1 := S.below hb1; have b1 := below_any b0 hb1 b0.size; have c0 := S1.c0; have c5 := S1.c5; clear hb1)
          | (go_at_call 149; (with_reducible refine (HA.out _ b1).mono ?_); rintro e w2 ⟨rfl, hb2⟩; have S2 := S1.below hb2; have b2 := below_any b1 hb2 b1.size; clear hb2))
        go_ret
        exact ⟨by simp, b2⟩
    · have h5' : (k : Int) ≠ 5 := h5
      go_enter Tryz.func122, Tryz.ntmps122
      go_upto_region 1 with fail
      rw [← H0.out]
      go_wp2_with (first
        | ((with_reducible refine wpList_load6 (.tmp 1) W.heap.size S ?_ ?_ ?_ ?_); rfl; rfl; rfl)
        | (go_at_call 148; (with_reducible refine (HP.out _ b0).mono ?_); rintro e w1 ⟨rfl, hb1⟩; have S1 := S.below hb1; have b1 := below_any b0 hb1 b0.size; have c0 := S1.c0; have c5 := S1.c5; clear hb1))
      go_ret
      exact ⟨by simp [h5], b1⟩
theorem strs_of_slice {w : World} {P : Nat → Prop} {v : Value} {l : List ByteArray} (h : SliceE textE w P v l) : StrsAt w v l := by
  obtain ⟨p, cap, rfl, hh⟩ := id h
  refine ⟨p, cap, rfl, fun hne => ?_⟩
  obtain ⟨g, off, xs, rfl, _, _, _⟩ := hh hne
  refine ⟨g, off, rfl, fun j hj => ?_⟩
  obtain ⟨g', off', cap', c, e, _, hc, hr⟩ := h.at_ j hj
  injection e with e1
  injection e1 with e1
  injection e1 with e1 e2
  subst e1 e2
  obtain ⟨rfl, _⟩ := hc
  have := hr 0 _ rfl
  have e3 : l.getD j ByteArray.empty = l[j] := by simp [hj]
  rw [e3]
  simpa [textE] using this
set_option maxHeartbeats 3200000 in
set_option maxRecDepth 20000 in
theorem keyOfAt (a : PairL) (W : World) (c : List Value) (h : pairE.rel W (Old W) c a) : Calls Tryz.prog 119 #[.agg c.toArray] W (TellPost textE a.key W) := by
  obtain ⟨key, ⟨k, b, n, t, x, q⟩⟩ := a
  obtain ⟨c, rfl, hk, ⟨L, rfl, hf, hq⟩⟩ := h
  have c0 : (W.alloc (.cells #[.string key, .int .i64 k, .bool b, .int .i64 n, .string t, .string x, L] 70)).cell? ⟨W.heap.size, 0, none⟩ = some (.string key) := cell_of (heap_new _ _ rfl) 0 rfl
  have b0 := below1 W (.cells #[.string key, .int .i64 k, .bool b, .int .i64 n, .string t, .string x, L] 70)
  have HK := Lib.hid hk
  clear hf hq hk
  go_enter Tryz.func119, Tryz.ntmps119
  go_wp2_with fail
  go_ret
  exact ⟨_, [.string key], rfl, rfl, ⟨rfl, HK.out⟩, b0⟩
set_option maxHeartbeats 3200000 in
set_option maxRecDepth 20000 in
theorem propAt (a : PairL) (W : World) (c : List Value) (hG : Gd W) (h : pairE.rel W (Old W) c a) : Calls Tryz.prog 121 #[.agg c.toArray] W fun e w' => e = .returned (.bool (propV a.v)) ∧ Below W.heap.size W w' := by
  obtain ⟨key, v⟩ := a
  obtain ⟨r, hr⟩ : ∃ r, r = propV v := ⟨_, rfl⟩
  have hp : ∀ W' d, Below W.heap.size W W' → valRel W (Old W) d v → Calls Tryz.prog 122 #[.agg d.toArray] W' fun e w' => e = .returned (.bool r) ∧ Below W'.heap.size W' w' := fun W' d hb hd => by
    rw [hr]
    exact isPropAt v W' d (hG.below hb) (valE.stays (old_below hb) (show valE.rel W (Old W) d v from hd))
  show Calls Tryz.prog 121 #[.agg c.toArray] W fun e w' => e = .returned (.bool (propV v)) ∧ Below W.heap.size W w'
  rw [← hr]
  obtain ⟨c, rfl, hk, hv⟩ := h
  replace hp := fun W' hb => hp W' c hb hv
  have hlen : c.length = 6 := valE.len hv
  have u1 : (W.alloc (.cells (Value.string key :: c).toArray 70)).heap[W.heap.size]? = some (.cells (Value.string key :: c).toArray 70 (0, 0)) := heap_new _ _ rfl
  have b0 := below1 W (.cells (Value.string key :: c).toArray 70)
  obtain ⟨W0, hW0⟩ : ∃ W0, W0 = W.alloc (.cells (Value.string key :: c).toArray 70) := ⟨_, rfl⟩
  rw [← hW0] at u1 b0
  have hra : W0.rangeAt W.heap.size 1 c := range_of_heap u1 1 c (by simp)
  have H0 := Lib.hid hW0
  have HP := Lib.hid hp
  clear hW0 hp hv hk hr hG
  go_enter Tryz.func121, Tryz.ntmps121
  go_upto_region 1 with fail
  rw [← H0.out]
  go_wp2_with (first
    | ((with_reducible refine wpList_loadE (.tmp 3) W.heap.size 1 60 c 6 _ hra hlen Tryz.underlying60 rfl size_valE ?_ ?_ ?_ ?_); rfl; rfl; rfl)
    | (go_at_call 122; (with_reducible refine (HP.out _ b0).mono ?_); rintro e w1 ⟨rfl, hb1⟩))
  go_ret
  exact ⟨rfl, below_any b0 hb1 b0.size⟩
set_option maxHeartbeats 3200000 in
set_option maxRecDepth 20000 in
theorem wordsAt (l : List ByteArray) (v : Value) (W : World) (h : SliceE textE W (Old W) v l) (hn : l.length ≤ 2097152) : Calls Tryz.prog 99 #[v] W fun e w' => e = .returned (.bool (wordsP l)) ∧ Below W.heap.size W w' := by
  obtain ⟨r1, hr1⟩ : ∃ r, r = l.all wordP := ⟨_, rfl⟩
  obtain ⟨r2, hr2⟩ : ∃ r : Bool, r = decide (l.map bl).Nodup := ⟨_, rfl⟩
  have hall : Calls Tryz.prog 116 #[v, .func (.func 102) #[] #[]] W fun e w' => e = .returned (.bool r1) ∧ Below W.heap.size W w' := by
    rw [hr1]
    refine hold116 wordP l v W h hn fun x hx W' c _ hc => ?_
    refine (isWordAt x W' hc.2).mono ?_
    rintro e w' ⟨rfl, rfl⟩
    exact ⟨rfl, Below.refl _ _⟩
  have hun : ∀ W', Below W.heap.size W W' → Calls Tryz.prog 117 #[v] W' fun e w' => e = .returned (.bool r2) ∧ Below W'.heap.size W' w' := fun W' hb => by
    rw [hr2]
    exact unlikeStrsAt v l W' ((strs_of_slice h).below hb) hn
  have e : wordsP l = ((decide (l.length ≤ 65536) && r1) && r2) := by rw [hr1, hr2]; rfl
  rw [e]
  obtain ⟨p, cap, rfl⟩ := h.slice
  obtain ⟨n, hln⟩ : ∃ n, n = l.length := ⟨_, rfl⟩
  rw [← hln] at hn hall hun ⊢
  have HA := Lib.hid hall
  have HU := Lib.hid hun
  clear hall hun hr1 hr2 e h hln
  by_cases h1 : n ≤ 65536
  · have h1' : (n : Int) ≤ 65536 := by omega
    cases r1 with
    | true =>
      go_enter Tryz.func99, Tryz.ntmps99
      go_wp2_with (first
        | (go_at_call 116; (with_reducible refine HA.out.mono ?_); rintro e w1 ⟨rfl, hb1⟩)
        | (go_at_call 117; (with_reducible refine (HU.out _ hb1).mono ?_); rintro e w2 ⟨rfl, hb2⟩))
      go_ret
      exact ⟨by simp [h1], below_any hb1 hb2 hb1.size⟩
    | false =>
      go_enter Tryz.func99, Tryz.ntmps99
      go_wp2_with (first
        | (go_at_call 116; (with_reducible refine HA.out.mono ?_); rintro e w1 ⟨rfl, hb1⟩))
      go_ret
      exact ⟨by simp, hb1⟩
  · have h1' : ¬ (n : Int) ≤ 65536 := by omega
    go_enter Tryz.func99, Tryz.ntmps99
    go_wp2_with fail
    go_ret
    exact ⟨by simp [h1], Below.refl _ _⟩
set_option maxHeartbeats 3200000 in
set_option maxRecDepth 20000 in
theorem propsAt (l : List PairL) (v : Value) (W : World) (hG : Gd W) (h : SliceE pairE W (Old W) v l) (hn : l.length ≤ 2097152) : Calls Tryz.prog 100 #[v] W fun e w' => e = .returned (.bool (propsP l)) ∧ Below W.heap.size W w' := by
  obtain ⟨r1, hr1⟩ : ∃ r, r = wordsP (l.map PairL.key) := ⟨_, rfl⟩
  obtain ⟨r2, hr2⟩ : ∃ r : Bool, r = l.all (fun p => propV p.v) := ⟨_, rfl⟩
  have hmap := map118 PairL.key l v W h hn fun x hx W' c _ hc => keyOfAt x W' c hc
  have hw : ∀ W' V xs, W'.ownsRow W.heap.size 9 textE.k V (l.map PairL.key).length xs → RowE textE W' (Inn W V W') xs (l.map PairL.key) → Calls Tryz.prog 99 #[V] W' fun e w' => e = .returned (.bool r1) ∧ Below W'.heap.size W' w' := fun W' V xs ho hr => by
    rw [hr1]
    exact wordsAt _ V W' (sliceE_of_own ho hr (fun g hg => hg.2.1) (fun g e => (ho.lt g e).2)) (by simpa using hn)
  have hall : ∀ W', Below W.heap.size W W' → Calls Tryz.prog 120 #[v, .func (.func 121) #[] #[]] W' fun e w' => e = .returned (.bool r2) ∧ Below W'.heap.size W' w' := fun W' hb => by
    rw [hr2]
    exact hold120 _ l v W' (h.stays (old_below hb)) hn fun x hx W2 c hb2 hc => propAt x W2 c (hG.below (hb.trans (hb2.mono hb.size))) hc
  have e : propsP l = ((decide (l.length ≤ 65536) && r1) && r2) := by rw [hr1, hr2]; rfl
  rw [e]
  obtain ⟨p, cap, rfl⟩ := h.slice
  obtain ⟨n, hln⟩ : ∃ n, n = l.length := ⟨_, rfl⟩
  rw [← hln] at hn hall hmap ⊢
  have HM := Lib.hid hmap
  have HA := Lib.hid hall
  have HU := Lib.hid hw
  clear hall hmap hw hr1 hr2 e h hln hG
  by_cases h1 : n ≤ 65536
  · have h1' : (n : Int) ≤ 65536 := by omega
    cases r1 with
    | true =>
      go_enter Tryz.func100, Tryz.ntmps100
      go_wp2_with (first
        | (go_at_call 118; (with_reducible refine HM.out.mono ?_); rintro e w1 ⟨V, xs, rfl, ho, hro, hb1⟩)
        | (go_at_call 99; (with_reducible refine (HU.out w1 V xs ho hro).mono ?_); rintro e w2 ⟨rfl, hb2⟩; have b2 := below_any hb1 hb2 hb1.size)
        | (go_at_call 120; (with_reducible refine (HA.out _ b2).mono ?_); rintro e w3 ⟨rfl, hb3⟩))
      go_ret
      exact ⟨by simp [h1], below_any b2 hb3 b2.size⟩
    | false =>
      go_enter Tryz.func100, Tryz.ntmps100
      go_wp2_with (first
        | (go_at_call 118; (with_reducible refine HM.out.mono ?_); rintro e w1 ⟨V, xs, rfl, ho, hro, hb1⟩)
        | (go_at_call 99; (with_reducible refine (HU.out w1 V xs ho hro).mono ?_); rintro e w2 ⟨rfl, hb2⟩; have b2 := below_any hb1 hb2 hb1.size))
      go_ret
      exact ⟨by simp, b2⟩
  · have h1' : ¬ (n : Int) ≤ 65536 := by omega
    go_enter Tryz.func100, Tryz.ntmps100
    go_wp2_with fail
    go_ret
    exact ⟨by simp [h1], Below.refl _ _⟩
end Go.Proofs.YtcfmenkigolnoaaGreatDoor
