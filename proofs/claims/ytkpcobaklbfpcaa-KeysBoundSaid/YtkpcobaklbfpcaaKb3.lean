/- The library's slices.BinarySearch, Insert, Delete, Clone upon rows of numbers. Conditions: rising; bounds. -/
import Derived.Test.YtkpcobaklbfpcaaKb2
import Derived.Test.YtkpcobaklbfpcaaLays
import Derived.Shelf.Spec.SlicesInsertGrow
namespace Go.Proofs.Ytkpcobaklbfpcaa.Ka
set_option linter.unusedVariables false
set_option linter.unusedSimpArgs false
open Go.ChangeShapes Go.WideShapes Go.ChangeAt Go.RowKit Go.Maps Go.WideMaps
open Sp (Th Hp Stays All cellsT rowT exT puT star mapT setG Sl)
theorem drewN_below (w : World) (n : Nat) : Below w.heap.size w (w.drewN n) := ⟨rfl, rfl, rfl, Nat.le_refl _, fun _ _ => rfl⟩
theorem ints_len (l : List Int) : (ints l).length = l.length := List.length_map _
theorem ints_get (l : List Int) {j : Nat} (hj : j < l.length) : (ints l)[j]? = some (.int .i64 (l.getD j 0)) := by
  unfold ints
  rw [List.getElem?_map, List.getElem?_eq_getElem hj]
  simp [List.getD, List.getElem?_eq_getElem hj]
theorem ints_one (l : List Int) : ∀ u ∈ ints l, u.oneCell' = true := fun u hu => by
  obtain ⟨x, -, rfl⟩ := List.mem_map.1 hu
  rfl
section
variable {o w w' wb : World} {l : List Th} {v : Value} {ids : List Int} {g c : Nat}
theorem rowI_at (h : Hp o w (rowI (.slice (some ⟨g, 0, none⟩) ids.length c) ids :: l)) {j : Nat} (hj : j < ids.length) : w.cell? ⟨g, j, none⟩ = some (.int .i64 (ids.getD j 0)) := by
  have := Hp.rowCell (size := 1) h (j := j) (by omega)
  rw [this]
  exact ints_get ids hj
theorem rowI_form (h : Hp o w (rowI v ids :: l)) : (v = .slice none 0 0 ∧ ids = []) ∨ ∃ g c, v = .slice (some ⟨g, 0, none⟩) ids.length c ∧ ids.length ≤ c ∧ c ≤ 9223372036854775807 := by
  rcases (Hp.row h).2 with ⟨h1, h2⟩ | ⟨g, c, cur, h1, -, -, h2, h3, -⟩
  · exact .inl ⟨h1, List.length_eq_zero_iff.1 h2⟩
  · exact .inr ⟨g, c, h1, h2, by unfold maxLen at h3; omega⟩
theorem bs_calls (h : Hp o w (rowI v ids :: l)) (hw : Below w.heap.size w wb) (hu : Up ids) (hl : ids.length ≤ 1000000) (n : Int) :
    Calls Try.prog 38 #[v, .int .i64 n] wb fun e w' => e = .returned (.tuple #[.int .i64 ((loI n ids).length : Nat), .bool (decide (n ∈ ids))]) ∧ Below wb.heap.size wb w' := by
  have h := h.bel hw
  rcases rowI_form h with ⟨rfl, rfl⟩ | ⟨g, c, rfl, h1, h2⟩
  · refine (Any.slices_BinarySearch_int_empty Try.laysNm225 none 0 n wb).mono ?_
    rintro e w' ⟨rfl, rfl⟩
    exact ⟨rfl, Below.refl _ _⟩
  · have hs := Any.slices_BinarySearch_int Try.laysNm225 g 0 ids.length c ids n wb (Nat.le_refl _) (by omega) (fun j hj => by rw [Nat.zero_add]; exact rowI_at h hj) (by rw [List.take_length]; exact up_le hu)
    rw [List.take_length, lo_count] at hs
    refine hs.mono ?_
    rintro e w' ⟨rfl, q, rfl⟩
    refine ⟨?_, drewN_below _ _⟩
    have : ids.contains n = decide (n ∈ ids) := List.contains_eq_mem ..
    rw [this]
theorem ins_a (Z xs : List Value) (u : Value) (i n : Nat) (hx : xs.length = n) (hi : i ≤ n) (hZ : n + 1 ≤ Z.length) (hp : Z.take i = xs.take i) :
    ((Z.take (i + 1) ++ xs.drop i ++ Z.drop (i + 1 + (xs.drop i).length)).take i ++ [u] ++ (Z.take (i + 1) ++ xs.drop i ++ Z.drop (i + 1 + (xs.drop i).length)).drop (i + [u].length)).take (n + 1) = xs.take i ++ u :: xs.drop i := by
  have h1 : (Z.take (i + 1)).length = i + 1 := by rw [List.length_take]; omega
  have e1 : (Z.take (i + 1) ++ xs.drop i ++ Z.drop (i + 1 + (xs.drop i).length)).take i = xs.take i := by
    rw [List.append_assoc, List.take_append_of_le_length (by omega), List.take_take, Nat.min_eq_left (by omega), hp]
  have e2 : (Z.take (i + 1) ++ xs.drop i ++ Z.drop (i + 1 + (xs.drop i).length)).drop (i + [u].length) = xs.drop i ++ Z.drop (i + 1 + (xs.drop i).length) := by
    rw [List.append_assoc]
    exact List.drop_left' h1
  rw [e1, e2, ← List.append_assoc, List.append_assoc (xs.take i)]
  refine List.take_left' ?_
  simp only [List.length_append, List.length_take, List.length_drop, List.length_cons, List.length_nil]
  omega
theorem ins_b (Z xs : List Value) (u : Value) (i n : Nat) (hx : xs.length = n) (hi : i ≤ n) (hZ : n + 1 ≤ Z.length) (hp : Z.take i = xs.take i) :
    ((Z.take i ++ [u] ++ Z.drop (i + [u].length)).take (i + 1) ++ xs.drop i ++ (Z.take i ++ [u] ++ Z.drop (i + [u].length)).drop (i + 1 + (xs.drop i).length)).take (n + 1) = xs.take i ++ u :: xs.drop i := by
  have h1 : (Z.take i).length = i := by rw [List.length_take]; omega
  have e1 : (Z.take i ++ [u] ++ Z.drop (i + [u].length)).take (i + 1) = xs.take i ++ [u] := by
    rw [← hp]
    exact List.take_left' (by simp only [List.length_append, List.length_cons, List.length_nil]; omega)
  rw [e1, List.append_assoc (xs.take i)]
  refine List.take_left' ?_
  simp only [List.length_append, List.length_take, List.length_drop, List.length_cons, List.length_nil]
  omega
theorem ints_ins (ids : List Int) (n : Int) (i : Nat) : (ints ids).take i ++ .int .i64 n :: (ints ids).drop i = ints (ids.take i ++ n :: ids.drop i) := by
  unfold ints
  rw [List.map_append, List.map_cons, List.map_take, List.map_drop]
theorem ins_len (ids : List Int) (n : Int) {i : Nat} (hi : i ≤ ids.length) : (ids.take i ++ n :: ids.drop i).length = ids.length + 1 := by
  rw [List.length_append, List.length_cons, List.length_take, List.length_drop]; omega
theorem rowI_of (h : Hp o w (rowT 3 1 v (ids.length) (ints ids) :: l)) : Hp o w (rowI v ids :: l) := h
theorem zero_size (k : Nat) : (Builtin.zeroCells (Value.int .i64 0).cells k).size = k := by rw [size_zeroCells]; exact Nat.mul_one k
/-- slices.Insert of one number. -/
theorem insert_calls (h : Hp o w (rowI v ids :: l)) (hl : ids.length ≤ 1000000) (i : Nat) (hi : i ≤ ids.length) (n : Int) :
    Calls Try.prog 42 #[v, .int .i64 i, .slice (some ⟨w.heap.size, 0, none⟩) 1 1] (w.alloc (.cells #[.int .i64 n] 3)) fun e w' => ∃ g c, e = .returned (.slice (some ⟨g, 0, none⟩) (ids.length + 1) c) ∧ Hp o w' (rowI (.slice (some ⟨g, 0, none⟩) (ids.take i ++ n :: ids.drop i).length c) (ids.take i ++ n :: ids.drop i) :: l) := by
  have hvs : ∀ j u, [Value.int .i64 n][j]? = some u → (w.alloc (.cells #[.int .i64 n] 3)).cell? ⟨w.heap.size, 0 + j, none⟩ = some u := fun j u hj => by
    rw [Nat.zero_add, World.cell?_alloc_new]
    simpa using hj
  have h1v : ∀ u ∈ [Value.int .i64 n], u.oneCell' = true := fun u hu => by rw [List.mem_singleton.1 hu]; rfl
  have hb := h.bel (Sp.bbox (.cells #[.int .i64 n] 3))
  have hcl := ints_len ids
  have hlen := ins_len ids n hi
  have hM : (1000002 : Nat) ≤ maxLen := by unfold maxLen; omega
  -- the row that was, or none: nothing lies there
  have grow : ∀ (a : Option Addr) (c : Nat), i = ids.length → c < ids.length + 1 → ids.length ≤ c → (a = none → ids.length = 0) → (∀ b, a = some b → ∀ j u, (ints ids)[j]? = some u → (w.alloc (.cells #[.int .i64 n] 3)).cell? (b.add j) = some u) → v = .slice a ids.length c →
      Calls Try.prog 42 #[v, .int .i64 i, .slice (some ⟨w.heap.size, 0, none⟩) 1 1] (w.alloc (.cells #[.int .i64 n] 3)) fun e w' => ∃ g c, e = .returned (.slice (some ⟨g, 0, none⟩) (ids.length + 1) c) ∧ Hp o w' (rowI (.slice (some ⟨g, 0, none⟩) (ids.take i ++ n :: ids.drop i).length c) (ids.take i ++ n :: ids.drop i) :: l) := by
    intro a c e1 h2 h3 h4 h5 e2
    subst e1 e2
    refine (Any2.slices_Insert_int_end_grow Try.laysNm221 a ids.length c w.heap.size 0 1 1 (ints ids) [.int .i64 n] _ (by decide) h3 h2 (by omega) hcl rfl h4 h5 hvs h1v).mono ?_
    rintro e w' ⟨rfl, rfl⟩
    generalize hgc : grownCap (w.alloc (.cells #[.int .i64 n] 3)) (ids.length + 1) c (Try.laysNm221_ren.t 3) = cap
    have hc1 : ids.length + 1 ≤ cap := hgc ▸ grownCap_ge _ _ _ _
    have hc2 : cap ≤ maxLen := hgc ▸ grownCap_le_maxLen _ _ _ _ (by omega)
    refine ⟨_, cap, rfl, ?_⟩
    have hsz : ((ints ids ++ [Value.int .i64 n]).toArray ++ Builtin.zeroCells (Value.int .i64 0).cells (cap - (ids.length + 1))).size = cap * 1 := by
      rw [Array.size_append, zero_size, List.size_toArray, List.length_append, hcl, List.length_singleton]; omega
    have k := (hb.bel ((Below.refl _ _).drew)).rowLit (size := 1) ((ints ids ++ [Value.int .i64 n]).toArray ++ Builtin.zeroCells (Value.int .i64 0).cells (cap - (ids.length + 1))) cap hc2 hsz 3
    have k2 := (k.dropAt 1 rfl).rowCap (ids.length + 1) hc1 (zs := ints (ids.take ids.length ++ n :: ids.drop ids.length)) (by
      rw [← ints_ins, List.take_of_length_le (l := ints ids) (i := ids.length) (by omega), List.drop_of_length_le (l := ints ids) (i := ids.length) (by omega), Array.toList_append]
      exact List.take_left' (by show (ints ids ++ [Value.int .i64 n]).length = _; rw [List.length_append, hcl, List.length_singleton]; omega))
    show Hp o _ (rowT 3 1 _ (ids.take ids.length ++ n :: ids.drop ids.length).length _ :: l)
    rw [hlen]
    exact k2
  rcases rowI_form h with ⟨rfl, rfl⟩ | ⟨g, c, rfl, h1, h2⟩
  · have : i = 0 := by simpa using hi
    subst this
    exact grow none 0 rfl (by decide) (by decide) (fun _ => rfl) (fun b hb => by cases hb) rfl
  · obtain ⟨ys, f1, f2, f3, f4, f5, hF⟩ := Hp.rowFull hb
    have hlt : g < w.heap.size := h.say fun k _ _ => (k.2.lt g rfl).2
    have hcell : ∀ j, j < ids.length → (w.alloc (.cells #[.int .i64 n] 3)).cell? ⟨g, j, none⟩ = some (.int .i64 (ids.getD j 0)) := fun j hj => rowI_at hb hj
    have hcs : ∀ j u, (ints ids)[j]? = some u → (w.alloc (.cells #[.int .i64 n] 3)).cell? ⟨g, 0 + j, none⟩ = some u := fun j u hj => by
      have hjl : j < ids.length := by have := (List.getElem?_eq_some_iff.1 hj).1; rwa [hcl] at this
      rw [Nat.zero_add, hcell j hjl, ← ints_get ids hjl, hj]
    by_cases hroom : c < ids.length + 1
    · by_cases hil : i = ids.length
      · exact grow (some ⟨g, 0, none⟩) c hil hroom h1 (fun e => by cases e) (fun b e j u hj => by
          injection e with e
          subst e
          rw [Addr.add_lit]
          exact hcs j u hj) rfl
      · refine (Any2.slices_Insert_int_grow Try.laysNm221 g 0 ids.length c i w.heap.size 0 1 1 (ints ids) [.int .i64 n] _ (by omega) (by decide) h1 hroom (by omega) hcl rfl hcs hvs (ints_one ids) h1v).mono ?_
        rintro e w' ⟨rfl, rfl⟩
        generalize hgc : grownCap (w.alloc (.cells #[.int .i64 n] 3)) (ids.length + 1) c (Try.laysNm221_ren.t 3) = cap
        have hc1 : ids.length + 1 ≤ cap := hgc ▸ grownCap_ge _ _ _ _
        have hc2 : cap ≤ maxLen := hgc ▸ grownCap_le_maxLen _ _ _ _ (by omega)
        refine ⟨_, cap, rfl, ?_⟩
        have hsz : (((ints ids).take i).toArray ++ Builtin.zeroCells (Value.int .i64 0).cells (ids.length + 1 - i) ++ Builtin.zeroCells (Value.int .i64 0).cells (cap - (ids.length + 1))).size = cap * 1 := by
          rw [Array.size_append, Array.size_append, zero_size, zero_size, List.size_toArray, List.length_take, hcl]; omega
        have htk : (((ints ids).take i).toArray ++ Builtin.zeroCells (Value.int .i64 0).cells (ids.length + 1 - i) ++ Builtin.zeroCells (Value.int .i64 0).cells (cap - (ids.length + 1))).toList.take i = (ints ids).take i := by
          rw [Array.toList_append, Array.toList_append, List.append_assoc]
          exact List.take_left' (by rw [List.length_take, hcl]; omega)
        generalize (((ints ids).take i).toArray ++ Builtin.zeroCells (Value.int .i64 0).cells (ids.length + 1 - i) ++ Builtin.zeroCells (Value.int .i64 0).cells (cap - (ids.length + 1))) = cur at hsz htk ⊢
        have hsz' : cur.toList.length = cap := by rw [Array.length_toList, hsz, Nat.mul_one]
        have k := (hb.rowLit (size := 1) cur cap hc2 hsz 3).dropAt 1 rfl
        have k1 := (k.bel ((Below.refl _ _).drew)).rowCells [.int .i64 n] i (by rw [hsz']; simp only [List.length_cons, List.length_nil]; omega)
        have hl1 : (cur.toList.take i ++ [Value.int .i64 n] ++ cur.toList.drop (i + [Value.int .i64 n].length)).length = cap := by
          simp only [List.length_append, List.length_take, List.length_drop, List.length_cons, List.length_nil]; omega
        have k2 := (k1.bel ((Below.refl _ _).drew)).rowCells ((ints ids).drop i) (i + 1) (by rw [hl1, List.length_drop, hcl]; omega)
        have k3 := k2.rowCap (ids.length + 1) hc1 (zs := ints (ids.take i ++ n :: ids.drop i)) (by
          rw [← ints_ins, Nat.mul_one]
          exact ins_b cur.toList (ints ids) (.int .i64 n) i ids.length hcl hi (by omega) htk)
        show Hp o _ (rowT 3 1 _ (ids.take i ++ n :: ids.drop i).length _ :: l)
        rw [hlen]
        exact k3
    · have hZ : ids.length + 1 ≤ (ints ids ++ ys).length := by rw [f2]; omega
      have hZi : (ints ids ++ ys).take i = (ints ids).take i := List.take_append_of_le_length (by omega)
      by_cases hil : i = ids.length
      · subst hil
        refine (Any2.slices_Insert_int_end_room Try.laysNm221 g 0 ids.length c w.heap.size 0 1 1 [.int .i64 n] _ (by decide) (by omega) h2 rfl (fun j hj => ?_) (fun j hj => ?_) hvs h1v).mono ?_
        · have : (⟨g, 0 + ids.length + j, none⟩ : Addr) = ⟨g, ids.length, none⟩ := by congr 1; omega
          rw [this]
          simp only [World.cell?, f5]
          simp
          rw [List.length_append] at hZ
          omega
        · simp only [World.frozen?, f5]
          simp
        · rintro e w' ⟨rfl, rfl⟩
          refine ⟨g, c, rfl, ?_⟩
          have k := hF.rowCells [.int .i64 n] ids.length (by simp only [List.length_cons, List.length_nil]; omega)
          have k2 := k.rowCap (ids.length + 1) (by omega) (zs := ints (ids.take ids.length ++ n :: ids.drop ids.length)) (by
            rw [← ints_ins, hZi]
            rw [List.drop_of_length_le (l := ints ids) (i := ids.length) (by omega)]
            exact List.take_left' (by simp only [List.length_append, List.length_take, List.length_cons, List.length_nil]; omega))
          show Hp o _ (rowT 3 1 _ (ids.take ids.length ++ n :: ids.drop ids.length).length _ :: l)
          rw [hlen, Nat.zero_add]
          exact k2
      · refine (Any2.slices_Insert_int_shift Try.laysNm221 g 0 ids.length c i w.heap.size 0 1 1 (ints ids) [.int .i64 n] _ (by omega) (by decide) (by omega) h2 (by omega) hcl rfl hcs (fun j hj => ?_) (fun j hj => ?_) hvs (ints_one ids) h1v 3 3 1 (ints ids ++ ys).length ?_ ?_ (by omega) ?_ ?_).mono ?_
        · rw [Nat.zero_add]
          simp only [World.cell?, f5]
          simp
          rw [List.length_append] at hZ
          omega
        · simp only [World.frozen?, f5]
          simp
        · simp only [World.shape?, heap_alloc_new]
          rfl
        · simp only [World.shape?, f5]
          simp
        · simp only [World.frozen?, heap_alloc_new]
          rfl
        · simp only [World.frozen?, heap_alloc_new]
          rfl
        · rintro e w' ⟨rfl, rfl⟩
          refine ⟨g, c, rfl, ?_⟩
          have k1 := (hF.bel ((Below.refl _ _).drew)).rowCells ((ints ids).drop i) (i + 1) (by rw [List.length_drop, hcl]; omega)
          have hl1 : ((ints ids ++ ys).take (i + 1) ++ (ints ids).drop i ++ (ints ids ++ ys).drop (i + 1 + ((ints ids).drop i).length)).length = (ints ids ++ ys).length := by
            simp only [List.length_append, List.length_take, List.length_drop, hcl] at hZ ⊢
            omega
          have k2 := k1.rowCells [.int .i64 n] i (by rw [hl1]; simp only [List.length_cons, List.length_nil]; omega)
          have k3 := k2.rowCap (ids.length + 1) (by omega) (zs := ints (ids.take i ++ n :: ids.drop i)) (by
            rw [← ints_ins, Nat.mul_one]
            exact ins_a (ints ids ++ ys) (ints ids) (.int .i64 n) i ids.length hcl hi hZ hZi)
          show Hp o _ (rowT 3 1 _ (ids.take i ++ n :: ids.drop i).length _ :: l)
          rw [hlen, Nat.zero_add, Nat.zero_add]
          exact k3
/-- slices.Delete of one number. -/
theorem delete_calls (h : Hp o w (rowI (.slice (some ⟨g, 0, none⟩) ids.length c) ids :: l)) (hw : Below w.heap.size w wb) (i : Nat) (hi : i < ids.length) :
    Calls Try.prog 39 #[.slice (some ⟨g, 0, none⟩) ids.length c, .int .i64 i, .int .i64 ((i + 1 : Nat) : Int)] wb fun e w' => e = .returned (.slice (some ⟨g, 0, none⟩) (ids.take i ++ ids.drop (i + 1)).length c) ∧ Hp o w' (rowI (.slice (some ⟨g, 0, none⟩) (ids.take i ++ ids.drop (i + 1)).length c) (ids.take i ++ ids.drop (i + 1)) :: l) := by
  have hb := h.bel hw
  obtain ⟨h1, h2⟩ : ids.length ≤ c ∧ c ≤ 9223372036854775807 := by
    rcases rowI_form hb with ⟨e, -⟩ | ⟨g', c', e, h1, h2⟩
    · injection e with e; cases e
    · injection e with e1 e2 e3
      subst e3
      exact ⟨h1, h2⟩
  have hlen : (ids.take i ++ ids.drop (i + 1)).length = ids.length - (i + 1 - i) := by
    rw [List.length_append, List.length_take, List.length_drop]; omega
  refine (Any.slices_Delete_int_cells Try.laysNm223 g 0 ids.length c i (i + 1) ids wb (Nat.le_refl _) h1 h2 (Nat.le_succ _) hi (fun j hj => by rw [Nat.zero_add]; exact rowI_at hb hj) (fun j hj => Hp.rowFrozen hb _)).mono ?_
  rintro e w' ⟨rfl, q, rfl⟩
  refine ⟨by rw [hlen], ?_⟩
  rw [List.take_length]
  have hl : ((ids.take i ++ ids.drop (i + 1) ++ List.replicate (i + 1 - i) 0).map (Value.int .i64)).length = ids.length := by
    rw [List.length_map, List.length_append, hlen, List.length_replicate]; omega
  have k := (hb.bel (drewN_below wb q)).rowCells ((ids.take i ++ ids.drop (i + 1) ++ List.replicate (i + 1 - i) 0).map (Value.int .i64)) 0 (by rw [hl, ints_len]; omega)
  have k2 := Hp.rowCut k (ids.take i ++ ids.drop (i + 1)).length (by rw [hlen]; omega)
  have e2 : ((ints ids).take 0 ++ (ids.take i ++ ids.drop (i + 1) ++ List.replicate (i + 1 - i) 0).map (Value.int .i64) ++ (ints ids).drop (0 + ((ids.take i ++ ids.drop (i + 1) ++ List.replicate (i + 1 - i) 0).map (Value.int .i64)).length)).take ((ids.take i ++ ids.drop (i + 1)).length * 1) = ints (ids.take i ++ ids.drop (i + 1)) := by
    rw [List.take_zero, List.nil_append, hl, List.drop_of_length_le (l := ints ids) (by rw [ints_len]; omega), List.append_nil, List.map_append, Nat.mul_one]
    exact List.take_left' (List.length_map _)
  rw [e2] at k2
  exact k2
/-- slices.Clone: a row of one's own. -/
theorem clone_calls (h : Hp o w (rowI v ids :: l)) (hw : Below w.heap.size w wb) (hl : ids.length ≤ 1000000) :
    Calls Try.prog 31 #[v] wb fun e w' => ∃ v', e = .returned v' ∧ Hp o w' (rowI v' ids :: rowI v ids :: l) ∧ Below wb.heap.size wb w' := by
  have hb := h.bel hw
  rcases rowI_form hb with ⟨rfl, rfl⟩ | ⟨g, c, rfl, h1, h2⟩
  · refine (Any.slices_Clone_int_nil Try.laysNm215 0 0 wb).mono ?_
    rintro e w' ⟨rfl, rfl⟩
    exact ⟨_, rfl, hb.rowNil 3 1, Below.refl _ _⟩
  · refine (Any.slices_Clone_int Try.laysNm215 g 0 ids.length c ids wb (Nat.le_refl _) (by omega) (fun j hj => by rw [Nat.zero_add]; exact rowI_at hb hj)).mono ?_
    rintro e w' ⟨v', rfl, h3, -, h4⟩
    rw [List.take_length] at h3
    exact ⟨v', rfl, hb.rowAdd h4 h3 (Nat.le_refl _), h4⟩
end
end Go.Proofs.Ytkpcobaklbfpcaa.Ka
