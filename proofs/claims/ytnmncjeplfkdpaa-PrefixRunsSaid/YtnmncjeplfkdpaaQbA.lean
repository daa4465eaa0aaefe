/- The library's slices.BinarySearch, Insert, Delete, Clone upon rows of numbers. Conditions: rising; bounds. -/
import Derived.Test.YtnmncjeplfkdpaaQb1
import Derived.Test.YtnmncjeplfkdpaaLays
import Derived.Shelf.Spec.SlicesInsertGrow
import Derived.Test.YtnmncjeplfkdpaaQa1
import Derived.Deep.Cut
import Derived.Deep.RegionHeld3
namespace Go.Proofs.Ytnmncjeplfkdpaa.Qa
set_option linter.unusedVariables false
set_option linter.unusedSimpArgs false
open Go.ChangeShapes Go.WideShapes Go.ChangeAt Go.RowKit Go.Maps Go.WideMaps
open Ka
open Sp (Th Hp Stays All cellsT rowT exT puT star mapT setG Sl)
theorem drewN_below (w : World) (n : Nat) : Below w.heap.size w (w.drewN n) := ⟨rfl, rfl, rfl, Nat.le_refl _, fun _ _ => rfl⟩
theorem ints_len (l : List Int) : (ints l).length = l.length := List.length_map _
theorem ints_get (l : List Int) {j : Nat} (hj : j < l.length) : (ints l)[j]? = some (.int .i64 (l.getD j 0)) := by
  unfold ints
  rw [List.getElem?_map, List.getElem?_eq_getElem hj]
  simp [List.getD, List.getElem?_eq_getElem hj]
theorem ints_one (l : List Int) : ∀ u ∈ ints l, u.oneCell' = true := fun u hu => by
  obtain ⟨x, -, rfl⟩ := List.mem_map.1 hu
  rfl
section
variable {o w w' wb : World} {l : List Th} {v : Value} {ids : List Int} {g c : Nat}
theorem rowI_at (h : Hp o w (rowI (.slice (some ⟨g, 0, none⟩) ids.length c) ids :: l)) {j : Nat} (hj : j < ids.length) : w.cell? ⟨g, j, none⟩ = some (.int .i64 (ids.getD j 0)) := by
  have := Hp.rowCell (size := 1) h (j := j) (by omega)
  rw [this]
  exact ints_get ids hj
theorem rowI_form (h : Hp o w (rowI v ids :: l)) : (v = .slice none 0 0 ∧ ids = []) ∨ ∃ g c, v = .slice (some ⟨g, 0, none⟩) ids.length c ∧ ids.length ≤ c ∧ c ≤ 9223372036854775807 := by
  rcases (Hp.row h).2 with ⟨h1, h2⟩ | ⟨g, c, cur, h1, -, -, h2, h3, -⟩
  · exact .inl ⟨h1, List.length_eq_zero_iff.1 h2⟩
  · exact .inr ⟨g, c, h1, h2, by unfold maxLen at h3; omega⟩
theorem bs_calls (h : Hp o w (rowI v ids :: l)) (hw : Below w.heap.size w wb) (hu : Up ids) (hl : ids.length ≤ 1000000) (n : Int) :
    Calls Try.prog 36 #[v, .int .i64 n] wb fun e w' => e = .returned (.tuple #[.int .i64 ((loI n ids).length : Nat), .bool (decide (n ∈ ids))]) ∧ Below wb.heap.size wb w' := by
  have h := h.bel hw
  rcases rowI_form h with ⟨rfl, rfl⟩ | ⟨g, c, rfl, h1, h2⟩
  · refine (Any.slices_BinarySearch_int_empty Try.laysNm225 none 0 n wb).mono ?_
    rintro e w' ⟨rfl, rfl⟩
    exact ⟨rfl, Below.refl _ _⟩
  · have hs := Any.slices_BinarySearch_int Try.laysNm225 g 0 ids.length c ids n wb (Nat.le_refl _) (by omega) (fun j hj => by rw [Nat.zero_add]; exact rowI_at h hj) (by rw [List.take_length]; exact up_le hu)
    rw [List.take_length, lo_count] at hs
    refine hs.mono ?_
    rintro e w' ⟨rfl, q, rfl⟩
    refine ⟨?_, drewN_below _ _⟩
    have : ids.contains n = decide (n ∈ ids) := List.contains_eq_mem ..
    rw [this]
theorem ins_a (Z xs : List Value) (u : Value) (i n : Nat) (hx : xs.length = n) (hi : i ≤ n) (hZ : n + 1 ≤ Z.length) (hp : Z.take i = xs.take i) :
    ((Z.take (i + 1) ++ xs.drop i ++ Z.drop (i + 1 + (xs.drop i).length)).take i ++ [u] ++ (Z.take (i + 1) ++ xs.drop i ++ Z.drop (i + 1 + (xs.drop i).length)).drop (i + [u].length)).take (n + 1) = xs.take i ++ u :: xs.drop i := by
  have h1 : (Z.take (i + 1)).length = i + 1 := by rw [List.length_take]; omega
  have e1 : (Z.take (i + 1) ++ xs.drop i ++ Z.drop (i + 1 + (xs.drop i).length)).take i = xs.take i := by
    rw [List.append_assoc, List.take_append_of_le_length (by omega), List.take_take, Nat.min_eq_left (by omega), hp]
  have e2 : (Z.take (i + 1) ++ xs.drop i ++ Z.drop (i + 1 + (xs.drop i).length)).drop (i + [u].length) = xs.drop i ++ Z.drop (i + 1 + (xs.drop i).length) := by
    rw [List.append_assoc]
    exact List.drop_left' h1
  rw [e1, e2, ← List.append_assoc, List.append_assoc (xs.take i)]
  refine List.take_left' ?_
  simp only [List.length_append, List.length_take, List.length_drop, List.length_cons, List.length_nil]
  omega
theorem ins_b (Z xs : List Value) (u : Value) (i n : Nat) (hx : xs.length = n) (hi : i ≤ n) (hZ : n + 1 ≤ Z.length) (hp : Z.take i = xs.take i) :
    ((Z.take i ++ [u] ++ Z.drop (i + [u].length)).take (i + 1) ++ xs.drop i ++ (Z.take i ++ [u] ++ Z.drop (i + [u].length)).drop (i + 1 + (xs.drop i).length)).take (n + 1) = xs.take i ++ u :: xs.drop i := by
  have h1 : (Z.take i).length = i := by rw [List.length_take]; omega
  have e1 : (Z.take i ++ [u] ++ Z.drop (i + [u].length)).take (i + 1) = xs.take i ++ [u] := by
    rw [← hp]
    exact List.take_left' (by simp only [List.length_append, List.length_cons, List.length_nil]; omega)
  rw [e1, List.append_assoc (xs.take i)]
  refine List.take_left' ?_
  simp only [List.length_append, List.length_take, List.length_drop, List.length_cons, List.length_nil]
  omega
theorem ints_ins (ids : List Int) (n : Int) (i : Nat) : (ints ids).take i ++ .int .i64 n :: (ints ids).drop i = ints (ids.take i ++ n :: ids.drop i) := by
  unfold ints
  rw [List.map_append, List.map_cons, List.map_take, List.map_drop]
theorem ins_len (ids : List Int) (n : Int) {i : Nat} (hi : i ≤ ids.length) : (ids.take i ++ n :: ids.drop i).length = ids.length + 1 := by
  rw [List.length_append, List.length_cons, List.length_take, List.length_drop]; omega
theorem rowI_of (h : Hp o w (rowT 3 1 v (ids.length) (ints ids) :: l)) : Hp o w (rowI v ids :: l) := h
theorem zero_size (k : Nat) : (Builtin.zeroCells (Value.int .i64 0).cells k).size = k := by rw [size_zeroCells]; exact Nat.mul_one k
/-- slices.Insert of one number. -/
theorem insert_calls (h : Hp o w (rowI v ids :: l)) (hl : ids.length ≤ 1000000) (i : Nat) (hi : i ≤ ids.length) (n : Int) :
    Calls Try.prog 37 #[v, .int .i64 i, .slice (some ⟨w.heap.size, 0, none⟩) 1 1] (w.alloc (.cells #[.int .i64 n] 3)) fun e w' => ∃ g c, e = .returned (.slice (some ⟨g, 0, none⟩) (ids.length + 1) c) ∧ Hp o w' (rowI (.slice (some ⟨g, 0, none⟩) (ids.take i ++ n :: ids.drop i).length c) (ids.take i ++ n :: ids.drop i) :: l) := by
  have hvs : ∀ j u, [Value.int .i64 n][j]? = some u → (w.alloc (.cells #[.int .i64 n] 3)).cell? ⟨w.heap.size, 0 + j, none⟩ = some u := fun j u hj => by
    rw [Nat.zero_add, World.cell?_alloc_new]
    simpa using hj
  have h1v : ∀ u ∈ [Value.int .i64 n], u.oneCell' = true := fun u hu => by rw [List.mem_singleton.1 hu]; rfl
  have hb := h.bel (Sp.bbox (.cells #[.int .i64 n] 3))
  have hcl := ints_len ids
  have hlen := ins_len ids n hi
  have hM : (1000002 : Nat) ≤ maxLen := by unfold maxLen; omega
  -- the row that was, or none: nothing lies there
  have grow : ∀ (a : Option Addr) (c : Nat), i = ids.length → c < ids.length + 1 → ids.length ≤ c → (a = none → ids.length = 0) → (∀ b, a = some b → ∀ j u, (ints ids)[j]? = some u → (w.alloc (.cells #[.int .i64 n] 3)).cell? (b.add j) = some u) → v = .slice a ids.length c →
      Calls Try.prog 37 #[v, .int .i64 i, .slice (some ⟨w.heap.size, 0, none⟩) 1 1] (w.alloc (.cells #[.int .i64 n] 3)) fun e w' => ∃ g c, e = .returned (.slice (some ⟨g, 0, none⟩) (ids.length + 1) c) ∧ Hp o w' (rowI (.slice (some ⟨g, 0, none⟩) (ids.take i ++ n :: ids.drop i).length c) (ids.take i ++ n :: ids.drop i) :: l) := by
    intro a c e1 h2 h3 h4 h5 e2
    subst e1 e2
    refine (Any2.slices_Insert_int_end_grow Try.laysNm221 a ids.length c w.heap.size 0 1 1 (ints ids) [.int .i64 n] _ (by decide) h3 h2 (by omega) hcl rfl h4 h5 hvs h1v).mono ?_
    rintro e w' ⟨rfl, rfl⟩
    generalize hgc : grownCap (w.alloc (.cells #[.int .i64 n] 3)) (ids.length + 1) c (Try.laysNm221_ren.t 3) = cap
    have hc1 : ids.length + 1 ≤ cap := hgc ▸ grownCap_ge _ _ _ _
    have hc2 : cap ≤ maxLen := hgc ▸ grownCap_le_maxLen _ _ _ _ (by omega)
    refine ⟨_, cap, rfl, ?_⟩
    have hsz : ((ints ids ++ [Value.int .i64 n]).toArray ++ Builtin.zeroCells (Value.int .i64 0).cells (cap - (ids.length + 1))).size = cap * 1 := by
      rw [Array.size_append, zero_size, List.size_toArray, List.length_append, hcl, List.length_singleton]; omega
    have k := (hb.bel ((Below.refl _ _).drew)).rowLit (size := 1) ((ints ids ++ [Value.int .i64 n]).toArray ++ Builtin.zeroCells (Value.int .i64 0).cells (cap - (ids.length + 1))) cap hc2 hsz 3
    have k2 := (k.dropAt 1 rfl).rowCap (ids.length + 1) hc1 (zs := ints (ids.take ids.length ++ n :: ids.drop ids.length)) (by
      rw [← ints_ins, List.take_of_length_le (l := ints ids) (i := ids.length) (by omega), List.drop_of_length_le (l := ints ids) (i := ids.length) (by omega), Array.toList_append]
      exact List.take_left' (by show (ints ids ++ [Value.int .i64 n]).length = _; rw [List.length_append, hcl, List.length_singleton]; omega))
    show Hp o _ (rowT 3 1 _ (ids.take ids.length ++ n :: ids.drop ids.length).length _ :: l)
    rw [hlen]
    exact k2
  rcases rowI_form h with ⟨rfl, rfl⟩ | ⟨g, c, rfl, h1, h2⟩
  · have : i = 0 := by simpa using hi
    subst this
    exact grow none 0 rfl (by decide) (by decide) (fun _ => rfl) (fun b hb => by cases hb) rfl
  · obtain ⟨ys, f1, f2, f3, f4, f5, hF⟩ := Hp.rowFull hb
    have hlt : g < w.heap.size := h.say fun k _ _ => (k.2.lt g rfl).2
    have hcell : ∀ j, j < ids.length → (w.alloc (.cells #[.int .i64 n] 3)).cell? ⟨g, j, none⟩ = some (.int .i64 (ids.getD j 0)) := fun j hj => rowI_at hb hj
    have hcs : ∀ j u, (ints ids)[j]? = some u → (w.alloc (.cells #[.int .i64 n] 3)).cell? ⟨g, 0 + j, none⟩ = some u := fun j u hj => by
      have hjl : j < ids.length := by have := (List.getElem?_eq_some_iff.1 hj).1; rwa [hcl] at this
      rw [Nat.zero_add, hcell j hjl, ← ints_get ids hjl, hj]
    by_cases hroom : c < ids.length + 1
    · by_cases hil : i = ids.length
      · exact grow (some ⟨g, 0, none⟩) c hil hroom h1 (fun e => by cases e) (fun b e j u hj => by
          injection e with e
          subst e
          rw [Addr.add_lit]
          exact hcs j u hj) rfl
      · refine (Any2.slices_Insert_int_grow Try.laysNm221 g 0 ids.length c i w.heap.size 0 1 1 (ints ids) [.int .i64 n] _ (by omega) (by decide) h1 hroom (by omega) hcl rfl hcs hvs (ints_one ids) h1v).mono ?_
        rintro e w' ⟨rfl, rfl⟩
        generalize hgc : grownCap (w.alloc (.cells #[.int .i64 n] 3)) (ids.length + 1) c (Try.laysNm221_ren.t 3) = cap
        have hc1 : ids.length + 1 ≤ cap := hgc ▸ grownCap_ge _ _ _ _
        have hc2 : cap ≤ maxLen := hgc ▸ grownCap_le_maxLen _ _ _ _ (by omega)
        refine ⟨_, cap, rfl, ?_⟩
        have hsz : (((ints ids).take i).toArray ++ Builtin.zeroCells (Value.int .i64 0).cells (ids.length + 1 - i) ++ Builtin.zeroCells (Value.int .i64 0).cells (cap - (ids.length + 1))).size = cap * 1 := by
          rw [Array.size_append, Array.size_append, zero_size, zero_size, List.size_toArray, List.length_take, hcl]; omega
        have htk : (((ints ids).take i).toArray ++ Builtin.zeroCells (Value.int .i64 0).cells (ids.length + 1 - i) ++ Builtin.zeroCells (Value.int .i64 0).cells (cap - (ids.length + 1))).toList.take i = (ints ids).take i := by
          rw [Array.toList_append, Array.toList_append, List.append_assoc]
          exact List.take_left' (by rw [List.length_take, hcl]; omega)
        generalize (((ints ids).take i).toArray ++ Builtin.zeroCells (Value.int .i64 0).cells (ids.length + 1 - i) ++ Builtin.zeroCells (Value.int .i64 0).cells (cap - (ids.length + 1))) = cur at hsz htk ⊢
        have hsz' : cur.toList.length = cap := by rw [Array.length_toList, hsz, Nat.mul_one]
        have k := (hb.rowLit (size := 1) cur cap hc2 hsz 3).dropAt 1 rfl
        have k1 := (k.bel ((Below.refl _ _).drew)).rowCells [.int .i64 n] i (by rw [hsz']; simp only [List.length_cons, List.length_nil]; omega)
        have hl1 : (cur.toList.take i ++ [Value.int .i64 n] ++ cur.toList.drop (i + [Value.int .i64 n].length)).length = cap := by
          simp only [List.length_append, List.length_take, List.length_drop, List.length_cons, List.length_nil]; omega
        have k2 := (k1.bel ((Below.refl _ _).drew)).rowCells ((ints ids).drop i) (i + 1) (by rw [hl1, List.length_drop, hcl]; omega)
        have k3 := k2.rowCap (ids.length + 1) hc1 (zs := ints (ids.take i ++ n :: ids.drop i)) (by
          rw [← ints_ins, Nat.mul_one]
          exact ins_b cur.toList (ints ids) (.int .i64 n) i ids.length hcl hi (by omega) htk)
        show Hp o _ (rowT 3 1 _ (ids.take i ++ n :: ids.drop i).length _ :: l)
        rw [hlen]
        exact k3
    · have hZ : ids.length + 1 ≤ (ints ids ++ ys).length := by rw [f2]; omega
      have hZi : (ints ids ++ ys).take i = (ints ids).take i := List.take_append_of_le_length (by omega)
      by_cases hil : i = ids.length
      · subst hil
        refine (Any2.slices_Insert_int_end_room Try.laysNm221 g 0 ids.length c w.heap.size 0 1 1 [.int .i64 n] _ (by decide) (by omega) h2 rfl (fun j hj => ?_) (fun j hj => ?_) hvs h1v).mono ?_
        · have : (⟨g, 0 + ids.length + j, none⟩ : Addr) = ⟨g, ids.length, none⟩ := by congr 1; omega
          rw [this]
          simp only [World.cell?, f5]
          simp
          rw [List.length_append] at hZ
          omega
        · simp only [World.frozen?, f5]
          simp
        · rintro e w' ⟨rfl, rfl⟩
          refine ⟨g, c, rfl, ?_⟩
          have k := hF.rowCells [.int .i64 n] ids.length (by simp only [List.length_cons, List.length_nil]; omega)
          have k2 := k.rowCap (ids.length + 1) (by omega) (zs := ints (ids.take ids.length ++ n :: ids.drop ids.length)) (by
            rw [← ints_ins, hZi]
            rw [List.drop_of_length_le (l := ints ids) (i := ids.length) (by omega)]
            exact List.take_left' (by simp only [List.length_append, List.length_take, List.length_cons, List.length_nil]; omega))
          show Hp o _ (rowT 3 1 _ (ids.take ids.length ++ n :: ids.drop ids.length).length _ :: l)
          rw [hlen, Nat.zero_add]
          exact k2
      · refine (Any2.slices_Insert_int_shift Try.laysNm221 g 0 ids.length c i w.heap.size 0 1 1 (ints ids) [.int .i64 n] _ (by omega) (by decide) (by omega) h2 (by omega) hcl rfl hcs (fun j hj => ?_) (fun j hj => ?_) hvs (ints_one ids) h1v 3 3 1 (ints ids ++ ys).length ?_ ?_ (by omega) ?_ ?_).mono ?_
        · rw [Nat.zero_add]
          simp only [World.cell?, f5]
          simp
          rw [List.length_append] at hZ
          omega
        · simp only [World.frozen?, f5]
          simp
        · simp only [World.shape?, heap_alloc_new]
          rfl
        · simp only [World.shape?, f5]
          simp
        · simp only [World.frozen?, heap_alloc_new]
          rfl
        · simp only [World.frozen?, heap_alloc_new]
          rfl
        · rintro e w' ⟨rfl, rfl⟩
          refine ⟨g, c, rfl, ?_⟩
          have k1 := (hF.bel ((Below.refl _ _).drew)).rowCells ((ints ids).drop i) (i + 1) (by rw [List.length_drop, hcl]; omega)
          have hl1 : ((ints ids ++ ys).take (i + 1) ++ (ints ids).drop i ++ (ints ids ++ ys).drop (i + 1 + ((ints ids).drop i).length)).length = (ints ids ++ ys).length := by
            simp only [List.length_append, List.length_take, List.length_drop, hcl] at hZ ⊢
            omega
          have k2 := k1.rowCells [.int .i64 n] i (by rw [hl1]; simp only [List.length_cons, List.length_nil]; omega)
          have k3 := k2.rowCap (ids.length + 1) (by omega) (zs := ints (ids.take i ++ n :: ids.drop i)) (by
            rw [← ints_ins, Nat.mul_one]
            exact ins_a (ints ids ++ ys) (ints ids) (.int .i64 n) i ids.length hcl hi hZ hZi)
          show Hp o _ (rowT 3 1 _ (ids.take i ++ n :: ids.drop i).length _ :: l)
          rw [hlen, Nat.zero_add, Nat.zero_add]
          exact k3
/-- slices.Delete of one number. -/
theorem delete_calls (h : Hp o w (rowI (.slice (some ⟨g, 0, none⟩) ids.length c) ids :: l)) (hw : Below w.heap.size w wb) (i : Nat) (hi : i < ids.length) :
    Calls Try.prog 39 #[.slice (some ⟨g, 0, none⟩) ids.length c, .int .i64 i, .int .i64 ((i + 1 : Nat) : Int)] wb fun e w' => e = .returned (.slice (some ⟨g, 0, none⟩) (ids.take i ++ ids.drop (i + 1)).length c) ∧ Hp o w' (rowI (.slice (some ⟨g, 0, none⟩) (ids.take i ++ ids.drop (i + 1)).length c) (ids.take i ++ ids.drop (i + 1)) :: l) := by
  have hb := h.bel hw
  obtain ⟨h1, h2⟩ : ids.length ≤ c ∧ c ≤ 9223372036854775807 := by
    rcases rowI_form hb with ⟨e, -⟩ | ⟨g', c', e, h1, h2⟩
    · injection e with e; cases e
    · injection e with e1 e2 e3
      subst e3
      exact ⟨h1, h2⟩
  have hlen : (ids.take i ++ ids.drop (i + 1)).length = ids.length - (i + 1 - i) := by
    rw [List.length_append, List.length_take, List.length_drop]; omega
  refine (Any.slices_Delete_int_cells Try.laysNm223 g 0 ids.length c i (i + 1) ids wb (Nat.le_refl _) h1 h2 (Nat.le_succ _) hi (fun j hj => by rw [Nat.zero_add]; exact rowI_at hb hj) (fun j hj => Hp.rowFrozen hb _)).mono ?_
  rintro e w' ⟨rfl, q, rfl⟩
  refine ⟨by rw [hlen], ?_⟩
  rw [List.take_length]
  have hl : ((ids.take i ++ ids.drop (i + 1) ++ List.replicate (i + 1 - i) 0).map (Value.int .i64)).length = ids.length := by
    rw [List.length_map, List.length_append, hlen, List.length_replicate]; omega
  have k := (hb.bel (drewN_below wb q)).rowCells ((ids.take i ++ ids.drop (i + 1) ++ List.replicate (i + 1 - i) 0).map (Value.int .i64)) 0 (by rw [hl, ints_len]; omega)
  have k2 := Hp.rowCut k (ids.take i ++ ids.drop (i + 1)).length (by rw [hlen]; omega)
  have e2 : ((ints ids).take 0 ++ (ids.take i ++ ids.drop (i + 1) ++ List.replicate (i + 1 - i) 0).map (Value.int .i64) ++ (ints ids).drop (0 + ((ids.take i ++ ids.drop (i + 1) ++ List.replicate (i + 1 - i) 0).map (Value.int .i64)).length)).take ((ids.take i ++ ids.drop (i + 1)).length * 1) = ints (ids.take i ++ ids.drop (i + 1)) := by
    rw [List.take_zero, List.nil_append, hl, List.drop_of_length_le (l := ints ids) (by rw [ints_len]; omega), List.append_nil, List.map_append, Nat.mul_one]
    exact List.take_left' (List.length_map _)
  rw [e2] at k2
  exact k2
end
end Go.Proofs.Ytnmncjeplfkdpaa.Qa
/- Package prefix: tell of the beginnings. Conditions: bounds. -/
namespace Go.Proofs.Ytnmncjeplfkdpaa.Qa
set_option linter.unusedVariables false
set_option linter.unusedSimpArgs false
open Go.ChangeShapes Go.WideShapes Go.ChangeAt Go.RowKit Go.Maps Go.WideMaps
open Ka
open Sp (Th Hp Stays All cellsT rowT exT puT star mapT setG Sl)
theorem lo_len {ids : List Int} {n : Int} : (loI n ids).length ≤ ids.length := List.length_filter_le _ _
theorem with_out {ids : List Int} {n : Int} (hu : Up ids) (h : n ∉ ids) : ids.take (loI n ids).length ++ n :: ids.drop (loI n ids).length = withI n ids := by
  have e := split_out hu h
  have h1 : ids.take (loI n ids).length = loI n ids := by conv => lhs; arg 2; rw [e]
                                                          exact List.take_left
  have h2 : ids.drop (loI n ids).length = hiI n ids := by conv => lhs; arg 2; rw [e]
                                                          exact List.drop_left
  rw [h1, h2]; rfl
theorem less_at {ids : List Int} {n : Int} (hu : Up ids) (h : n ∈ ids) : (loI n ids).length < ids.length ∧ ids.take (loI n ids).length ++ ids.drop ((loI n ids).length + 1) = lessI n ids := by
  have e := split_in hu h
  have h0 : (loI n ids).length < ids.length := by
    have := congrArg List.length e
    rw [List.length_append, List.length_cons] at this; omega
  have h1 : ids.take (loI n ids).length = loI n ids := by conv => lhs; arg 2; rw [e]
                                                          exact List.take_left
  have h2 : ids.drop ((loI n ids).length + 1) = hiI n ids := by
    conv => lhs; arg 2; rw [e]
    rw [← List.drop_drop, List.drop_left]; rfl
  exact ⟨h0, by rw [h1, h2, less_in hu h]⟩
def rv (R M : Nat) : Value := .agg #[ptr R, .map (some M)]
theorem keys_mid (A B : Rows) (k : ByteArray) (x y : List Int) : keysL (A ++ (k, x) :: B) = keysL (A ++ (k, y) :: B) := by
  unfold keysL
  rw [List.map_append, List.map_append, List.map_cons, List.map_cons]
theorem len_mid (A B : Rows) (k : ByteArray) (x y : List Int) : (A ++ (k, x) :: B).length = (A ++ (k, y) :: B).length := by
  rw [List.length_append, List.length_append, List.length_cons, List.length_cons]
theorem keys_len (S : Rows) : (keysL S).length = S.length := List.length_map _
theorem mem_keys_mid {A B : Rows} {k x : ByteArray} {ids : List Int} : x ∈ keysL (A ++ (k, ids) :: B) ↔ x = k ∨ x ∈ keysL (A ++ (k, ids) :: B) := by
  refine ⟨.inr, fun h => h.elim (fun e => ?_) id⟩
  subst e
  unfold keysL
  rw [List.map_append, List.map_cons]
  exact List.mem_append.2 (.inr (List.mem_cons_self ..))
theorem look_slice {LA LB : Kl} {k : ByteArray} {g n c : Nat} (hm : Mid k (slL LA) (slL LB)) : elS.enc ((lookL (slL LA ++ (k, ⟨some ⟨g, 0, none⟩, n, c⟩) :: slL LB) k).getD elS.zero) = .slice (some ⟨g, 0, none⟩) n c := by rw [look_mid hm]; rfl
section
variable {o w w' wb : World} {l : List Th} {v : Value} {ids : List Int} {R M N : Nat} {S A B : Rows} {k : ByteArray}
set_option maxHeartbeats 8000000 in
set_option maxRecDepth 100000 in
theorem tell_there (h : Hp o w (rowsT R M (A ++ (k, ids) :: B) N :: l)) (hw : Below w.heap.size w wb) (hk : k.size ≤ 140737488351232) (hl : ids.length ≤ 1000000) (n : Int) (hin : n ∈ ids) :
    Calls Try.prog 23 #[rv R M, .string k, .int .i64 n] wb fun e w' => e = .returned (.bool false) ∧ Hp o w' (rowsT R M (A ++ (k, ids) :: B) N :: l) := by
  have hok := rows_ok h
  have hu : Up ids := hok.up (k, ids) (List.mem_append.2 (.inr (List.mem_cons_self ..)))
  have hmx : k.size ≤ maxLen := by unfold maxLen; omega
  obtain ⟨LA, LB, g, c, cm, hA, hB, hc, h⟩ := rows_mid h
  have hms := mid_sl hok.mid hA hB
  have H0 := Lib.hid ((h.bel hw).cellsNew [ptr R, .map (some M)] 53)
  have HBS : Hid (∀ (v : Value) (W : World) (ll : List Th), Hp o W (rowI v ids :: ll) → Calls Try.prog 36 #[v, .int .i64 n] W fun e w' => e = .returned (.tuple #[.int .i64 ((loI n ids).length : Nat), .bool (decide (n ∈ ids))]) ∧ Below W.heap.size W w') := Lib.hid (fun v W ll hh => bs_calls hh (Below.refl _ _) hu hl n)
  rw [decide_eq_true hin] at HBS
  have HKs := Lib.hid hmx
  have HLs := Lib.hid (look_slice (g := g) (n := ids.length) (c := c) hms)
  have HF : Hid (∀ W : World, Hp o W (rowI (.slice (some ⟨g, 0, none⟩) ids.length c) ids :: mapT 9 elS M (A ++ (k, ids) :: B).length cm (lookL (slL LA ++ (k, ⟨some ⟨g, 0, none⟩, ids.length, c⟩) :: slL LB)) :: recT R (keysL (A ++ (k, ids) :: B)) :: star ((LA ++ LB).map rowK) :: l) → Hp o W (rowsT R M (A ++ (k, ids) :: B) N :: l)) := Lib.hid (fun W hh => rows_back hA hB hc hok rfl hh)
  clear h hw hms hA hB hu hok hin hmx
  generalize (LA ++ LB).map rowK = SK at *
  generalize (A ++ (k, ids) :: B).length = n1 at *
  generalize keysL (A ++ (k, ids) :: B) = K1 at *
  generalize A ++ (k, ids) :: B = FR at *
  generalize lookL (slL LA ++ (k, ⟨some ⟨g, 0, none⟩, ids.length, c⟩) :: slL LB) = G1 at *
  generalize (loI n ids).length = p at *
  unfold rv ptr at *
  go_enter Try.func23, Try.ntmps23
  have H0 : Hid (Hp o (wb.alloc (.cells #[.pointer (some ⟨R, 0, none⟩), .map (some M)] 53)) (cellsT wb.heap.size [.pointer (some ⟨R, 0, none⟩), .map (some M)] :: rowI (.slice (some ⟨g, 0, none⟩) ids.length c) ids :: mapT 9 elS M n1 cm G1 :: recT R K1 :: star SK :: l)) := H0
  go_upto_region 1 with fail
  generalize wb.alloc (.cells #[.pointer (some ⟨R, 0, none⟩), .map (some M)] 53) = W0 at *
  generalize wb.heap.size = BX at *
  have c1 := H0.out.cell 1 rfl
  have hlk := Sp.Hp.mapLook (T := 51) (H0.out.pull 2 rfl) Try.underlying9 Try.underlying51 k HKs.out
  rw [HLs.out] at hlk
  have HB := Lib.hid (HBS.out _ _ _ (H0.out.pull 1 rfl))
  go_wp2_with fail
  refine HB.out.mono ?_; rintro en w1 ⟨rfl, hb1⟩
  have H1 := Lib.hid (H0.out.bel hb1)
  clear hb1 HB H0 c1 hlk
  go_wp2_with fail
  go_ret
  exact ⟨rfl, HF.out _ (H1.out.dropAt 0 rfl)⟩
set_option maxHeartbeats 8000000 in
set_option maxRecDepth 100000 in
theorem tell_in (h : Hp o w (rowsT R M (A ++ (k, ids) :: B) N :: l)) (hw : Below w.heap.size w wb) (hk : k.size ≤ 140737488351232) (hl : ids.length ≤ 1000000) (hS : (A ++ (k, ids) :: B).length ≤ 1000) (hN : N ≤ 1000000000) (n : Int) (hn : (Lit.int .i64 n).wf = true) (hin : n ∉ ids) :
    Calls Try.prog 23 #[rv R M, .string k, .int .i64 n] wb fun e w' => e = .returned (.bool true) ∧ Hp o w' (rowsT R M (A ++ (k, withI n ids) :: B) (N + 1) :: l) := by
  have hok := rows_ok h
  have hu : Up ids := hok.up (k, ids) (List.mem_append.2 (.inr (List.mem_cons_self ..)))
  have hmx : k.size ≤ maxLen := by unfold maxLen; omega
  obtain ⟨LA, LB, g, c, cm, hA, hB, hc, h⟩ := rows_mid h
  have hm := hok.mid
  have hms := mid_sl hm hA hB
  have H0 := Lib.hid ((h.bel hw).cellsNew [ptr R, .map (some M)] 53)
  have HBS : Hid (∀ (v : Value) (W : World) (ll : List Th), Hp o W (rowI v ids :: ll) → Calls Try.prog 36 #[v, .int .i64 n] W fun e w' => e = .returned (.tuple #[.int .i64 ((loI n ids).length : Nat), .bool (decide (n ∈ ids))]) ∧ Below W.heap.size W w') := Lib.hid (fun v W ll hh => bs_calls hh (Below.refl _ _) hu hl n)
  rw [decide_eq_false hin] at HBS
  have HKs := Lib.hid hmx
  have HKm := Lib.hid hk
  have HLs := Lib.hid (look_slice (g := g) (n := ids.length) (c := c) hms)
  have HI : Hid (∀ (W : World) (ll : List Th), Hp o W (rowI (.slice (some ⟨g, 0, none⟩) ids.length c) ids :: ll) → Calls Try.prog 37 #[.slice (some ⟨g, 0, none⟩) ids.length c, .int .i64 (loI n ids).length, .slice (some ⟨W.heap.size, 0, none⟩) 1 1] (W.alloc (.cells #[.int .i64 n] 3)).drew fun e w' => ∃ g c, e = .returned (.slice (some ⟨g, 0, none⟩) (withI n ids).length c) ∧ Hp o w' (rowI (.slice (some ⟨g, 0, none⟩) (withI n ids).length c) (withI n ids) :: ll)) := Lib.hid (fun W ll hh => by
    have := insert_calls (hh.bel (Below.refl _ _).drew) hl (loI n ids).length lo_len n
    rw [← ins_len ids n (lo_len (ids := ids) (n := n)), with_out hu hin] at this
    exact this)
  have HPut : Hid (∀ (W : World) (ll : List Th) (g' c' : Nat), Hp o W (mapT 9 elS M (A ++ (k, ids) :: B).length cm (lookL (slL LA ++ (k, ⟨some ⟨g, 0, none⟩, ids.length, c⟩) :: slL LB)) :: ll) → ∃ w', (Instr.mapUpdate 51 (.map (some M)) (.string k) (.slice (some ⟨g', 0, none⟩) (withI n ids).length c')).run Try.prog W = .ok () w' ∧ Hp o w' (mapT 9 elS M (A ++ (k, ids) :: B).length (cm + 1) (lookL (slL LA ++ (k, ⟨some ⟨g', 0, none⟩, (withI n ids).length, c'⟩) :: slL LB)) :: ll)) := Lib.hid (fun W ll g' c' hh => by
    obtain ⟨w9, h1, h2⟩ := hh.mapPutRun (T := 51) Try.underlying9 Try.underlying51 k hmx ⟨some ⟨g', 0, none⟩, (withI n ids).length, c'⟩ True.intro (by unfold maxLen; omega) (A ++ (k, ids) :: B).length (by rw [look_mid hms]; rfl)
    rw [set_mid hms] at h2
    exact ⟨w9, h1, h2⟩)
  have hwf : ∀ x ∈ withI n ids, (Lit.int .i64 x).wf = true := fun x hx => by
    rcases mem_with.1 hx with e | hx
    · rw [e]; exact hn
    · exact hok.wf (k, ids) (List.mem_append.2 (.inr (List.mem_cons_self ..))) x hx
  have HF : Hid (∀ (W : World) (g' c' : Nat), Hp o W (rowI (.slice (some ⟨g', 0, none⟩) (withI n ids).length c') (withI n ids) :: mapT 9 elS M (A ++ (k, ids) :: B).length (cm + 1) (lookL (slL LA ++ (k, ⟨some ⟨g', 0, none⟩, (withI n ids).length, c'⟩) :: slL LB)) :: recT R (keysL (A ++ (k, ids) :: B)) :: star ((LA ++ LB).map rowK) :: l) → Hp o W (rowsT R M (A ++ (k, withI n ids) :: B) (N + 1) :: l)) := Lib.hid (fun W g' c' hh => by
    rw [keys_mid A B k ids (withI n ids)] at hh
    exact rows_back hA hB (by omega) (hok.put (up_with hu) (by unfold withI; simp) hwf) (len_mid A B k _ _) hh)
  have HT : Hid (∀ (W : World) (ll : List Th), Hp o W (recT R (keysL (A ++ (k, ids) :: B)) :: ll) → Calls Try.prog 38 #[.pointer (some ⟨R, 0, none⟩), .string k, .int .i64 0] W fun e w' => (∃ b : Bool, e = .returned (.bool b)) ∧ Hp o w' (recT R (keysL (A ++ (k, ids) :: B)) :: ll)) := Lib.hid (fun W ll hh => rk_put hh (Below.refl _ _) k hk (by rw [keys_len]; exact hS) _ fun x => mem_keys_mid)
  have HG3 : ∃ G3 : Nat → Nat → ByteArray → Option Sl, Hid (∀ g' c', lookL (slL LA ++ (k, ⟨some ⟨g', 0, none⟩, (withI n ids).length, c'⟩) :: slL LB) = G3 g' c') := ⟨_, Lib.hid (fun _ _ => rfl)⟩
  obtain ⟨G3, HG3⟩ := HG3
  simp only [HG3.out] at HPut HF
  clear HG3 h hw hm hms hA hB hu hok hwf hin hmx hS
  generalize (LA ++ LB).map rowK = SK at *
  generalize A ++ (k, withI n ids) :: B = FR at *
  generalize (A ++ (k, ids) :: B).length = n1 at *
  generalize keysL (A ++ (k, ids) :: B) = K1 at *
  generalize lookL (slL LA ++ (k, ⟨some ⟨g, 0, none⟩, ids.length, c⟩) :: slL LB) = G1 at *
  generalize withI n ids = D at *
  generalize (loI n ids).length = p at *
  unfold rv ptr at *
  go_enter Try.func23, Try.ntmps23
  have H0 : Hid (Hp o (wb.alloc (.cells #[.pointer (some ⟨R, 0, none⟩), .map (some M)] 53)) (cellsT wb.heap.size [.pointer (some ⟨R, 0, none⟩), .map (some M)] :: rowI (.slice (some ⟨g, 0, none⟩) ids.length c) ids :: mapT 9 elS M n1 cm G1 :: recT R K1 :: star SK :: l)) := H0
  go_upto_region 1 with fail
  generalize wb.alloc (.cells #[.pointer (some ⟨R, 0, none⟩), .map (some M)] 53) = W0 at *
  generalize wb.heap.size = BX at *
  have c1 := H0.out.cell 1 rfl
  have hlk := Sp.Hp.mapLook (T := 51) (H0.out.pull 2 rfl) Try.underlying9 Try.underlying51 k HKs.out
  rw [HLs.out] at hlk
  have HB := Lib.hid (HBS.out _ _ _ (H0.out.pull 1 rfl))
  go_wp2_with fail
  refine HB.out.mono ?_; rintro en w1 ⟨rfl, hb1⟩
  have H1 := Lib.hid (H0.out.bel hb1)
  clear hb1 HB H0 c1 hlk
  go_wp2_with fail
  have S1 : Hid (w1.drew.cell? ⟨BX, 1, none⟩ = some (.map (some M))) := Lib.hid ((H1.out.bel (Below.refl _ _).drew).cell 1 rfl)
  have S0 : Hid (∀ O, (w1.alloc O).drew.cell? ⟨BX, 1, none⟩ = some (.map (some M))) := Lib.hid (fun O => (H1.out.bel (Sp.bbox O).drew).cell 1 rfl)
  have HE := Lib.hid (HI.out _ _ (H1.out.pull 1 rfl))
  go_region_held3 (fun W : World => W.cell? ⟨BX, 1, none⟩ = some (.map (some M)))
    (first | exact S1.out | exact S0.out _ | exact S2.out | exact S3.out)
    (first
      | (go_at_call 37; with_reducible refine HE.out.mono ?_; rintro en8 w8 ⟨g', c', rfl, h8⟩; obtain ⟨w9, hr9, h9⟩ := HPut.out _ _ g' c' (h8.pull 2 rfl); have S2 : Hid (w8.cell? ⟨BX, 1, none⟩ = some (.map (some M))) := Lib.hid ((h8.pull 1 rfl).cell 1 rfl); have S3 : Hid (w9.cell? ⟨BX, 1, none⟩ = some (.map (some M))) := Lib.hid ((h9.pull 2 rfl).cell 1 rfl); have H9 := Lib.hid h9; clear h8 h9))
  all_goals (
    have H9 : Hid (Hp o w9 (mapT 9 elS M n1 (cm + 1) (G3 g' c') :: rowI (.slice (some ⟨g', 0, none⟩) D.length c') D :: cellsT BX [.pointer (some ⟨R, 0, none⟩), .map (some M)] :: recT R K1 :: star SK :: l)) := H9
    clear HE S1 S2 S0 H1 hr9
    have c0 := (H9.out.pull 2 rfl).cell 0 rfl
    have HTT := Lib.hid (HT.out _ _ (H9.out.pull 3 rfl))
    go_wp2_with fail
    refine HTT.out.mono ?_; rintro en w10 ⟨⟨b10, rfl⟩, h10⟩
    have H10 : Hid (Hp o w10 (recT R K1 :: mapT 9 elS M n1 (cm + 1) (G3 g' c') :: rowI (.slice (some ⟨g', 0, none⟩) D.length c') D :: cellsT BX [.pointer (some ⟨R, 0, none⟩), .map (some M)] :: star SK :: l)) := Lib.hid h10
    clear h10 HTT H9 c0
    go_wp2_with fail
    go_ret
    exact ⟨rfl, HF.out _ _ _ ((H10.out.dropAt 3 rfl).sel [2, 1, 0] rfl)⟩)
end
end Go.Proofs.Ytnmncjeplfkdpaa.Qa
/- Package prefix: tell of a new beginning; part. Conditions: bounds. -/
namespace Go.Proofs.Ytnmncjeplfkdpaa.Qa
set_option linter.unusedVariables false
set_option linter.unusedSimpArgs false
open Go.ChangeShapes Go.WideShapes Go.ChangeAt Go.RowKit Go.Maps Go.WideMaps
open Ka
open Sp (Th Hp Stays All cellsT rowT exT puT star mapT setG Sl)
section
variable {o w w' wb : World} {l : List Th} {v : Value} {ids : List Int} {R M N : Nat} {S A B : Rows} {k : ByteArray}
set_option maxHeartbeats 8000000 in
set_option maxRecDepth 100000 in
theorem tell_new (h : Hp o w (rowsT R M S N :: l)) (hw : Below w.heap.size w wb) (hk : k.size ≤ 140737488351232) (hS : S.length ≤ 1000) (hN : N ≤ 1000000000) (hin : k ∉ keysL S) (n : Int) (hn : (Lit.int .i64 n).wf = true) :
    Calls Try.prog 23 #[rv R M, .string k, .int .i64 n] wb fun e w' => e = .returned (.bool true) ∧ Hp o w' (rowsT R M (S ++ [(k, [n])]) (N + 1) :: l) := by
  obtain ⟨L, cm, h1, hok, hcm, h⟩ := rows_open h
  have hmx : k.size ≤ maxLen := by unfold maxLen; omega
  have hkl : k ∉ keysL (slL L) := by rw [plain_keys, h1]; exact hin
  have H0 := Lib.hid ((h.bel hw).cellsNew [ptr R, .map (some M)] 53)
  have HBS : Hid (∀ (W : World) (ll : List Th), Hp o W ll → Calls Try.prog 36 #[.slice none 0 0, .int .i64 n] W fun e w' => e = .returned (.tuple #[.int .i64 0, .bool false]) ∧ Below W.heap.size W w') := Lib.hid (fun W ll hh => bs_calls (ids := []) (hh.rowNil 3 1) (Below.refl _ _) List.Pairwise.nil (by decide) n)
  have HKs := Lib.hid hmx
  have HLs : Hid (elS.enc ((lookL (slL L) k).getD elS.zero) = .slice none 0 0) := Lib.hid (by rw [look_none hkl]; rfl)
  have HI : Hid (∀ (W : World) (ll : List Th), Hp o W ll → Calls Try.prog 37 #[.slice none 0 0, .int .i64 0, .slice (some ⟨W.heap.size, 0, none⟩) 1 1] (W.alloc (.cells #[.int .i64 n] 3)).drew fun e w' => ∃ g c, e = .returned (.slice (some ⟨g, 0, none⟩) 1 c) ∧ Hp o w' (rowI (.slice (some ⟨g, 0, none⟩) 1 c) [n] :: ll)) := Lib.hid (fun W ll hh => insert_calls (ids := []) ((hh.bel (Below.refl _ _).drew).rowNil 3 1) (by decide) 0 (Nat.le_refl _) n)
  have HPut : Hid (∀ (W : World) (ll : List Th) (g' c' : Nat), Hp o W (mapT 9 elS M S.length cm (lookL (slL L)) :: ll) → ∃ w', (Instr.mapUpdate 51 (.map (some M)) (.string k) (.slice (some ⟨g', 0, none⟩) 1 c')).run Try.prog W = .ok () w' ∧ Hp o w' (mapT 9 elS M (S ++ [(k, [n])]).length (cm + 1) (lookL (slL L ++ [(k, ⟨some ⟨g', 0, none⟩, 1, c'⟩)])) :: ll)) := Lib.hid (fun W ll g' c' hh => by
    obtain ⟨w9, h1, h2⟩ := hh.mapPutRun (T := 51) Try.underlying9 Try.underlying51 k hmx ⟨some ⟨g', 0, none⟩, 1, c'⟩ True.intro (by unfold maxLen; omega) (S ++ [(k, [n])]).length (by rw [look_none hkl, List.length_append]; rfl)
    rw [set_new hkl] at h2
    exact ⟨w9, h1, h2⟩)
  have HF : Hid (∀ (W : World) (g' c' : Nat), Hp o W (rowI (.slice (some ⟨g', 0, none⟩) 1 c') [n] :: mapT 9 elS M (S ++ [(k, [n])]).length (cm + 1) (lookL (slL L ++ [(k, ⟨some ⟨g', 0, none⟩, 1, c'⟩)])) :: recT R (keysL (S ++ [(k, [n])])) :: star (L.map rowK) :: l) → Hp o W (rowsT R M (S ++ [(k, [n])]) (N + 1) :: l)) := Lib.hid (fun W g' c' hh => by
    refine rows_back (LA := L) (LB := []) (A := S) (B := []) (ids := [n]) (g := g') (c := c') h1 rfl (by omega : cm + 1 ≤ N + 1) (hok.new hin hmx hn) rfl ?_
    rw [List.append_nil]
    exact hh)
  have HT : Hid (∀ (W : World) (ll : List Th), Hp o W (recT R (keysL S) :: ll) → Calls Try.prog 38 #[.pointer (some ⟨R, 0, none⟩), .string k, .int .i64 0] W fun e w' => (∃ b : Bool, e = .returned (.bool b)) ∧ Hp o w' (recT R (keysL (S ++ [(k, [n])])) :: ll)) := Lib.hid (fun W ll hh => rk_put hh (Below.refl _ _) k hk (by rw [keys_len]; exact hS) _ fun x => by
    unfold keysL
    rw [List.map_append, List.mem_append]
    show _ ∨ x ∈ [k] ↔ _
    rw [List.mem_singleton]
    exact or_comm)
  have HG3 : ∃ G3 : Nat → Nat → ByteArray → Option Sl, Hid (∀ g' c', lookL (slL L ++ [(k, ⟨some ⟨g', 0, none⟩, 1, c'⟩)]) = G3 g' c') := ⟨_, Lib.hid (fun _ _ => rfl)⟩
  obtain ⟨G3, HG3⟩ := HG3
  simp only [HG3.out] at HPut HF
  clear HG3 h hw hkl hin hok h1 hmx hS
  generalize L.map rowK = SK at *
  generalize lookL (slL L) = G1 at *
  generalize keysL (S ++ [(k, [n])]) = K2 at *
  generalize (S ++ [(k, [n])]).length = n2 at *
  generalize S ++ [(k, [n])] = FR at *
  generalize keysL S = K1 at *
  generalize S.length = n1 at *
  unfold rv ptr at *
  go_enter Try.func23, Try.ntmps23
  have H0 : Hid (Hp o (wb.alloc (.cells #[.pointer (some ⟨R, 0, none⟩), .map (some M)] 53)) (cellsT wb.heap.size [.pointer (some ⟨R, 0, none⟩), .map (some M)] :: recT R K1 :: mapT 9 elS M n1 cm G1 :: star SK :: l)) := H0
  go_upto_region 1 with fail
  generalize wb.alloc (.cells #[.pointer (some ⟨R, 0, none⟩), .map (some M)] 53) = W0 at *
  generalize wb.heap.size = BX at *
  have c1 := H0.out.cell 1 rfl
  have hlk := Sp.Hp.mapLook (T := 51) (H0.out.pull 2 rfl) Try.underlying9 Try.underlying51 k HKs.out
  rw [HLs.out] at hlk
  have HB := Lib.hid (HBS.out _ _ H0.out)
  go_wp2_with fail
  refine HB.out.mono ?_; rintro en w1 ⟨rfl, hb1⟩
  have H1 := Lib.hid (H0.out.bel hb1)
  clear hb1 HB H0 c1 hlk
  go_wp2_with fail
  have S1 : Hid (w1.drew.cell? ⟨BX, 1, none⟩ = some (.map (some M))) := Lib.hid ((H1.out.bel (Below.refl _ _).drew).cell 1 rfl)
  have S0 : Hid (∀ O, (w1.alloc O).drew.cell? ⟨BX, 1, none⟩ = some (.map (some M))) := Lib.hid (fun O => (H1.out.bel (Sp.bbox O).drew).cell 1 rfl)
  have HE := Lib.hid (HI.out _ _ H1.out)
  go_region_held3 (fun W : World => W.cell? ⟨BX, 1, none⟩ = some (.map (some M)))
    (first | exact S1.out | exact S0.out _ | exact S2.out | exact S3.out)
    (first
      | (go_at_call 37; with_reducible refine HE.out.mono ?_; rintro en8 w8 ⟨g', c', rfl, h8⟩; obtain ⟨w9, hr9, h9⟩ := HPut.out _ _ g' c' (h8.pull 3 rfl); have S2 : Hid (w8.cell? ⟨BX, 1, none⟩ = some (.map (some M))) := Lib.hid ((h8.pull 1 rfl).cell 1 rfl); have S3 : Hid (w9.cell? ⟨BX, 1, none⟩ = some (.map (some M))) := Lib.hid ((h9.pull 2 rfl).cell 1 rfl); have H9 := Lib.hid h9; clear h8 h9))
  all_goals (
    have H9 : Hid (Hp o w9 (mapT 9 elS M n2 (cm + 1) (G3 g' c') :: rowI (.slice (some ⟨g', 0, none⟩) 1 c') [n] :: cellsT BX [.pointer (some ⟨R, 0, none⟩), .map (some M)] :: recT R K1 :: star SK :: l)) := H9
    clear HE S1 S2 S0 H1 hr9
    have c0 := (H9.out.pull 2 rfl).cell 0 rfl
    have HTT := Lib.hid (HT.out _ _ (H9.out.pull 3 rfl))
    go_wp2_with fail
    refine HTT.out.mono ?_; rintro en w10 ⟨⟨b10, rfl⟩, h10⟩
    have H10 : Hid (Hp o w10 (recT R K2 :: mapT 9 elS M n2 (cm + 1) (G3 g' c') :: rowI (.slice (some ⟨g', 0, none⟩) 1 c') [n] :: cellsT BX [.pointer (some ⟨R, 0, none⟩), .map (some M)] :: star SK :: l)) := Lib.hid h10
    clear h10 HTT H9 c0
    go_wp2_with fail
    go_ret
    exact ⟨rfl, HF.out _ _ _ ((H10.out.dropAt 3 rfl).sel [2, 1, 0] rfl)⟩)
/-- tell. -/
theorem tell_calls (h : Hp o w (rowsT R M S N :: l)) (hw : Below w.heap.size w wb) (hk : k.size ≤ 140737488351232) (hS : S.length ≤ 1000) (hl : ∀ r ∈ S, r.2.length ≤ 1000000) (hN : N ≤ 1000000000) (n : Int) (hn : (Lit.int .i64 n).wf = true) :
    Calls Try.prog 23 #[rv R M, .string k, .int .i64 n] wb fun e w' => e = .returned (.bool (!decide (n ∈ idsR k S))) ∧ Hp o w' (rowsT R M (addR k n S) (N + 1) :: l) := by
  have hok := rows_ok h
  by_cases hin : k ∈ keysL S
  · obtain ⟨A, ids, B, rfl⟩ := key_split hin
    have hm : (k, ids) ∈ A ++ (k, ids) :: B := List.mem_append.2 (.inr (List.mem_cons_self ..))
    rw [add_mid hok.mid, ids_mid hok.mid]
    by_cases hn2 : n ∈ ids
    · rw [with_in (hok.up _ hm) hn2, decide_eq_true hn2]
      exact (tell_there h hw hk (hl _ hm) n hn2).mono fun e w' ⟨a, b⟩ => ⟨a, rows_more b (Nat.le_succ _)⟩
    · rw [decide_eq_false hn2]
      exact tell_in h hw hk (hl _ hm) hS hN n hn hn2
  · rw [add_new hin, ids_none hin, decide_eq_false List.not_mem_nil]
    exact tell_new h hw hk hS hN hin n hn
set_option maxHeartbeats 8000000 in
set_option maxRecDepth 100000 in
theorem part_calls (h : Hp o w (rowsT R M (A ++ (k, ids) :: B) N :: l)) (hw : Below w.heap.size w wb) (hk : k.size ≤ 140737488351232) (hl : ids.length ≤ 1000000) (hS : (A ++ (k, ids) :: B).length ≤ 1000) (hN : N ≤ 1000000000) (n : Int) (hin : n ∈ ids) :
    Calls Try.prog 24 #[rv R M, .string k, .int .i64 n] wb fun e w' => e = .returned (.tuple #[]) ∧ Hp o w' (rowsT R M (A ++ cutR n (k, ids) ++ B) (N + 1) :: l) := by
  have hok := rows_ok h
  have hmx : k.size ≤ maxLen := by unfold maxLen; omega
  obtain ⟨LA, LB, g, c, cm, hA, hB, hc, h⟩ := rows_mid h
  have hm := hok.mid
  have hms := mid_sl hm hA hB
  have hu : Up ids := hok.up (k, ids) (List.mem_append.2 (.inr (List.mem_cons_self ..)))
  have H0 := Lib.hid ((h.bel hw).cellsNew [ptr R, .map (some M)] 53)
  have HBS : Hid (∀ (v : Value) (W : World) (ll : List Th), Hp o W (rowI v ids :: ll) → Calls Try.prog 36 #[v, .int .i64 n] W fun e w' => e = .returned (.tuple #[.int .i64 ((loI n ids).length : Nat), .bool (decide (n ∈ ids))]) ∧ Below W.heap.size W w') := Lib.hid (fun v W ll hh => bs_calls hh (Below.refl _ _) hu hl n)
  have HKs := Lib.hid hmx
  have HLs := Lib.hid (look_slice (g := g) (n := ids.length) (c := c) hms)
  rw [decide_eq_true hin] at HBS
  obtain ⟨hp, hD⟩ := less_at hu hin
  have HDel : Hid (∀ (W : World) (ll : List Th), Hp o W (rowI (.slice (some ⟨g, 0, none⟩) ids.length c) ids :: ll) → Calls Try.prog 39 #[.slice (some ⟨g, 0, none⟩) ids.length c, .int .i64 (loI n ids).length, .int .i64 (((loI n ids).length : Int) + 1)] W fun e w' => e = .returned (.slice (some ⟨g, 0, none⟩) (lessI n ids).length c) ∧ Hp o w' (rowI (.slice (some ⟨g, 0, none⟩) (lessI n ids).length c) (lessI n ids) :: ll)) := Lib.hid (fun W ll hh => by
    have := delete_calls hh (Below.refl _ _) (loI n ids).length hp
    rw [hD, show (((loI n ids).length + 1 : Nat) : Int) = ((loI n ids).length : Int) + 1 by omega] at this
    exact this)
  have HPut : Hid (∀ (W : World) (ll : List Th), Hp o W (mapT 9 elS M (A ++ (k, ids) :: B).length cm (lookL (slL LA ++ (k, ⟨some ⟨g, 0, none⟩, ids.length, c⟩) :: slL LB)) :: ll) → ∃ w', (Instr.mapUpdate 51 (.map (some M)) (.string k) (.slice (some ⟨g, 0, none⟩) (lessI n ids).length c)).run Try.prog W = .ok () w' ∧ Hp o w' (mapT 9 elS M (A ++ (k, ids) :: B).length (cm + 1) (lookL (slL LA ++ (k, ⟨some ⟨g, 0, none⟩, (lessI n ids).length, c⟩) :: slL LB)) :: ll)) := Lib.hid (fun W ll hh => by
    obtain ⟨w9, h1, h2⟩ := hh.mapPutRun (T := 51) Try.underlying9 Try.underlying51 k hmx ⟨some ⟨g, 0, none⟩, (lessI n ids).length, c⟩ True.intro (by unfold maxLen; omega) (A ++ (k, ids) :: B).length (by rw [look_mid hms]; rfl)
    rw [set_mid hms] at h2
    exact ⟨w9, h1, h2⟩)
  have HLs2 := Lib.hid (look_slice (g := g) (n := (lessI n ids).length) (c := c) hms)
  have hless : ∀ x ∈ lessI n ids, (Lit.int .i64 x).wf = true := fun x hx => hok.wf (k, ids) (List.mem_append.2 (.inr (List.mem_cons_self ..))) x (mem_less.1 hx).1
  have HF1 : Hid (lessI n ids ≠ [] → ∀ W : World, Hp o W (rowI (.slice (some ⟨g, 0, none⟩) (lessI n ids).length c) (lessI n ids) :: mapT 9 elS M (A ++ (k, ids) :: B).length (cm + 1) (lookL (slL LA ++ (k, ⟨some ⟨g, 0, none⟩, (lessI n ids).length, c⟩) :: slL LB)) :: recT R (keysL (A ++ (k, ids) :: B)) :: star ((LA ++ LB).map rowK) :: l) → Hp o W (rowsT R M (A ++ cutR n (k, ids) ++ B) (N + 1) :: l)) := Lib.hid (fun hne W hh => by
    have e : A ++ cutR n (k, ids) ++ B = A ++ (k, lessI n ids) :: B := by
      unfold cutR
      rw [if_neg hne, List.append_assoc]; rfl
    rw [e]
    rw [keys_mid A B k ids (lessI n ids)] at hh
    exact rows_back hA hB (by omega) (hok.put (up_less hu) hne hless) (len_mid A B k _ _) hh)
  have HF2 : Hid (lessI n ids = [] → ∀ W : World, Hp o W (mapT 9 elS M (A ++ B).length (cm + 1) (lookL (slL LA ++ slL LB)) :: recT R (keysL (A ++ B)) :: star ((LA ++ LB).map rowK) :: l) → Hp o W (rowsT R M (A ++ cutR n (k, ids) ++ B) (N + 1) :: l)) := Lib.hid (fun he W hh => by
    have e : A ++ cutR n (k, ids) ++ B = A ++ B := by
      unfold cutR
      rw [if_pos he, List.append_nil]
    rw [e]
    refine rows_gone hA hB (by omega) ?_ rfl hh
    have := hok.take k
    rwa [take_mid hm] at this)
  have HT : Hid (∀ (W : World) (ll : List Th), Hp o W (recT R (keysL (A ++ (k, ids) :: B)) :: ll) → Calls Try.prog 40 #[.pointer (some ⟨R, 0, none⟩), .string k] W fun e w' => (∃ b : Bool, e = .returned (.bool b)) ∧ Hp o w' (recT R (keysL (A ++ B)) :: ll)) := Lib.hid (fun W ll hh => rk_drop hh (Below.refl _ _) k hk (by rw [keys_len]; exact hS) _ fun x => by
    have ha := hm.a
    have hb := hm.b
    unfold keysL at *
    rw [List.map_append, List.map_append, List.map_cons, List.mem_append, List.mem_append, List.mem_cons]
    constructor
    · rintro (h | h)
      · exact ⟨.inl h, fun e => ha (e ▸ h)⟩
      · exact ⟨.inr (.inr h), fun e => hb (e ▸ h)⟩
    · rintro ⟨h | h | h, hne⟩
      · exact .inl h
      · exact absurd h hne
      · exact .inr h)
  have HN : Hid ((A ++ (k, ids) :: B).length - (if (lookL (slL LA ++ (k, ⟨some ⟨g, 0, none⟩, (lessI n ids).length, c⟩) :: slL LB) k).isSome = true then 1 else 0) = (A ++ B).length) := Lib.hid (by
    rw [look_mid hms]
    show (A ++ (k, ids) :: B).length - (if true = true then 1 else 0) = _
    rw [if_pos rfl, List.length_append, List.length_append, List.length_cons]; omega)
  have HS := Lib.hid (set_del hms ⟨some ⟨g, 0, none⟩, (lessI n ids).length, c⟩)
  have hwr : IntKind.i64.wrap (((loI n ids).length : Int) + 1) = ((loI n ids).length : Int) + 1 := by rw [IntKind.wrap_i64]; omega
  have HDn : Hid (lessI n ids = [] ↔ (lessI n ids).length = 0) := Lib.hid List.length_eq_zero_iff.symm
  have hDl : (lessI n ids).length ≤ 1000000 := Nat.le_trans (less_len n ids) hl
  clear h hw hm hms hA hB hu hok hin hD hless hmx hS
  generalize (LA ++ LB).map rowK = SK at *
  generalize A ++ cutR n (k, ids) ++ B = FR at *
  generalize (A ++ B).length = n2 at *
  generalize (A ++ (k, ids) :: B).length = n1 at *
  generalize keysL (A ++ B) = K2 at *
  generalize keysL (A ++ (k, ids) :: B) = K1 at *
  generalize lookL (slL LA ++ slL LB) = G2 at *
  generalize lookL (slL LA ++ (k, ⟨some ⟨g, 0, none⟩, ids.length, c⟩) :: slL LB) = G1 at *
  generalize lookL (slL LA ++ (k, ⟨some ⟨g, 0, none⟩, (lessI n ids).length, c⟩) :: slL LB) = G3 at *
  generalize lessI n ids = D at *
  generalize (loI n ids).length = p at *
  unfold rv ptr at *
  go_enter Try.func24, Try.ntmps24
  have H0 : Hid (Hp o (wb.alloc (.cells #[.pointer (some ⟨R, 0, none⟩), .map (some M)] 53)) (cellsT wb.heap.size [.pointer (some ⟨R, 0, none⟩), .map (some M)] :: rowI (.slice (some ⟨g, 0, none⟩) ids.length c) ids :: mapT 9 elS M n1 cm G1 :: recT R K1 :: star SK :: l)) := H0
  go_upto_region 1 with fail
  generalize wb.alloc (.cells #[.pointer (some ⟨R, 0, none⟩), .map (some M)] 53) = W0 at *
  generalize wb.heap.size = BX at *
  have c1 := H0.out.cell 1 rfl
  have hlk := Sp.Hp.mapLook (T := 51) (H0.out.pull 2 rfl) Try.underlying9 Try.underlying51 k HKs.out
  rw [HLs.out] at hlk
  have HB := Lib.hid (HBS.out _ _ _ (H0.out.pull 1 rfl))
  go_wp2_with fail
  refine HB.out.mono ?_; rintro en w1 ⟨rfl, hb1⟩
  have H1 := Lib.hid (H0.out.bel (Sp.bstep hb1 (Below.refl _ _).drew))
  clear hb1 HB H0 c1 hlk
  go_wp2_with fail
  have S1 : Hid (w1.drew.cell? ⟨BX, 1, none⟩ = some (.map (some M))) := Lib.hid (H1.out.cell 1 rfl)
  have HE := Lib.hid (HDel.out _ _ (H1.out.pull 1 rfl))
  go_region_held3 (fun W : World => W.cell? ⟨BX, 1, none⟩ = some (.map (some M)))
    (first | exact S1.out | exact S2.out | exact S3.out)
    (first
      | (go_at_call 39; with_reducible refine HE.out.mono ?_; rintro en8 w8 ⟨rfl, h8⟩; obtain ⟨w9, hr9, h9⟩ := HPut.out _ _ (h8.pull 2 rfl); have S2 : Hid (w8.cell? ⟨BX, 1, none⟩ = some (.map (some M))) := Lib.hid ((h8.pull 1 rfl).cell 1 rfl); have S3 : Hid (w9.cell? ⟨BX, 1, none⟩ = some (.map (some M))) := Lib.hid ((h9.pull 2 rfl).cell 1 rfl); have H9 := Lib.hid h9; clear h8 h9))
  all_goals (
    have H9 : Hid (Hp o w9 (mapT 9 elS M n1 (cm + 1) G3 :: rowI (.slice (some ⟨g, 0, none⟩) D.length c) D :: cellsT BX [.pointer (some ⟨R, 0, none⟩), .map (some M)] :: recT R K1 :: star SK :: l)) := H9
    clear HE S1 S2 H1 hr9
    have c0 := (H9.out.pull 2 rfl).cell 0 rfl
    have c1 := (H9.out.pull 2 rfl).cell 1 rfl
    have hlk := Sp.Hp.mapLook (T := 51) H9.out Try.underlying9 Try.underlying51 k HKs.out
    rw [HLs2.out] at hlk
    by_cases hd : D = []
    · have hd0 : ((D.length : Int) == 0) = true := by rw [HDn.out.1 hd]; rfl
      have HF := Lib.hid (HF2.out hd)
      clear hd HF1 HF2 HPut HDel HBS HLs HLs2
      go_wp2_with (at_delete; refine Sp.Hp.mapDel H9.out rfl _ _ 51 _ rfl rfl Try.underlying9 Try.underlying51 rfl k rfl HKs.out n2 HN.out ?_)
      intro w10 h10
      rw [HS.out] at h10
      have H10 : Hid (Hp o w10 (mapT 9 elS M n2 (cm + 1) G2 :: rowI (.slice (some ⟨g, 0, none⟩) D.length c) D :: cellsT BX [.pointer (some ⟨R, 0, none⟩), .map (some M)] :: recT R K1 :: star SK :: l)) := Lib.hid h10
      clear h10 c0 c1 hlk H9
      have c0 := (H10.out.pull 2 rfl).cell 0 rfl
      have HTT := Lib.hid (HT.out _ _ (H10.out.pull 3 rfl))
      go_wp2_with fail
      refine HTT.out.mono ?_; rintro en w11 ⟨⟨b11, rfl⟩, h11⟩
      have H11 : Hid (Hp o w11 (recT R K2 :: mapT 9 elS M n2 (cm + 1) G2 :: rowI (.slice (some ⟨g, 0, none⟩) D.length c) D :: cellsT BX [.pointer (some ⟨R, 0, none⟩), .map (some M)] :: star SK :: l)) := Lib.hid h11
      clear h11 HTT H10
      go_wp2_with fail
      first | go_end0 | refine bodyPost_ret (results_none rfl _ _ _) rfl ?_
      exact ⟨rfl, HF.out _ (((H11.out.dropAt 3 rfl).dropAt 2 rfl).swap)⟩
    · have hd0 : ((D.length : Int) == 0) = false := by
        have : ¬ D.length = 0 := fun e => hd (HDn.out.2 e)
        rw [beq_eq_false_iff_ne]; omega
      have HF := Lib.hid (HF1.out hd)
      clear hd HF1 HF2 HT HPut HDel HBS
      go_wp2_with fail
      first | go_end0 | refine bodyPost_ret (results_none rfl _ _ _) rfl ?_
      exact ⟨rfl, HF.out _ ((H9.out.dropAt 2 rfl).swap)⟩)
end
end Go.Proofs.Ytnmncjeplfkdpaa.Qa
