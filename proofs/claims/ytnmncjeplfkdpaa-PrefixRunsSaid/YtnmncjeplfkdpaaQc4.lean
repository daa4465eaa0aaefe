/- Package prefix: rows of numbers and of texts, sorted, each once, copied; a row of the told beginnings at a key. Conditions: bounds. -/
import Derived.Test.YtnmncjeplfkdpaaQcA
import Derived.Test.YtnmncjeplfkdpaaMa1
import Derived.Sort.OwnSorted
import Derived.Shelf.Slices.In.SortNone
namespace Go.Proofs.Ytnmncjeplfkdpaa.Qa
set_option linter.unusedVariables false
set_option linter.unusedSimpArgs false
open Go.ChangeShapes Go.WideShapes Go.ChangeAt Go.RowKit Go.Maps Go.WideMaps Go.Sort
open Ka
open Sp (Th Hp Stays All cellsT rowT exT puT star mapT setG Sl nmapT setN)
open Ma (srt srt_len sort_srt tl)
/-- A row of its own, turned in its block. -/
theorem rowTurn {o w w' : World} {l : List Th} {e : TypeId} {size n m : Nat} {v v' : Value} {xs ys : List Value} (h : Hp o w (rowT e size v n xs :: l)) (hr : w'.ownsRow 0 e size v' m ys) (hv : v'.ownBlock = v.ownBlock) (hg : w.grownBy w' v.ownBlock) : Hp o w' (rowT e size v' m ys :: l) :=
  (h.moved (Below.refl _ _) (w' := w') (ts := [rowT e size v' m ys]) fun {A R} k hA hR hAR =>
    Sp.mvd1 (A' := A) ⟨fun x => by rw [hv]; exact k.1 x, hr⟩ ⟨hg.os, hg.tape, hg.output, hg.size, fun i hi hn => hg.block i hi fun e => hn ((k.1 i).2 e.symm)⟩ hR hAR fun x hx => .inl hx).1
abbrev eI : Int → Value := Value.int .i64
theorem holdsI {w : World} {g : Nat} {cur : Array Value} {e : TypeId} {ss : List Int} (hb : w.heap[g]? = some (.cells cur e (0, 0))) (ht : cur.toList.take ss.length = ss.map eI) : Holds eI w g 0 ss.toArray := by
  intro j hj
  have hj' : j < ss.length := by simpa using hj
  refine ⟨?_, by simp [World.frozen?, hb]⟩
  have h1 : (cur.toList.take ss.length)[j]? = (ss.map eI)[j]? := by rw [ht]
  rw [List.getElem?_take_of_lt hj'] at h1
  simp only [World.cell?, hb, Nat.zero_add]
  simp only [Option.isSome_none, Bool.false_eq_true, if_false]
  rw [← Array.getElem?_toList, h1]
  simp [hj']
theorem heapI {w : World} {g n : Nat} {os : Array Obj} {cur : Array Value} {e : TypeId} {fr : Nat × Nat} (d : Array Int) (hb : w.heap[g]? = some (.cells cur e fr)) :
    (grow (putRow eI (Sort.ahead w n) g 0 d) os).heap[g]? = some (.cells (putCells eI 0 d cur) e fr) := by
  have hg : g < w.heap.size := (Array.getElem?_eq_some_iff.1 hb).1
  rw [heap_grow_old _ _ (by simpa using hg)]
  simp [putRow, mapBlock, Sort.ahead, Array.getElem?_modify, hb, onCells]
theorem grownI {w : World} {g n : Nat} {os : Array Obj} (d : Array Int) : w.grownBy (grow (putRow eI (Sort.ahead w n) g 0 d) os) (some g) := by
  refine ⟨rfl, rfl, rfl, by simp, fun k hk hne => ?_⟩
  rw [heap_grow_old _ _ (by simpa using hk)]
  have : g ≠ k := fun e => hne (by rw [e])
  simp [putRow, mapBlock, Sort.ahead, Array.getElem?_modify, this]
theorem takeI (cur : Array Value) (ts : List Int) (h : ts.length ≤ cur.size) : (putCells eI 0 ts.toArray cur).toList.take ts.length = ts.map eI := by
  apply List.ext_getElem?
  intro j
  by_cases hj : j < ts.length
  · rw [List.getElem?_take_of_lt hj, Array.getElem?_toList]
    simp [putCells, hj, show j < cur.size by omega]
  · rw [List.getElem?_take_eq_none (by omega), List.getElem?_eq_none (by simp; omega)]
theorem ownsI {w : World} {base g cap n m : Nat} {e : TypeId} {os : Array Obj} {cur : Array Value} {ts : List Int} (hm : m ≤ ts.length) (hbase : base ≤ g) (hb : w.heap[g]? = some (.cells cur e (0, 0)))
    (h1 : ts.length ≤ cap) (h2 : cap ≤ maxLen) (h3 : cur.size = cap * 1) :
    (grow (putRow eI (Sort.ahead w n) g 0 ts.toArray) os).ownsRow base e 1 (.slice (some ⟨g, 0, none⟩) m cap) m ((ts.take m).map eI) := by
  refine ⟨by simp; omega, .inr ⟨g, cap, _, rfl, hbase, heapI _ hb, by omega, h2, by simp [putCells, h3], ?_⟩⟩
  have h := congrArg (List.take m) (takeI cur ts (by omega))
  rw [List.take_take, Nat.min_eq_left hm, ← List.map_take] at h
  rw [Nat.mul_one]; exact h
section
variable {o w w' wb : World} {l : List Th} {v : Value} {L : List Int}
/-- slices.Sort upon a row of numbers. -/
theorem sortI_calls (h : Hp o w (rowI v L :: l)) (hl : L.length ≤ 1000000) :
    Calls Try.prog 30 #[v] w fun e w' => e = .returned (.tuple #[]) ∧ Hp o w' (rowI v (L.mergeSort fun x y => decide (x ≤ y)) :: l) := by
  have hrow := Hp.row h
  rcases hrow.2 with ⟨rfl, hn⟩ | ⟨g, cap, cur, rfl, hbase, hb, h1, h2, h3, h4⟩
  · have e : L = [] := List.length_eq_zero_iff.1 hn
    subst e
    refine (Any.slices_Sort_int_none Try.lays189 none 0 w).mono ?_
    rintro e w' ⟨rfl, rfl⟩
    exact ⟨rfl, by rw [List.mergeSort_nil]; exact h⟩
  · have h5 : cur.toList.take L.length = L.map eI := by rw [← Nat.mul_one L.length, h4]; rfl
    have hg : g < w.heap.size := (Array.getElem?_eq_some_iff.1 hb).1
    refine (Any.slices_Sort_int Try.lays189 g 0 cap L w (holdsI hb h5) hg (by omega)).mono ?_
    rintro e w' ⟨rfl, n, os, rfl⟩
    refine ⟨rfl, ?_⟩
    have hlen : (L.mergeSort fun x y => decide (x ≤ y)).length = L.length := (List.mergeSort_perm _ _).length_eq
    have ho := ownsI (n := n) (os := os) (m := L.length) (ts := L.mergeSort fun x y => decide (x ≤ y)) (by omega) hbase hb (by omega) h2 h3
    rw [← hlen, List.take_length, hlen] at ho
    have hT := rowTurn h ho rfl (grownI _)
    unfold rowI
    rw [hlen]
    exact hT
/-- slices.Compact upon a row of numbers. -/
theorem compactI_calls (h : Hp o w (rowI v L :: l)) (hl : L.length ≤ 1000000) (hle : (Lib.compact L).length ≤ L.length) :
    Calls Try.prog 31 #[v] w fun e w' => ∃ v', e = .returned v' ∧ Hp o w' (rowI v' (Lib.compact L) :: l) := by
  have hrow := Hp.row h
  rcases hrow.2 with ⟨rfl, hn⟩ | ⟨g, cap, cur, rfl, hbase, hb, h1, h2, h3, h4⟩
  · have e : L = [] := List.length_eq_zero_iff.1 hn
    subst e
    refine (Any.slices_Compact_int_empty Try.laysNm220 none 0 w).mono ?_
    rintro e w' ⟨rfl, rfl⟩
    exact ⟨_, rfl, h⟩
  · have h5 : cur.toList.take L.length = L.map eI := by rw [← Nat.mul_one L.length, h4]; rfl
    refine (Any.slices_Compact_int Try.laysNm220 g 0 cap L w (holdsI hb h5) (by omega) h1).mono ?_
    rintro e w' ⟨rfl, q, rfl⟩
    refine ⟨_, rfl, ?_⟩
    have hgr : ∀ d : Array Int, Go.Sort.grow (Go.Sort.putRow eI (Go.Sort.ahead w q) g 0 d) #[] = Go.Sort.putRow eI (Go.Sort.ahead w q) g 0 d := fun d => Go.Sort.grow_empty _
    have hlen : (Lib.compact L ++ List.replicate (L.length - (Lib.compact L).length) 0).length = L.length := by simp; omega
    have ho := ownsI (n := q) (os := #[]) (m := (Lib.compact L).length) (ts := Lib.compact L ++ List.replicate (L.length - (Lib.compact L).length) 0) (by omega) hbase hb (by omega) h2 h3
    have hgb := grownI (w := w) (g := g) (n := q) (os := #[]) (Lib.compact L ++ List.replicate (L.length - (Lib.compact L).length) 0).toArray
    rw [hgr] at ho hgb
    rw [List.take_left' rfl] at ho
    exact rowTurn h ho rfl hgb
/-- slices.Sort upon a row of texts. -/
theorem sortS_calls {ps : List ByteArray} (h : Hp o w (rowS v ps :: l)) (hl : ps.length ≤ 1000000) :
    Calls Try.prog 34 #[v] w fun e w' => e = .returned (.tuple #[]) ∧ Hp o w' (rowS v (srt ps) :: l) := by
  have hrow := Hp.row h
  have enc : ∀ q : List ByteArray, strs q = (q.map tl).map encStr := fun q => by
    unfold strs
    rw [List.map_map]
    rfl
  rcases hrow.2 with ⟨rfl, hn⟩ | ⟨g, cap, cur, rfl, hbase, hb, h1, h2, h3, h4⟩
  · have e : ps = [] := List.length_eq_zero_iff.1 hn
    subst e
    refine (Any.slices_Sort_string_none Try.lays190 none 0 w).mono ?_
    rintro e w' ⟨rfl, rfl⟩
    exact ⟨rfl, h⟩
  · have h5 : cur.toList.take (ps.map tl).length = (ps.map tl).map encStr := by
      rw [List.length_map, ← enc, ← h4, Nat.mul_one]
    have hg : g < w.heap.size := (Array.getElem?_eq_some_iff.1 hb).1
    have hS := Any.slices_Sort_string Try.lays190 g 0 cap (ps.map tl) w (holds_of_block hb h5) hg (by rw [List.length_map]; omega)
    rw [List.length_map, sort_srt] at hS
    refine hS.mono ?_
    rintro e w' ⟨rfl, n, os, rfl⟩
    refine ⟨rfl, ?_⟩
    have ho := ownsRow_sorted (n := n) (os := os) (ss := ps.map tl) (ts := (srt ps).map tl) (by simp [srt_len]) hbase hb (by rw [List.length_map]; exact h1) h2 h3
    rw [List.length_map, ← enc] at ho
    have hT := rowTurn h ho rfl (grownBy_sorted _)
    unfold rowS
    rw [srt_len]
    exact hT
/-- slices.Clone of texts: a row of one's own. -/
theorem cloneS_calls {ps : List ByteArray} (h : Hp o w (rowS v ps :: l)) (hw : Below w.heap.size w wb) (hl : ps.length ≤ 1000000) :
    Calls Try.prog 33 #[v] wb fun e w' => ∃ v', e = .returned v' ∧ Hp o w' (rowS v' ps :: rowS v ps :: l) := by
  have hb := h.bel hw
  obtain ⟨a, c, rfl, h1, h2, hg⟩ := rowS_form hb
  rcases (Hp.row hb).2 with ⟨e0, hn⟩ | ⟨g, cap, cur, e0, -⟩
  · injection e0 with e1 e2 e3
    subst e1 e3
    obtain rfl : ps = [] := List.length_eq_zero_iff.1 hn
    refine (Any.slices_Clone_string_nil Try.laysNm216 0 0 wb).mono ?_
    rintro e w' ⟨rfl, rfl⟩
    exact ⟨_, rfl, hb.rowNil 9 1⟩
  · injection e0 with e1 e2 e3
    subst e1 e3
    refine (Any.slices_Clone_string Try.laysNm216 g 0 ps.length c ps wb (Nat.le_refl _) (by omega) (fun j hj => by rw [Nat.zero_add, rowS_at hb hj]; simp [List.getD, hj])).mono ?_
    rintro e w' ⟨v', rfl, h3, -, h4⟩
    rw [List.take_length] at h3
    exact ⟨v', rfl, hb.rowAdd h4 h3 (Nat.le_refl _)⟩
end
section
variable {o w w' wb : World} {l : List Th} {R M N : Nat} {S : Rows} {k : ByteArray}
/-- The row of a key, to the front and back. -/
theorem rows_row (h : Hp o w (rowsT R M S N :: l)) (hk : k ∈ keysL S) : ∃ (g c cm : Nat) (G : ByteArray → Option Sl) (K1 : List ByteArray) (SK : List Th), elS.enc ((G k).getD elS.zero) = .slice (some ⟨g, 0, none⟩) (idsR k S).length c ∧ Hp o w (rowI (.slice (some ⟨g, 0, none⟩) (idsR k S).length c) (idsR k S) :: mapT 9 elS M S.length cm G :: recT R K1 :: star SK :: l) ∧
    ∀ {W : World} {ll : List Th}, Hp o W (rowI (.slice (some ⟨g, 0, none⟩) (idsR k S).length c) (idsR k S) :: mapT 9 elS M S.length cm G :: recT R K1 :: star SK :: ll) → Hp o W (rowsT R M S N :: ll) := by
  have hok := rows_ok h
  obtain ⟨A, ids, B, rfl⟩ := key_split hk
  obtain ⟨LA, LB, g, c, cm, hA, hB, hc, h1⟩ := rows_mid h
  rw [ids_mid hok.mid]
  exact ⟨g, c, cm, _, _, _, look_slice (mid_sl hok.mid hA hB), h1, fun hh => rows_back hA hB hc hok rfl hh⟩
end
end Go.Proofs.Ytnmncjeplfkdpaa.Qa
