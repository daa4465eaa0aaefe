/- KeysRuns. No condition. -/
import Derived.Test.YtkpcobaklbfpcaaKs1
namespace Go.Proofs.Ytkpcobaklbfpcaa.Ka
set_option linter.unusedVariables false
set_option linter.unusedSimpArgs false
open Go.ChangeShapes Go.WideShapes Go.ChangeAt Go.RowKit
open Sp (Th Hp Stays All Ro roT cellsT rowT exT puT star)
open Ca (inK inK_iff)
/-- How many rows, how many numbers in each. -/
structure Few (n : Nat) (S : Rows) : Prop where
  s : S.length ≤ n
  r : ∀ r ∈ S, r.2.length ≤ n
theorem Few.nil (n : Nat) : Few n [] := ⟨Nat.zero_le _, fun _ h => (nomatch h)⟩
theorem Few.mono {n m : Nat} {S : Rows} (h : Few n S) (hm : n ≤ m) : Few m S := ⟨Nat.le_trans h.s hm, fun r hr => Nat.le_trans (h.r r hr) hm⟩
theorem Few.sub {n : Nat} {A S : Rows} (h : Few n S) (hs : List.Sublist A S) : Few n A := ⟨Nat.le_trans hs.length_le h.s, fun r hr => h.r r (hs.subset hr)⟩
theorem Few.add {n : Nat} {S : Rows} (h : Few n S) (hu : ∀ r ∈ S, Up r.2) (k : ByteArray) (x : Int) : Few (n + 1) (addR k x S) := by
  refine ⟨?_, fun r hr => ?_⟩
  · rw [add_len]; have := h.s; split <;> omega
  · unfold addR at hr
    split at hr
    · obtain ⟨q, hq, rfl⟩ := List.mem_map.1 hr
      have h1 := h.r q hq
      split
      · exact Nat.le_trans (with_len (hu q hq)) (by omega)
      · omega
    · rcases List.mem_append.1 hr with hr | hr
      · exact Nat.le_trans (h.r r hr) (Nat.le_succ _)
      · rw [List.mem_singleton.1 hr]; exact Nat.succ_le_succ (Nat.zero_le _)
theorem Few.drop {n : Nat} {S : Rows} (h : Few n S) (x : Int) : Few n (dropR x S) := ⟨Nat.le_trans (drop_len x S) h.s, fun r hr => by
  obtain ⟨-, q, hq, rfl⟩ := mem_drop hr
  exact Nat.le_trans (less_len x q.2) (h.r q hq)⟩
theorem Few.ids {n : Nat} {S : Rows} (h : Few n S) (k : ByteArray) : (idsR k S).length ≤ n := by
  unfold idsR
  cases e : lookL S k with
  | none => exact Nat.zero_le _
  | some ids =>
    unfold lookL at e
    rw [Option.map_eq_some_iff] at e
    obtain ⟨r, hr, rfl⟩ := e
    exact h.r r (List.mem_of_find?_eq_some hr)
def Bx3 (b : Nat) (q : Ac) (W : World) : Prop := W.cell? ⟨b, 0, none⟩ = some (.int .i64 q.kd) ∧ W.cell? ⟨b, 1, none⟩ = some (.int .i64 q.n) ∧ W.cell? ⟨b, 2, none⟩ = some (.string q.k)
section
variable {o w w' wb : World} {l : List Th} {T B N m : Nat} {S : Rows} {k : ByteArray}
theorem ref_sl {mi : Int} (h : Hp o w (refT B mi S :: l)) : ∃ a c, w.cell? ⟨B, 0, none⟩ = some (.slice a S.length c) := by
  obtain ⟨G, v, rfl, -, h1⟩ := ref_open h
  obtain ⟨a, c, rfl, -, -, -⟩ := (h1.pull 1 rfl).rowForm
  exact ⟨a, c, by rw [plainG_len]; exact h1.cell 0 rfl⟩
theorem rowS_slice {v : Value} {L : List ByteArray} (h : Hp o w (rowS v L :: l)) : ∃ a c, v = .slice a L.length c ∧ Ca.InT w a L := by
  obtain ⟨a, c, rfl, -, -, ha⟩ := Hp.rowForm h
  refine ⟨a, c, rfl, fun i hi => ?_⟩
  obtain ⟨g, rfl⟩ := ha (by omega)
  refine ⟨g, rfl, ?_⟩
  rw [Sp.Hp.rowCell (size := 1) h (j := i) (by omega)]
  unfold Ca.cellsT
  rw [List.getElem?_map, List.getElem?_eq_getElem hi]; rfl
theorem rowS_inT {a : Option Addr} {c : Nat} {L : List ByteArray} (h : Hp o w (rowS (.slice a L.length c) L :: l)) : Ca.InT w a L := by
  obtain ⟨a', c', e, h1⟩ := rowS_slice h
  injection e with e1 e2 e3
  subst e1
  exact h1
/-- A Clear of the checking package. -/
theorem ref_clear {mi : Int} (h : Hp o w (refT B mi S :: l)) : (∃ v, w.cell? ⟨B, 0, none⟩ = some v) ∧ w.frozen? ⟨B, 0, none⟩ = false ∧ Hp o (w.setCell ⟨B, 0, none⟩ (.slice none 0 0)) (refT B mi [] :: l) := by
  obtain ⟨G, v, rfl, -, h1⟩ := ref_open h
  refine ⟨⟨v, h1.cell 0 rfl⟩, h1.free 0 rfl, ?_⟩
  have h2 := (h1.cellSet 0 (.slice none 0 0) rfl).dropAt 1 rfl
  have h3 := (h2.roNew (allRo []) (fun R r hr => (nomatch hr))).rowNil 62 2
  exact ref_shut (G := []) (v := .slice none 0 0) rfl Ok.nil (h3.sel [2, 0, 1] rfl |>.dropAt 3 rfl)
end
end Go.Proofs.Ytkpcobaklbfpcaa.Ka
