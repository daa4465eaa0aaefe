/- Package prefix: the told beginnings as a thing (rowsT: a tree of the keys, and of each its clients), a row of it to the front and back. No condition. -/
import Derived.Test.YtnmncjeplfkdpaaQb0
import Derived.Test.YtnmncjeplfkdpaaQa1
import Derived.Test.YtnmncjeplfkdpaaSpB
namespace Go.Proofs.Ytnmncjeplfkdpaa.Qa
set_option linter.unusedVariables false
set_option linter.unusedSimpArgs false
open Go.ChangeShapes Go.WideShapes Go.ChangeAt Go.RowKit Go.Maps Go.WideMaps
open Ka
open Sp (Th Hp Stays All cellsT rowT exT puT star mapT setG Sl)
/-- A row's numbers as they lie. -/
structure Kw where
  ids : List Int
  g : Nat
  c : Nat
abbrev Kl := List (ByteArray × Kw)
def slK (r : Kw) : Sl := ⟨some ⟨r.g, 0, none⟩, r.ids.length, r.c⟩
def slL (L : Kl) : List (ByteArray × Sl) := L.map fun r => (r.1, slK r.2)
def plain (L : Kl) : Rows := L.map fun r => (r.1, r.2.ids)
def ints (l : List Int) : List Value := l.map (Value.int .i64)
/-- A row of numbers. -/
def rowI (v : Value) (l : List Int) : Th := rowT 3 1 v l.length (ints l)
def rowK (r : ByteArray × Kw) : Th := rowI (.slice (some ⟨r.2.g, 0, none⟩) r.2.ids.length r.2.c) r.2.ids
theorem zeroS (w : World) : (zeroValue 40).run Try.prog w = .ok (.slice none 0 0) w := by kernel_rfl
noncomputable def elS : Sp.El Try.prog 40 Sl := Sp.slEl Try.prog 40 zeroS
def ptr (b : Nat) : Value := .pointer (some ⟨b, 0, none⟩)
/-- rows: the keys in their order, what the map says of each, the numbers. -/
noncomputable def rowsT (R M : Nat) (S : Rows) (N : Nat) : Th := exT fun g : Kl × Nat => puT (plain g.1 = S ∧ Ok S ∧ g.2 ≤ N) (star [recT R (keysL S), mapT 9 elS M S.length g.2 (lookL (slL g.1)), star (g.1.map rowK)])
/-- A Keys. -/
noncomputable def keysT (T : Nat) (m : Int) (S : Rows) (N : Nat) : Th := exT fun g : Nat × Nat => star [cellsT T [ptr g.1, .map (some g.2), .int .i64 m], rowsT g.1 g.2 S N]
theorem plain_keys (L : Kl) : keysL (slL L) = keysL (plain L) := by unfold keysL slL plain; rw [List.map_map, List.map_map]; rfl
theorem plain_len (L : Kl) : (plain L).length = L.length := List.length_map _
theorem plain_mid {L : Kl} {A B : Rows} {k : ByteArray} {l : List Int} (h : plain L = A ++ (k, l) :: B) : ∃ LA g c LB, L = LA ++ (k, ⟨l, g, c⟩) :: LB ∧ plain LA = A ∧ plain LB = B := by
  unfold plain at h
  obtain ⟨LA, r, rfl, h1, h2⟩ := List.map_eq_append_iff.1 h
  obtain ⟨p, LB, rfl, h3, h4⟩ := List.map_eq_cons_iff.1 h2
  obtain ⟨k', ⟨l', g, c⟩⟩ := p
  injection h3 with e1 e2
  subst e1 e2
  exact ⟨LA, g, c, LB, rfl, h1, h4⟩
theorem slL_app (A B : Kl) (r : ByteArray × Kw) : slL (A ++ r :: B) = slL A ++ (r.1, slK r.2) :: slL B := by unfold slL; rw [List.map_append, List.map_cons]
theorem slL_app2 (A B : Kl) : slL (A ++ B) = slL A ++ slL B := by unfold slL; rw [List.map_append]
theorem plain_app (A B : Kl) : plain (A ++ B) = plain A ++ plain B := by unfold plain; rw [List.map_append]
theorem mid_sl {A B : Rows} {k : ByteArray} (h : Mid k A B) {LA LB : Kl} (ha : plain LA = A) (hb : plain LB = B) : Mid k (slL LA) (slL LB) := ⟨by rw [plain_keys, ha]; exact h.a, by rw [plain_keys, hb]; exact h.b⟩
section
variable {o w w' wb : World} {l : List Th} {R M N : Nat} {S A B : Rows} {k : ByteArray} {ids : List Int}
theorem rows_open (h : Hp o w (rowsT R M S N :: l)) : ∃ L c, plain L = S ∧ Ok S ∧ c ≤ N ∧ Hp o w (recT R (keysL S) :: mapT 9 elS M S.length c (lookL (slL L)) :: star (L.map rowK) :: l) := by
  obtain ⟨⟨L, c⟩, h⟩ := h.ex
  obtain ⟨⟨h1, h2, h3⟩, h⟩ := h.pu
  exact ⟨L, c, h1, h2, h3, h.open⟩
theorem rows_shut {L : Kl} {c : Nat} (h1 : plain L = S) (h2 : Ok S) (h3 : c ≤ N) (h : Hp o w (recT R (keysL S) :: mapT 9 elS M S.length c (lookL (slL L)) :: star (L.map rowK) :: l)) : Hp o w (rowsT R M S N :: l) :=
  Hp.mkEx (L, c) (Hp.mkPu ⟨h1, h2, h3⟩ (Hp.shut (m := [recT R (keysL S), mapT 9 elS M S.length c (lookL (slL L)), star (L.map rowK)]) h))
theorem rows_ok (h : Hp o w (rowsT R M S N :: l)) : Ok S := by
  obtain ⟨L, c, -, h, -⟩ := rows_open h
  exact h
/-- A row to the front. -/
theorem rows_mid (h : Hp o w (rowsT R M (A ++ (k, ids) :: B) N :: l)) : ∃ LA LB g c cm, plain LA = A ∧ plain LB = B ∧ cm ≤ N ∧ Hp o w (rowI (.slice (some ⟨g, 0, none⟩) ids.length c) ids :: mapT 9 elS M (A ++ (k, ids) :: B).length cm (lookL (slL LA ++ (k, ⟨some ⟨g, 0, none⟩, ids.length, c⟩) :: slL LB)) :: recT R (keysL (A ++ (k, ids) :: B)) :: star ((LA ++ LB).map rowK) :: l) := by
  obtain ⟨L, cm, h1, h2, h3, h⟩ := rows_open h
  obtain ⟨LA, g, c, LB, rfl, hA, hB⟩ := plain_mid h1
  rw [slL_app, List.map_append, List.map_cons] at h
  have h4 := Hp.starMid (h.pull 2 rfl)
  rw [← List.map_append] at h4
  have h5 : Hp o w (rowK (k, ⟨ids, g, c⟩) :: star ((LA ++ LB).map rowK) :: recT R (keysL (A ++ (k, ids) :: B)) :: mapT 9 elS M (A ++ (k, ids) :: B).length cm (lookL (slL LA ++ (k, slK ⟨ids, g, c⟩) :: slL LB)) :: l) := h4
  refine ⟨LA, LB, g, c, cm, hA, hB, h3, ?_⟩
  have h6 := ((h5.pull 1 rfl).pull 2 rfl).pull 3 rfl
  exact h6.pull 3 rfl
theorem rows_back {LA LB : Kl} {g c cm n : Nat} (hA : plain LA = A) (hB : plain LB = B) (hc : cm ≤ N) (hok : Ok (A ++ (k, ids) :: B)) (hn : (A ++ (k, ids) :: B).length = n)
    (h : Hp o w (rowI (.slice (some ⟨g, 0, none⟩) ids.length c) ids :: mapT 9 elS M n cm (lookL (slL LA ++ (k, ⟨some ⟨g, 0, none⟩, ids.length, c⟩) :: slL LB)) :: recT R (keysL (A ++ (k, ids) :: B)) :: star ((LA ++ LB).map rowK) :: l)) : Hp o w (rowsT R M (A ++ (k, ids) :: B) N :: l) := by
  subst hn
  have h5 : Hp o w (rowK (k, ⟨ids, g, c⟩) :: star (LA.map rowK ++ LB.map rowK) :: recT R (keysL (A ++ (k, ids) :: B)) :: mapT 9 elS M (A ++ (k, ids) :: B).length cm (lookL (slL LA ++ (k, ⟨some ⟨g, 0, none⟩, ids.length, c⟩) :: slL LB)) :: l) := by
    rw [← List.map_append]
    exact (((h.pull 1 rfl).pull 2 rfl).pull 3 rfl).pull 3 rfl
  have h6 := h5.starBack
  have h7 := (h6.pull 2 rfl).pull 2 rfl
  refine rows_shut (L := LA ++ (k, ⟨ids, g, c⟩) :: LB) (c := cm) (by rw [plain_app, hA, ← hB]; rfl) hok hc ?_
  rw [slL_app, List.map_append, List.map_cons]
  exact h7
/-- .. and without it. -/
theorem rows_gone {LA LB : Kl} {cm n : Nat} (hA : plain LA = A) (hB : plain LB = B) (hc : cm ≤ N) (hok : Ok (A ++ B)) (hn : (A ++ B).length = n)
    (h : Hp o w (mapT 9 elS M n cm (lookL (slL LA ++ slL LB)) :: recT R (keysL (A ++ B)) :: star ((LA ++ LB).map rowK) :: l)) : Hp o w (rowsT R M (A ++ B) N :: l) := by
  subst hn
  refine rows_shut (L := LA ++ LB) (c := cm) (by rw [plain_app, hA, hB]) hok hc ?_
  rw [slL_app2]
  exact h.swap
theorem rows_more {N' : Nat} (h : Hp o w (rowsT R M S N :: l)) (hn : N ≤ N') : Hp o w (rowsT R M S N' :: l) := by
  obtain ⟨L, c, h1, h2, h3, h⟩ := rows_open h
  exact rows_shut h1 h2 (Nat.le_trans h3 hn) h
theorem keys_open {T : Nat} {m : Int} (h : Hp o w (keysT T m S N :: l)) : ∃ R M, Hp o w (cellsT T [ptr R, .map (some M), .int .i64 m] :: rowsT R M S N :: l) := by
  obtain ⟨⟨R, M⟩, h⟩ := h.ex
  exact ⟨R, M, h.open⟩
theorem keys_shut {T : Nat} {m : Int} (h : Hp o w (cellsT T [ptr R, .map (some M), .int .i64 m] :: rowsT R M S N :: l)) : Hp o w (keysT T m S N :: l) := Hp.mkEx (R, M) (Hp.shut (m := [cellsT T [ptr R, .map (some M), .int .i64 m], rowsT R M S N]) h)
theorem keys_more {T N' : Nat} {m : Int} (h : Hp o w (keysT T m S N :: l)) (hn : N ≤ N') : Hp o w (keysT T m S N' :: l) := by
  obtain ⟨R, M, h⟩ := keys_open h
  exact keys_shut ((rows_more h.swap hn).swap)
theorem keys_ok {T : Nat} {m : Int} (h : Hp o w (keysT T m S N :: l)) : Ok S := by
  obtain ⟨R, M, h⟩ := keys_open h
  exact rows_ok h.swap
end
end Go.Proofs.Ytnmncjeplfkdpaa.Qa
