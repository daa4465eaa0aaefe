/- Get of a Tree as a thing; the nodes' texts hang on the keys alone; walks of two trees of the same keys. Conditions: bounds. -/
import Derived.Test.YtedpbngfjjofhaaPc4
namespace Go.Proofs.Ytedpbngfjjofhaa.Pb
set_option linter.unusedVariables false
set_option linter.unusedSimpArgs false
open Go.ChangeShapes Go.WideShapes Go.ChangeAt Go.RowKit
open Sp (Th Hp Stays roT rowT cellsT Mvd mvd1)
/-- The texts of the nodes, wholly. -/
structure TxE (X : List T) (D : List T) : Prop where
  nd : X.Nodup
  mem : ∀ p, p ∈ X ↔ p = [] ∨ p ∈ D ∨ ∃ K ∈ D, ∃ M ∈ D, ∃ x y : UInt8, x < y ∧ p ++ [x] <+: K ∧ p ++ [y] <+: M
theorem TxE.len {X X' D D' : List T} (h : TxE X D) (h' : TxE X' D') (hD : ∀ K, K ∈ D ↔ K ∈ D') : X.length = X'.length := by
  have hm : ∀ p, p ∈ X ↔ p ∈ X' := fun p => by
    rw [h.mem, h'.mem]
    constructor
    · rintro (e | e | ⟨K, hK, M, hM, x, y, r⟩)
      · exact .inl e
      · exact .inr (.inl ((hD p).1 e))
      · exact .inr (.inr ⟨K, (hD K).1 hK, M, (hD M).1 hM, x, y, r⟩)
    · rintro (e | e | ⟨K, hK, M, hM, x, y, r⟩)
      · exact .inl e
      · exact .inr (.inl ((hD p).2 e))
      · exact .inr (.inr ⟨K, (hD K).2 hK, M, (hD M).2 hM, x, y, r⟩)
  exact Nat.le_antisymm (nd_leT h.nd fun p hp => (hm p).1 hp) (nd_leT h'.nd fun p hp => (hm p).2 hp)
theorem MkI.ext {Q Q' : List Pa.Mk} {L L' : T → Option Int} {P : T → Prop} (h : MkI Q L P) (h' : MkI Q' L' P) (hL : ∀ K, L K = L' K) : Q = Q' :=
  sorted_ext MLt.irr MLt.asymm h.up h'.up fun p => by rw [h.mem, h'.mem, hL]
section
variable {o w w' wb : World} {l : List Th} {A : Nat} {D : List T} {L : T → Option Int}
theorem rnodesE (h : Hp o w (radT A D L :: l)) (hw : Below w.heap.size w wb) : ∃ X, TxE X D ∧ Calls Try.prog 15 #[.pointer (some ⟨A, 0, none⟩)] wb fun e w' => e = .returned (.int .i64 X.length) ∧ wb = w' := by
  obtain ⟨t, vs, m, hobj, hi⟩ := rad_at (h.bel hw)
  refine ⟨t.B.map t.tx, ⟨?_, fun p => ⟨fun hp => ?_, fun hp => ?_⟩⟩, by rw [List.length_map]; exact nodes_calls hobj⟩
  · refine List.pairwise_map.2 (List.Pairwise.imp_of_mem (fun {a b} ha hb hab e => hab (hobj.ok.inj a ha b hb e)) hobj.ok.nd)
  · obtain ⟨b, hb, rfl⟩ := List.mem_map.1 hp
    rcases node_text hobj.ok hi.mn hobj.ln hb with h1 | h1 | ⟨K, M, x, y, h1, h2, h3, h4, h5⟩
    · exact .inl h1
    · rw [hi.lk] at h1
      exact .inr (.inl ((hi.dl _).1 h1))
    · rw [hi.lk] at h2 h3
      exact .inr (.inr ⟨K, (hi.dl _).1 h2, M, (hi.dl _).1 h3, x, y, h1, h4, h5⟩)
  · rcases hp with rfl | hp | ⟨K, hK, M, hM, x, y, hxy, h4, h5⟩
    · rw [← hobj.ok.rtx]; exact List.mem_map_of_mem hobj.ok.rin
    · obtain ⟨d, hd, e, -⟩ := hi.some_ hobj.ok hp
      rw [← e]; exact List.mem_map_of_mem hd
    · obtain ⟨d, hd, e1, -⟩ := hi.some_ hobj.ok hK
      obtain ⟨e, he, e2, -⟩ := hi.some_ hobj.ok hM
      obtain ⟨b, hb, e3⟩ := part_node hobj.ok (x := x) (y := y) (fun e => by subst e; exact ulirr _ hxy) hd he (by rw [e1]; exact h4) (by rw [e2]; exact h5)
      rw [← e3]; exact List.mem_map_of_mem hb
theorem rget (h : Hp o w (radT A D L :: l)) (hw : Below w.heap.size w wb) (key : ByteArray) (hK : key.size ≤ 1000000) :
    Calls Try.prog 17 #[.pointer (some ⟨A, 0, none⟩), .string key] wb fun e w' => e = .returned (.tuple #[.int .i64 ((L key.data.toList).getD 0), .bool (L key.data.toList).isSome]) ∧ Below wb.heap.size wb w' := by
  obtain ⟨t, vs, m, hobj, hi⟩ := rad_at (h.bel hw)
  have := get_calls hobj key hK
  rw [hi.lk] at this
  exact this
end
end Go.Proofs.Ytedpbngfjjofhaa.Pb
