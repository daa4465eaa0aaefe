/- Drop of a Tree as a thing; two trees of the same keys. Conditions: bounds. -/
import Derived.Test.YtnmncjeplfkdpaaPc1
import Derived.Test.YtnmncjeplfkdpaaPdB
import Derived.Test.YtnmncjeplfkdpaaPbG
namespace Go.Proofs.Ytnmncjeplfkdpaa.Pb
set_option linter.unusedVariables false
set_option linter.unusedSimpArgs false
open Go.ChangeShapes Go.WideShapes Go.ChangeAt Go.RowKit
open Sp (Th Hp Stays roT rowT cellsT Mvd mvd1)
def delT (K : T) (D : List T) : List T := D.filter fun X => !decide (X = K)
def dropL (K : T) (L : T → Option Int) : T → Option Int := fun X => if X = K then none else L X
theorem mem_delT {K X : T} {D : List T} : X ∈ delT K D ↔ X ∈ D ∧ X ≠ K := by unfold delT; simp
theorem delT_out {K : T} {D : List T} (h : K ∉ D) : delT K D = D := List.filter_eq_self.2 fun c hc => by
  have : c ≠ K := fun e => h (e ▸ hc)
  simp [this]
theorem delT_in : ∀ {D : List T} {K : T}, D.Nodup → K ∈ D → (delT K D).length + 1 = D.length
  | [], _, _, h => by cases h
  | y :: r, x, hn, h => by
    obtain ⟨h1, h2⟩ := List.nodup_cons.1 hn
    unfold delT
    by_cases hxy : y = x
    · subst hxy
      have e := delT_out h1
      unfold delT at e
      rw [List.filter_cons_of_neg (by simp), e]
      rfl
    · have hr : x ∈ r := by
        rcases List.mem_cons.1 h with e | e
        · exact absurd e.symm hxy
        · exact e
      have := delT_in h2 hr
      unfold delT at this
      rw [List.filter_cons_of_pos (by simp [hxy]), List.length_cons, List.length_cons, this]
section
variable {o w w' wb : World} {l : List Th} {A : Nat} {D : List T} {L : T → Option Int}
theorem rdrop (h : Hp o w (radT A D L :: l)) (hw : Below w.heap.size w wb) (key : ByteArray) (hK : key.size ≤ 140737488351232) (hD : D.length ≤ 1000) :
    Calls Try.prog 40 #[.pointer (some ⟨A, 0, none⟩), .string key] wb fun e w' => e = .returned (.bool (L key.data.toList).isSome) ∧ Hp o w' (radT A (delT key.data.toList D) (dropL key.data.toList L) :: l) :=
  (Hp.call1 (ts := [radT A (delT key.data.toList D) (dropL key.data.toList L)]) (X := fun e => e = .returned (.bool (L key.data.toList).isSome)) h hw fun {O R} hp hA hR hAR => by
    obtain ⟨t, vs, m, ho, hobj, hi⟩ := hp
    have hB := hi.nodes hobj.ok
    have hin : ∀ {K}, look t K ≠ none → K ∈ D := fun {K} hk => (hi.dl K).1 (by rw [← hi.lk]; exact hk)
    refine (drop_calls hobj key hi.mn hK (by omega) (by rw [hi.m]; omega) (fun hk => by rw [hi.m]; exact List.length_pos_of_mem (hin hk))).mono ?_
    rintro e w' ⟨rfl, t', vs', ho', hm', hl', hb', hF, hO⟩
    refine ⟨by rw [hi.lk], mvd1 (A' := own A t' vs') ⟨t', vs', _, fun x => Iff.rfl, ho', hm', fun X => ?_, ?_, ?_, fun X => ?_⟩ ⟨hF.os, hF.tape, hF.output, hF.size, fun i hi' hn => hF.block i hi' fun e => hn ((ho i).2 e)⟩ (fun x hx => Nat.lt_of_lt_of_le (hR x hx) hw.size) hAR fun x hx => (hO x hx).imp (fun e => (ho x).2 e) id⟩
    · rw [hl', hi.lk]; rfl
    · rw [hi.m, hi.lk]
      by_cases hk : key.data.toList ∈ D
      · have := delT_in hi.nd hk
        obtain ⟨z, hz⟩ := Option.ne_none_iff_exists'.1 ((hi.dl _).2 hk)
        rw [hz]
        show D.length - (1 - 0) = _
        omega
      · rw [delT_out hk]
        have : L key.data.toList = none := by
          cases hz : L key.data.toList with
          | none => rfl
          | some z => exact absurd ((hi.dl _).1 (by rw [hz]; simp)) hk
        rw [this]; rfl
    · exact hi.nd.filter _
    · unfold dropL
      rw [mem_delT]
      by_cases e : X = key.data.toList
      · rw [if_pos e]; simp [e]
      · rw [if_neg e, hi.dl]; simp [e]).mono fun _ _ ⟨a, b, _⟩ => ⟨a, b⟩
end
end Go.Proofs.Ytnmncjeplfkdpaa.Pb
/- Get of a Tree as a thing; the nodes' texts hang on the keys alone; walks of two trees of the same keys. Conditions: bounds. -/
namespace Go.Proofs.Ytnmncjeplfkdpaa.Pb
set_option linter.unusedVariables false
set_option linter.unusedSimpArgs false
open Go.ChangeShapes Go.WideShapes Go.ChangeAt Go.RowKit
open Sp (Th Hp Stays roT rowT cellsT Mvd mvd1)
/-- The texts of the nodes, wholly. -/
structure TxE (X : List T) (D : List T) : Prop where
  nd : X.Nodup
  mem : ∀ p, p ∈ X ↔ p = [] ∨ p ∈ D ∨ ∃ K ∈ D, ∃ M ∈ D, ∃ x y : UInt8, x < y ∧ p ++ [x] <+: K ∧ p ++ [y] <+: M
theorem TxE.len {X X' D D' : List T} (h : TxE X D) (h' : TxE X' D') (hD : ∀ K, K ∈ D ↔ K ∈ D') : X.length = X'.length := by
  have hm : ∀ p, p ∈ X ↔ p ∈ X' := fun p => by
    rw [h.mem, h'.mem]
    constructor
    · rintro (e | e | ⟨K, hK, M, hM, x, y, r⟩)
      · exact .inl e
      · exact .inr (.inl ((hD p).1 e))
      · exact .inr (.inr ⟨K, (hD K).1 hK, M, (hD M).1 hM, x, y, r⟩)
    · rintro (e | e | ⟨K, hK, M, hM, x, y, r⟩)
      · exact .inl e
      · exact .inr (.inl ((hD p).2 e))
      · exact .inr (.inr ⟨K, (hD K).2 hK, M, (hD M).2 hM, x, y, r⟩)
  exact Nat.le_antisymm (nd_leT h.nd fun p hp => (hm p).1 hp) (nd_leT h'.nd fun p hp => (hm p).2 hp)
theorem MkI.ext {Q Q' : List Pa.Mk} {L L' : T → Option Int} {P : T → Prop} (h : MkI Q L P) (h' : MkI Q' L' P) (hL : ∀ K, L K = L' K) : Q = Q' :=
  sorted_ext MLt.irr MLt.asymm h.up h'.up fun p => by rw [h.mem, h'.mem, hL]
section
variable {o w w' wb : World} {l : List Th} {A : Nat} {D : List T} {L : T → Option Int}
theorem rnodesE (h : Hp o w (radT A D L :: l)) (hw : Below w.heap.size w wb) : ∃ X, TxE X D ∧ Calls Try.prog 27 #[.pointer (some ⟨A, 0, none⟩)] wb fun e w' => e = .returned (.int .i64 X.length) ∧ wb = w' := by
  obtain ⟨t, vs, m, hobj, hi⟩ := rad_at (h.bel hw)
  refine ⟨t.B.map t.tx, ⟨?_, fun p => ⟨fun hp => ?_, fun hp => ?_⟩⟩, by rw [List.length_map]; exact nodes_calls hobj⟩
  · refine List.pairwise_map.2 (List.Pairwise.imp_of_mem (fun {a b} ha hb hab e => hab (hobj.ok.inj a ha b hb e)) hobj.ok.nd)
  · obtain ⟨b, hb, rfl⟩ := List.mem_map.1 hp
    rcases node_text hobj.ok hi.mn hobj.ln hb with h1 | h1 | ⟨K, M, x, y, h1, h2, h3, h4, h5⟩
    · exact .inl h1
    · rw [hi.lk] at h1
      exact .inr (.inl ((hi.dl _).1 h1))
    · rw [hi.lk] at h2 h3
      exact .inr (.inr ⟨K, (hi.dl _).1 h2, M, (hi.dl _).1 h3, x, y, h1, h4, h5⟩)
  · rcases hp with rfl | hp | ⟨K, hK, M, hM, x, y, hxy, h4, h5⟩
    · rw [← hobj.ok.rtx]; exact List.mem_map_of_mem hobj.ok.rin
    · obtain ⟨d, hd, e, -⟩ := hi.some_ hobj.ok hp
      rw [← e]; exact List.mem_map_of_mem hd
    · obtain ⟨d, hd, e1, -⟩ := hi.some_ hobj.ok hK
      obtain ⟨e, he, e2, -⟩ := hi.some_ hobj.ok hM
      obtain ⟨b, hb, e3⟩ := part_node hobj.ok (x := x) (y := y) (fun e => by subst e; exact ulirr _ hxy) hd he (by rw [e1]; exact h4) (by rw [e2]; exact h5)
      rw [← e3]; exact List.mem_map_of_mem hb
end
end Go.Proofs.Ytnmncjeplfkdpaa.Pb
