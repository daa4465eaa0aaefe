/- Drop of a Tree as a thing; two trees of the same keys. Conditions: bounds. -/
import Derived.Test.YtedpbngfjjofhaaPc1
import Derived.Test.YtedpbngfjjofhaaPd7
import Derived.Test.YtedpbngfjjofhaaPbs
namespace Go.Proofs.Ytedpbngfjjofhaa.Pb
set_option linter.unusedVariables false
set_option linter.unusedSimpArgs false
open Go.ChangeShapes Go.WideShapes Go.ChangeAt Go.RowKit
open Sp (Th Hp Stays roT rowT cellsT Mvd mvd1)
def delT (K : T) (D : List T) : List T := D.filter fun X => !decide (X = K)
def dropL (K : T) (L : T → Option Int) : T → Option Int := fun X => if X = K then none else L X
theorem mem_delT {K X : T} {D : List T} : X ∈ delT K D ↔ X ∈ D ∧ X ≠ K := by unfold delT; simp
theorem delT_out {K : T} {D : List T} (h : K ∉ D) : delT K D = D := List.filter_eq_self.2 fun c hc => by
  have : c ≠ K := fun e => h (e ▸ hc)
  simp [this]
theorem delT_in : ∀ {D : List T} {K : T}, D.Nodup → K ∈ D → (delT K D).length + 1 = D.length
  | [], _, _, h => by cases h
  | y :: r, x, hn, h => by
    obtain ⟨h1, h2⟩ := List.nodup_cons.1 hn
    unfold delT
    by_cases hxy : y = x
    · subst hxy
      have e := delT_out h1
      unfold delT at e
      rw [List.filter_cons_of_neg (by simp), e]
      rfl
    · have hr : x ∈ r := by
        rcases List.mem_cons.1 h with e | e
        · exact absurd e.symm hxy
        · exact e
      have := delT_in h2 hr
      unfold delT at this
      rw [List.filter_cons_of_pos (by simp [hxy]), List.length_cons, List.length_cons, this]
section
variable {o w w' wb : World} {l : List Th} {A : Nat} {D : List T} {L : T → Option Int}
theorem rdrop (h : Hp o w (radT A D L :: l)) (hw : Below w.heap.size w wb) (key : ByteArray) (hK : key.size ≤ 1000000) (hD : D.length ≤ 1000) :
    Calls Try.prog 12 #[.pointer (some ⟨A, 0, none⟩), .string key] wb fun e w' => e = .returned (.bool (L key.data.toList).isSome) ∧ Hp o w' (radT A (delT key.data.toList D) (dropL key.data.toList L) :: l) :=
  (Hp.call1 (ts := [radT A (delT key.data.toList D) (dropL key.data.toList L)]) (X := fun e => e = .returned (.bool (L key.data.toList).isSome)) h hw fun {O R} hp hA hR hAR => by
    obtain ⟨t, vs, m, ho, hobj, hi⟩ := hp
    have hB := hi.nodes hobj.ok
    have hin : ∀ {K}, look t K ≠ none → K ∈ D := fun {K} hk => (hi.dl K).1 (by rw [← hi.lk]; exact hk)
    refine (drop_calls hobj key hi.mn hK (by omega) (by rw [hi.m]; omega) (fun hk => by rw [hi.m]; exact List.length_pos_of_mem (hin hk))).mono ?_
    rintro e w' ⟨rfl, t', vs', ho', hm', hl', hb', hF, hO⟩
    refine ⟨by rw [hi.lk], mvd1 (A' := own A t' vs') ⟨t', vs', _, fun x => Iff.rfl, ho', hm', fun X => ?_, ?_, ?_, fun X => ?_⟩ ⟨hF.os, hF.tape, hF.output, hF.size, fun i hi' hn => hF.block i hi' fun e => hn ((ho i).2 e)⟩ (fun x hx => Nat.lt_of_lt_of_le (hR x hx) hw.size) hAR fun x hx => (hO x hx).imp (fun e => (ho x).2 e) id⟩
    · rw [hl', hi.lk]; rfl
    · rw [hi.m, hi.lk]
      by_cases hk : key.data.toList ∈ D
      · have := delT_in hi.nd hk
        obtain ⟨z, hz⟩ := Option.ne_none_iff_exists'.1 ((hi.dl _).2 hk)
        rw [hz]
        show D.length - (1 - 0) = _
        omega
      · rw [delT_out hk]
        have : L key.data.toList = none := by
          cases hz : L key.data.toList with
          | none => rfl
          | some z => exact absurd ((hi.dl _).1 (by rw [hz]; simp)) hk
        rw [this]; rfl
    · exact hi.nd.filter _
    · unfold dropL
      rw [mem_delT]
      by_cases e : X = key.data.toList
      · rw [if_pos e]; simp [e]
      · rw [if_neg e, hi.dl]; simp [e]).mono fun _ _ ⟨a, b, _⟩ => ⟨a, b⟩
end
end Go.Proofs.Ytedpbngfjjofhaa.Pb
