/- radixAlive. No condition. -/
import Derived.Test.YtnmncjeplfkdpaaPc1
namespace Go.Proofs.Ytnmncjeplfkdpaa.Pb
set_option linter.unusedVariables false
set_option linter.unusedSimpArgs false
open Go.ChangeShapes Go.WideShapes Go.ChangeAt Go.RowKit
open Sp (Th Hp Stays roT rowT cellsT Mvd mvd1)
theorem cellsM_at : ∀ (Q : List Pa.Mk) (j : Nat) (hj : j < Q.length), (Pa.cellsM Q)[j * 2]? = some (.string Q[j].1) ∧ (Pa.cellsM Q)[j * 2 + 1]? = some (.int .i64 Q[j].2)
  | [], j, hj => absurd hj (Nat.not_lt_zero _)
  | m :: Q, 0, _ => ⟨rfl, rfl⟩
  | m :: Q, j + 1, hj => by
    have h := cellsM_at Q j (by simpa using hj)
    have e : Pa.cellsM (m :: Q) = [.string m.1, .int .i64 m.2] ++ Pa.cellsM Q := rfl
    rw [e, show (j + 1) * 2 = j * 2 + 2 by omega]
    refine ⟨?_, ?_⟩
    · rw [List.getElem?_append_right (by show 2 ≤ _; omega)]
      exact h.1
    · rw [List.getElem?_append_right (by show 2 ≤ _; omega)]
      exact h.2
section
variable {o w w' wb : World} {l : List Th}
theorem mk_cell {Q : List Pa.Mk} {g c : Nat} (h : Hp o w (rowT 63 2 (.slice (some ⟨g, 0, none⟩) Q.length c) Q.length (Pa.cellsM Q) :: l)) {j : Nat} (hj : j < Q.length) : w.cell? ⟨g, j * 2, none⟩ = some (.string Q[j].1) ∧ w.cell? ⟨g, j * 2 + 1, none⟩ = some (.int .i64 Q[j].2) :=
  ⟨(h.rowCell (j := j * 2) (by omega)).trans (cellsM_at Q j hj).1, (h.rowCell (j := j * 2 + 1) (by omega)).trans (cellsM_at Q j hj).2⟩
end
def kA : T := [97]
def kAB : T := [97, 98]
def kB : T := [98]
def al1 : T → Option Int := updL kA 1 (fun _ => none)
def al2 : T → Option Int := updL kAB 2 al1
def al3 : T → Option Int := updL kB 3 al2
def alQ : List Pa.Mk := [(⟨#[97]⟩, 1), (⟨#[97, 98]⟩, 2)]
theorem al_above {Q : List Pa.Mk} (h : MkI Q al3 (fun K => K <+: [97, 98, 99])) : Q = alQ := by
  refine sorted_ext (R := MLt) MLt.irr MLt.asymm h.up ?_ fun p => ?_
  · refine List.pairwise_cons.2 ⟨fun q hq => ?_, List.pairwise_singleton ..⟩
    rw [List.mem_singleton.1 hq]
    exact (Lt.cons_iff 97 97 [] [98]).2 (.inr ⟨rfl, Lt.nil_left 98 []⟩)
  · rw [h.mem]
    constructor
    · rintro ⟨h1, h2⟩
      unfold al3 al2 al1 updL at h1
      obtain ⟨k, n⟩ := p
      simp only at h1 h2
      split at h1
      · rename_i e
        rw [e] at h2
        exact absurd h2 (by decide)
      · split at h1
        · rename_i e
          have e2 : k = ⟨#[97, 98]⟩ := by rw [← bs_data k, e]; rfl
          obtain rfl := Option.some.inj h1
          rw [e2]
          exact List.mem_cons_of_mem _ (List.mem_cons_self ..)
        · split at h1
          · rename_i e
            have e2 : k = ⟨#[97]⟩ := by rw [← bs_data k, e]; rfl
            obtain rfl := Option.some.inj h1
            rw [e2]
            exact List.mem_cons_self ..
          · cases h1
    · intro hp
      rcases List.mem_cons.1 hp with rfl | hp
      · exact ⟨by decide, by decide⟩
      · rw [List.mem_singleton.1 hp]
        exact ⟨by decide, by decide⟩
noncomputable def alD : List T := insT kB (insT kAB (insT kA []))
theorem mem_alD {X : T} : X ∈ alD ↔ X = kB ∨ X = kAB ∨ X = kA := by
  unfold alD
  rw [mem_insT, mem_insT, mem_insT]
  simp
theorem al_nodes {X : List T} (h : TxI X alD al3) : X.length = 4 := by
  have hl : ([[], kA, kAB, kB] : List T).Nodup := by decide
  have pre : ∀ {p K : T} {x : UInt8}, K ∈ alD → p ++ [x] <+: K → p ∈ ([[], kA, kAB, kB] : List T) := fun {p K x} hK hp => by
    have h1 : p <+: K := (List.prefix_append p [x]).trans hp
    have h2 : p.length < K.length := by have := hp.length_le; simp at this; omega
    have h3 : p = K.take p.length := List.prefix_iff_eq_take.1 h1
    rcases mem_alD.1 hK with rfl | rfl | rfl
    · have : p.length = 0 := by simp [kB] at h2; exact by simpa using h2
      rw [List.length_eq_zero_iff.1 this]; decide
    · have h4 : p.length = 0 ∨ p.length = 1 := by simp [kAB] at h2; omega
      rcases h4 with e | e
      · rw [List.length_eq_zero_iff.1 e]; decide
      · rw [h3, e]; decide
    · have : p.length = 0 := by simp [kA] at h2; exact by simpa using h2
      rw [List.length_eq_zero_iff.1 this]; decide
  have h1 := nd_leT h.nd (r := [[], kA, kAB, kB]) fun x hx => by
    rcases h.is x hx with e | e | ⟨K, hK, M, hM, a, b, -, hp, -⟩
    · rw [e]; decide
    · rcases mem_alD.1 e with rfl | rfl | rfl <;> decide
    · exact pre hK hp
  have h2 := nd_leT hl (r := X) fun x hx => by
    simp only [List.mem_cons, List.not_mem_nil, or_false] at hx
    rcases hx with rfl | rfl | rfl | rfl
    · exact h.nil
    · exact h.key _ (mem_alD.2 (.inr (.inr rfl)))
    · exact h.key _ (mem_alD.2 (.inr (.inl rfl)))
    · exact h.key _ (mem_alD.2 (.inl rfl))
  simp only [List.length_cons, List.length_nil] at h1 h2
  omega
theorem alD_len : alD.length ≤ 3 := by
  unfold alD
  have h1 := insT_len kB (insT kAB (insT kA []))
  have h2 := insT_len kAB (insT kA [])
  have h3 := insT_len kA []
  simp at h3
  omega
end Go.Proofs.Ytnmncjeplfkdpaa.Pb
