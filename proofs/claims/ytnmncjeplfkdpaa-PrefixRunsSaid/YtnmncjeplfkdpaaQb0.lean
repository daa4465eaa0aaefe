/- Package radix's Tree with keys that bear no numbers, as a thing: recT A K, a tree of the keys K, each at 0. Conditions: bounds. -/
import Derived.Test.YtnmncjeplfkdpaaPeB
import Derived.Test.YtnmncjeplfkdpaaKa1
import Derived.Test.YtnmncjeplfkdpaaSpB
import Derived.Test.YtnmncjeplfkdpaaPc6
namespace Go.Proofs.Ytnmncjeplfkdpaa.Qa
set_option linter.unusedVariables false
set_option linter.unusedSimpArgs false
open Go.ChangeShapes Go.WideShapes Go.ChangeAt Go.RowKit
open Ka
open Sp (Th Hp Stays All cellsT rowT exT puT star)
open Pb (T radT RdI rad_at insT updL delT dropL mem_insT mem_delT TxE MkI dat nd_leT rnew rput rdrop rlen rnodesE rabove data_ne)
def zL (K : List ByteArray) : T → Option Int := fun X => if X ∈ dat K then some 0 else none
/-- A tree of keys. -/
def recT (A : Nat) (K : List ByteArray) : Th := exT fun g : List T × (T → Option Int) => puT ((∀ X, X ∈ g.1 ↔ X ∈ dat K) ∧ ∀ X, g.2 X = zL K X) (radT A g.1 g.2)
theorem mem_dat {k : ByteArray} {K : List ByteArray} : k.data.toList ∈ dat K ↔ k ∈ K := by
  unfold dat
  rw [List.mem_map]
  constructor
  · rintro ⟨x, hx, e⟩
    rw [← data_ne.1 e]; exact hx
  · intro h
    exact ⟨k, h, rfl⟩
theorem dat_nodup {K : List ByteArray} (h : K.Nodup) : (dat K).Nodup := List.pairwise_map.2 (h.imp fun hab e => hab (data_ne.1 e))
theorem dat_len (K : List ByteArray) : (dat K).length = K.length := List.length_map _
section
variable {o w w' wb : World} {l : List Th} {A : Nat} {K : List ByteArray}
theorem rk_open (h : Hp o w (recT A K :: l)) : ∃ D L, (∀ X, X ∈ D ↔ X ∈ dat K) ∧ (∀ X, L X = zL K X) ∧ D.Nodup ∧ D.length ≤ K.length ∧ Hp o w (radT A D L :: l) := by
  obtain ⟨⟨D, L⟩, h⟩ := h.ex
  obtain ⟨⟨h1, h2⟩, h⟩ := h.pu
  obtain ⟨t, vs, m, -, hi⟩ := rad_at h
  exact ⟨D, L, h1, h2, hi.nd, by rw [← dat_len]; exact nd_leT hi.nd fun X hX => (h1 X).1 hX, h⟩
theorem rk_shut {D : List T} {L : T → Option Int} (h1 : ∀ X, X ∈ D ↔ X ∈ dat K) (h2 : ∀ X, L X = zL K X) (h : Hp o w (radT A D L :: l)) : Hp o w (recT A K :: l) := Hp.mkEx (D, L) (Hp.mkPu ⟨h1, h2⟩ h)
theorem rk_new (h : Hp o w l) (hw : Below w.heap.size w wb) :
    Calls Try.prog 22 #[] wb fun e w' => ∃ A, e = .returned (.pointer (some ⟨A, 0, none⟩)) ∧ Hp o w' (recT A [] :: l) :=
  (rnew h hw).mono fun e w' ⟨A, h1, h2⟩ => ⟨A, h1, rk_shut (fun X => Iff.rfl) (fun X => rfl) h2⟩
theorem rk_put (h : Hp o w (recT A K :: l)) (hw : Below w.heap.size w wb) (key : ByteArray) (hK : key.size ≤ 140737488351232) (hl : K.length ≤ 1000) (K' : List ByteArray) (hm : ∀ x, x ∈ K' ↔ x = key ∨ x ∈ K) :
    Calls Try.prog 38 #[.pointer (some ⟨A, 0, none⟩), .string key, .int .i64 0] wb fun e w' => (∃ b : Bool, e = .returned (.bool b)) ∧ Hp o w' (recT A K' :: l) := by
  obtain ⟨D, L, h1, h2, -, hD, h⟩ := rk_open h
  have hd : ∀ X, X ∈ dat K' ↔ X = key.data.toList ∨ X ∈ dat K := fun X => by
    unfold dat
    rw [List.mem_map, List.mem_map]
    constructor
    · rintro ⟨x, hx, rfl⟩
      rcases (hm x).1 hx with e | hx
      · exact .inl (by rw [e])
      · exact .inr ⟨x, hx, rfl⟩
    · rintro (rfl | ⟨x, hx, rfl⟩)
      · exact ⟨key, (hm _).2 (.inl rfl), rfl⟩
      · exact ⟨x, (hm x).2 (.inr hx), rfl⟩
  refine (rput h hw key 0 hK (by omega)).mono ?_
  rintro e w' ⟨rfl, h'⟩
  refine ⟨⟨_, rfl⟩, rk_shut (fun X => by rw [mem_insT, hd, h1]) (fun X => ?_) h'⟩
  unfold updL
  rw [h2]
  unfold zL
  by_cases e : X = key.data.toList
  · rw [if_pos e, if_pos ((hd X).2 (.inl e))]
  · rw [if_neg e]
    by_cases hk : X ∈ dat K
    · rw [if_pos hk, if_pos ((hd X).2 (.inr hk))]
    · rw [if_neg hk, if_neg fun hh => ((hd X).1 hh).elim e hk]
theorem rk_drop (h : Hp o w (recT A K :: l)) (hw : Below w.heap.size w wb) (key : ByteArray) (hK : key.size ≤ 140737488351232) (hl : K.length ≤ 1000) (K' : List ByteArray) (hm : ∀ x, x ∈ K' ↔ x ∈ K ∧ x ≠ key) :
    Calls Try.prog 40 #[.pointer (some ⟨A, 0, none⟩), .string key] wb fun e w' => (∃ b : Bool, e = .returned (.bool b)) ∧ Hp o w' (recT A K' :: l) := by
  obtain ⟨D, L, h1, h2, -, hD, h⟩ := rk_open h
  have hd : ∀ X, X ∈ dat K' ↔ X ∈ dat K ∧ X ≠ key.data.toList := fun X => by
    unfold dat
    rw [List.mem_map, List.mem_map]
    constructor
    · rintro ⟨x, hx, rfl⟩
      obtain ⟨hx, hn⟩ := (hm x).1 hx
      exact ⟨⟨x, hx, rfl⟩, fun e => hn (data_ne.1 e)⟩
    · rintro ⟨⟨x, hx, rfl⟩, hn⟩
      exact ⟨x, (hm x).2 ⟨hx, fun e => hn (by rw [e])⟩, rfl⟩
  refine (rdrop h hw key hK (by omega)).mono ?_
  rintro e w' ⟨rfl, h'⟩
  refine ⟨⟨_, rfl⟩, rk_shut (fun X => by rw [mem_delT, hd, h1]) (fun X => ?_) h'⟩
  unfold dropL
  rw [h2]
  unfold zL
  by_cases e : X = key.data.toList
  · rw [if_pos e, if_neg fun hh => ((hd X).1 hh).2 e]
  · rw [if_neg e]
    by_cases hk : X ∈ dat K
    · rw [if_pos hk, if_pos ((hd X).2 ⟨hk, e⟩)]
    · rw [if_neg hk, if_neg fun hh => hk ((hd X).1 hh).1]
theorem rk_len (h : Hp o w (recT A K :: l)) (hw : Below w.heap.size w wb) (hn : K.Nodup) : Calls Try.prog 26 #[.pointer (some ⟨A, 0, none⟩)] wb fun e w' => e = .returned (.int .i64 K.length) ∧ wb = w' := by
  obtain ⟨D, L, h1, h2, hnd, hD, h⟩ := rk_open h
  have e : D.length = K.length := Nat.le_antisymm hD (by rw [← dat_len]; exact nd_leT (dat_nodup hn) fun X hX => (h1 X).2 hX)
  have := rlen h hw
  rw [e] at this
  exact this
theorem rk_nodes (h : Hp o w (recT A K :: l)) (hw : Below w.heap.size w wb) : ∃ X, TxE X (dat K) ∧ Calls Try.prog 27 #[.pointer (some ⟨A, 0, none⟩)] wb fun e w' => e = .returned (.int .i64 X.length) ∧ wb = w' := by
  obtain ⟨D, L, h1, h2, -, hD, h⟩ := rk_open h
  obtain ⟨X, hX, hc⟩ := rnodesE h hw
  refine ⟨X, ⟨hX.nd, fun p => ?_⟩, hc⟩
  rw [hX.mem, h1]
  simp only [h1]
theorem rk_above (h : Hp o w (recT A K :: l)) (hw : Below w.heap.size w wb) (key : ByteArray) (hK : key.size ≤ 140737488351232) (hl : K.length ≤ 1000) :
    Calls Try.prog 29 #[.pointer (some ⟨A, 0, none⟩), .string key] wb fun e w' => ∃ v Q, e = .returned v ∧ MkI Q (zL K) (fun X => X <+: key.data.toList) ∧ Hp o w' (rowT 63 2 v Q.length (Pa.cellsM Q) :: recT A K :: l) := by
  obtain ⟨D, L, h1, h2, -, hD, h⟩ := rk_open h
  refine (rabove h hw key hK (by omega)).mono ?_
  rintro e w' ⟨v, Q, rfl, hQ, -, h'⟩
  refine ⟨v, Q, rfl, ⟨hQ.up, fun p => by rw [hQ.mem, h2]⟩, ?_⟩
  exact (rk_shut h1 h2 (h'.pull 1 rfl)).pull 1 rfl
end
end Go.Proofs.Ytnmncjeplfkdpaa.Qa
