/- Plain: the order of texts is the program's own. No condition. -/
import Derived.Test.YtedpbngfjjofhaaPbs
namespace Go.Proofs.Ytedpbngfjjofhaa.Pb
open Go.RowKit Go.Shelf
theorem Lt.cons_iff (x y : UInt8) (p q : T) : Lt (x :: p) (y :: q) ↔ x < y ∨ (x = y ∧ Lt p q) := by
  constructor
  · rintro (⟨h1, h2⟩ | ⟨r, u, v, h1, h2, h3⟩)
    · obtain ⟨e, h⟩ := List.cons_prefix_cons.1 h1
      exact .inr ⟨e, .inl ⟨h, fun e' => h2 (by rw [e, e'])⟩⟩
    · cases r with
      | nil =>
        have e1 := (List.cons_prefix_cons.1 h1).1
        have e2 := (List.cons_prefix_cons.1 h2).1
        rw [← e1, ← e2]
        exact .inl h3
      | cons z r =>
        obtain ⟨e1, k1⟩ := List.cons_prefix_cons.1 h1
        obtain ⟨e2, k2⟩ := List.cons_prefix_cons.1 h2
        exact .inr ⟨e1.symm.trans e2, .inr ⟨r, u, v, k1, k2, h3⟩⟩
  · rintro (h | ⟨rfl, h⟩)
    · exact .inr ⟨[], x, y, List.cons_prefix_cons.2 ⟨rfl, List.nil_prefix⟩, List.cons_prefix_cons.2 ⟨rfl, List.nil_prefix⟩, h⟩
    · rcases h with ⟨h1, h2⟩ | ⟨r, u, v, h1, h2, h3⟩
      · exact .inl ⟨List.cons_prefix_cons.2 ⟨rfl, h1⟩, fun e => h2 (by injection e)⟩
      · exact .inr ⟨x :: r, u, v, List.cons_prefix_cons.2 ⟨rfl, h1⟩, List.cons_prefix_cons.2 ⟨rfl, h2⟩, h3⟩
theorem Lt.nil_right (p : T) : ¬ Lt p [] := by
  rintro (⟨h1, h2⟩ | ⟨r, u, v, h1, h2, h3⟩)
  · exact h2 (List.prefix_nil.1 h1)
  · have := List.prefix_nil.1 h2
    simp at this
theorem Lt.nil_left (y : UInt8) (q : T) : Lt [] (y :: q) := .inl ⟨List.nil_prefix, by simp⟩
theorem less_lt : ∀ p q : T, Op.bytesLess p q = true ↔ Lt p q
  | [], [] => ⟨fun h => by simp [Op.bytesLess] at h, fun h => (Lt.nil_right _ h).elim⟩
  | [], y :: q => ⟨fun _ => Lt.nil_left y q, fun _ => by simp [Op.bytesLess]⟩
  | x :: p, [] => ⟨fun h => by simp [Op.bytesLess] at h, fun h => (Lt.nil_right _ h).elim⟩
  | x :: p, y :: q => by
    rw [Lt.cons_iff, ← less_lt p q]
    simp [Op.bytesLess]
theorem lt_total : ∀ p q : T, Lt p q ∨ p = q ∨ Lt q p
  | [], [] => .inr (.inl rfl)
  | [], y :: q => .inl (Lt.nil_left y q)
  | x :: p, [] => .inr (.inr (Lt.nil_left x p))
  | x :: p, y :: q => by
    rw [Lt.cons_iff, Lt.cons_iff]
    by_cases h1 : x < y
    · exact .inl (.inl h1)
    · by_cases h2 : y < x
      · exact .inr (.inr (.inl h2))
      · have e : x = y := UInt8.le_antisymm (UInt8.not_lt.1 h2) (UInt8.not_lt.1 h1)
        subst e
        rcases lt_total p q with h | rfl | h
        · exact .inl (.inr ⟨rfl, h⟩)
        · exact .inr (.inl rfl)
        · exact .inr (.inr (.inr ⟨rfl, h⟩))
theorem Lt.trans_ : ∀ {p q s : T}, Lt p q → Lt q s → Lt p s
  | _, [], _, h, _ => (Lt.nil_right _ h).elim
  | _, _ :: _, [], _, k => (Lt.nil_right _ k).elim
  | [], _ :: _, z :: s, _, _ => Lt.nil_left z s
  | x :: p, y :: q, z :: s, h, k => by
    rw [Lt.cons_iff] at h k ⊢
    rcases h with h | ⟨rfl, h⟩
    · rcases k with k | ⟨rfl, k⟩
      · exact .inl (UInt8.lt_trans h k)
      · exact .inl h
    · rcases k with k | ⟨rfl, k⟩
      · exact .inl k
      · exact .inr ⟨rfl, h.trans_ k⟩
end Go.Proofs.Ytedpbngfjjofhaa.Pb
