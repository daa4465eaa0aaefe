/- What is known of blocks that no one writes: changed, doubled, put together, new. Of no program, no condition. -/
import Derived.Test.YtnmncjeplfkdpaaSpB
namespace Go.Proofs.Ytnmncjeplfkdpaa.Sp
open Go.ChangeShapes Go.WideShapes Go.ChangeAt Go.RowKit
section
variable {o w w' : World} {l : List Th}
theorem Hp.roMap {r r' : Ro} (h : Hp o w (roT r :: l)) (k : ∀ {R}, r.P R w → r'.P R w) : Hp o w (roT r' :: l) := by
  obtain ⟨O, R, ⟨A, B, ⟨h0, h1⟩, h2⟩, h3⟩ := h
  exact ⟨O, R, ⟨A, B, ⟨h0, k h1⟩, h2⟩, h3⟩
theorem Hp.roTwo {r1 r2 r : Ro} (h : Hp o w (roT r1 :: roT r2 :: l)) (k : ∀ {R}, r1.P R w → r2.P R w → r.P R w) : Hp o w (roT r :: l) := by
  obtain ⟨O, R, ⟨A, B, ⟨h0, h1⟩, ⟨C, D, ⟨h2, h3⟩, h4, h5, h6⟩, h7, h8⟩, h9⟩ := h
  refine ⟨O, R, ⟨A, D, ⟨h0, k h1 h3⟩, h4, fun x hx => absurd hx (h0 x), fun x => ?_⟩, h9⟩
  rw [h8, h6]
  constructor
  · rintro (h | h | h)
    · exact .inl h
    · exact absurd h (h2 x)
    · exact .inr h
  · rintro (h | h)
    · exact .inl h
    · exact .inr (.inr h)
theorem Hp.roNew (h : Hp o w l) (r : Ro) (hr : ∀ R, r.P R w) : Hp o w (roT r :: l) := by
  obtain ⟨O, R, h1, h2⟩ := h
  exact ⟨O, R, ⟨fun _ => False, O, ⟨fun _ h => h, hr R⟩, h1, fun _ h => h.elim, fun x => by simp⟩, h2⟩
theorem Hp.roOld (h : Hp o w l) (r : Ro) (hr : ∀ R, (∀ x, x < o.heap.size → R x) → r.P R w) : Hp o w (roT r :: l) := by
  obtain ⟨O, R, h1, h2, h3, h4, h5⟩ := h
  exact ⟨O, R, ⟨fun _ => False, O, ⟨fun _ h => h, hr R h4⟩, h1, fun _ h => h.elim, fun x => by simp⟩, h2, h3, h4, h5⟩
theorem Hp.roDup {r : Ro} (h : Hp o w (roT r :: l)) : Hp o w (roT r :: roT r :: l) := by
  obtain ⟨O, R, ⟨A, B, ⟨h0, h1⟩, h2, h3, h4⟩, h5⟩ := h
  exact ⟨O, R, ⟨fun _ => False, O, ⟨fun _ h => h, h1⟩, ⟨A, B, ⟨h0, h1⟩, h2, h3, h4⟩, fun _ h => h.elim, fun x => by simp⟩, h5⟩
theorem Hp.roMade (h : Hp o w l) (hb : Below w.heap.size w w') (r : Ro) (hr : ∀ R : Nat → Prop, (∀ x, w.heap.size ≤ x → x < w'.heap.size → R x) → r.P R w') : Hp o w' (roT r :: l) :=
  h.add hb (ts := [roT r]) fun {R} hR => ⟨fun _ => False, fun x => R x ∨ (w.heap.size ≤ x ∧ x < w'.heap.size), ⟨fun _ => False, fun _ => False, ⟨fun _ h => h, hr _ fun x h1 h2 => .inr ⟨h1, h2⟩⟩, fun _ h => h, fun _ h => h.elim, fun x => by simp⟩, fun x hx => hx.elim, fun _ h => .inl h, fun x hx => ⟨hx.imp id (·.1), hx.elim (fun h => Nat.lt_of_lt_of_le (hR x h) hb.size) (·.2)⟩⟩
end
end Go.Proofs.Ytnmncjeplfkdpaa.Sp
