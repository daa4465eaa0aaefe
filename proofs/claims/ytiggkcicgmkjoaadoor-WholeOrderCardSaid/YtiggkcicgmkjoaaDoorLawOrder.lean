/- The walk of the law WholeOrder: true, at any three numbers. -/
import Derived.Test.YtiggkcicgmkjoaaDoorAlive
import Derived.Test.YtiggkcicgmkjoaaDoorSums
namespace Go.Proofs.YtiggkcicgmkjoaaDoor
open Go.ChangeShapes Go.WideShapes Go.ChangeAt Go.RowKit

theorem ret_b {p : Bool} (h : p = true) : Ending.returned (.bool p) = .returned (.bool true) := by rw [h]

theorem less_texts {a b : Int} (ha : 0 ≤ a) (hb : 0 ≤ b) (h : (Lib.itoa a).length = (Lib.itoa b).length) : Op.bytesLess (Lib.itoa a) (Lib.itoa b) = decide (a < b) := Num.itoa_less ha hb h

set_option maxHeartbeats 800000 in
theorem wholeOrder (a b c : Int) (ha0 : -9223372036854775808 ≤ a) (ha1 : a ≤ 9223372036854775807) (hb0 : -9223372036854775808 ≤ b) (hb1 : b ≤ 9223372036854775807) (hc0 : -9223372036854775808 ≤ c) (hc1 : c ≤ 9223372036854775807) (w : World) (hc : Ctx w) :
    Calls Tryd.prog 7 #[.int .i64 a, .int .i64 b, .int .i64 c] w fun e w' => e = .returned (.bool true) ∧ Below w.heap.size w w' := by
  have H := Lib.hid hc; clear hc
  have A0 := ha0; have A1 := ha1; have B0 := hb0; have B1 := hb1
  obtain ⟨x, e, hx⟩ : ∃ x e, addOf a c = (x, e) := ⟨_, _, rfl⟩
  obtain ⟨y, f, hy⟩ : ∃ x e, addOf b c = (x, e) := ⟨_, _, rfl⟩
  have key : e = 0 ∧ f = 0 → decide (a < b) = decide (x < y) := by
    unfold addOf at hx hy
    rintro ⟨rfl, rfl⟩
    split at hx <;> split at hy <;> simp only [Prod.mk.injEq] at hx hy
    · have : (a < b) ↔ (x < y) := by omega
      exact decide_eq_decide.2 this
    all_goals omega
  have four : (e == 0) = false ∨ ((e == 0) = true ∧ (f == 0) = false) ∨ ((e == 0) = true ∧ (f == 0) = true ∧ a < b ∧ x < y) ∨ ((e == 0) = true ∧ (f == 0) = true ∧ (b ≤ a ∧ decide (a < b) = false) ∧ (y ≤ x ∧ decide (x < y) = false)) := by
    by_cases he : e = 0
    · by_cases hf : f = 0
      · have k := decide_eq_decide.1 (key ⟨he, hf⟩)
        by_cases hab : a < b
        · exact .inr (.inr (.inl ⟨by simpa using he, by simpa using hf, hab, k.1 hab⟩))
        · exact .inr (.inr (.inr ⟨by simpa using he, by simpa using hf, ⟨by omega, decide_eq_false hab⟩, ⟨by omega, decide_eq_false (fun hh => hab (k.2 hh))⟩⟩))
      · exact .inr (.inl ⟨by simpa using he, by simpa using hf⟩)
    · exact .inl (by simpa using he)
  have five : a < 0 ∨ (0 ≤ a ∧ b < 0) ∨ (0 ≤ a ∧ 0 ≤ b ∧ (((Lib.itoa a).length : Int) == ((Lib.itoa b).length : Int)) = false) ∨
      (0 ≤ a ∧ 0 ≤ b ∧ (((Lib.itoa a).length : Int) == ((Lib.itoa b).length : Int)) = true ∧ Op.bytesLess (Lib.itoa a) (Lib.itoa b) = decide (a < b)) := by
    by_cases pa : a < 0
    · exact .inl pa
    · by_cases pb : b < 0
      · exact .inr (.inl ⟨by omega, pb⟩)
      · cases hl : (((Lib.itoa a).length : Int) == ((Lib.itoa b).length : Int))
        · exact .inr (.inr (.inl ⟨by omega, by omega, rfl⟩))
        · exact .inr (.inr (.inr ⟨by omega, by omega, rfl, less_texts (by omega) (by omega) (by have h := beq_iff_eq.1 hl; omega)⟩))
  have X := Lib.hid hx; have Y := Lib.hid hy; have F4 := Lib.hid four; have F5 := Lib.hid five
  clear hx hy key four five
  go_enter Tryd.func7, Tryd.ntmps7
  go_wp2_with fail
  refine (alive _ H.out).mono ?_
  rintro e1 w1 ⟨rfl, hbe⟩
  have W1 := Lib.hid hbe; clear hbe
  go_wp2_with fail
  refine (Add_calls a c (by assumption) (by assumption) (by assumption) (by assumption) _ _ _ X.out).mono ?_
  rintro e2 w2 ⟨rfl, rfl⟩
  go_wp2_with fail
  refine (Add_calls b c (by assumption) (by assumption) (by assumption) (by assumption) _ _ _ Y.out).mono ?_
  rintro e2 w2 ⟨rfl, rfl⟩
  rcases F4.out with h1 | ⟨h1, h2⟩ | ⟨h1, h2, h3, h4⟩ | ⟨h1, h2, ⟨h3, h5⟩, ⟨h4, h6⟩⟩
  all_goals
    go_wp2_with fail
    refine (Text_calls a (by assumption) (by assumption) _ (H.out.below W1.out)).mono ?_
    rintro e2 w2 ⟨rfl, hbe⟩
    have W2 := Lib.hid (bstep W1.out hbe); clear hbe
    go_wp2_with fail
    refine (Text_calls b (by assumption) (by assumption) _ (H.out.below W2.out)).mono ?_
    rintro e2 w3 ⟨rfl, hbe⟩
    have W3 := Lib.hid (bstep W2.out hbe); clear hbe
    rcases F5.out with g1 | ⟨g1, g2⟩ | ⟨g1, g2, g3⟩ | ⟨g1, g2, g3, g4⟩
    · go_wp2_with fail
      go_ret
      exact ⟨rfl, W3.out⟩
    · go_wp2_with fail
      go_ret
      exact ⟨rfl, W3.out⟩
    · have G3 := Lib.hid g3; clear g3
      go_wp2_with fail
      all_goals first
        | (exfalso; have g := G3.out; rw [beq_eq_false_iff_ne] at g; omega)
        | (go_ret; exact ⟨ret_b (by simp; try omega), W3.out⟩)
    · have G3 := Lib.hid g3; clear g3
      by_cases hab : a < b
      · rw [decide_eq_true hab] at g4
        go_wp2_with fail
        all_goals first
          | (exfalso; have g := beq_iff_eq.1 G3.out; omega)
          | (go_ret; exact ⟨ret_b (by simp; try omega), W3.out⟩)
      · rw [decide_eq_false hab] at g4
        go_wp2_with fail
        all_goals first
          | (exfalso; have g := beq_iff_eq.1 G3.out; omega)
          | (go_ret; exact ⟨ret_b (by simp; try omega), W3.out⟩)
end Go.Proofs.YtiggkcicgmkjoaaDoor
