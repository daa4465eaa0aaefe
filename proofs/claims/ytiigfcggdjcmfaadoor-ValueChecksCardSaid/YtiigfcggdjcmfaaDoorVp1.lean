/- What a list of some values has of them: whether it can be. No program, no condition but that each is small. -/
import Derived.Test.YtiigfcggdjcmfaaDoorVf1
import Derived.Test.YtiigfcggdjcmfaaDoorVe2
import Derived.Test.YtiigfcggdjcmfaaDoorVc8
namespace Go.Proofs.YtiigfcggdjcmfaaDoor
open Go.ChangeShapes Go.WideShapes Go.ChangeAt Go.RowKit

/-- Right but for the depth. -/
def gs : Val → Bool
  | .no => false
  | .mk k t z r f _ _ n K => ownB k z r f && textB k t.data.toList && listB k n && allTo (fun i => (K i).kind != 14 && gs (K i)) n
theorem allTo_and (p q : Nat → Bool) (n : Nat) : allTo (fun i => p i && q i) n = (allTo p n && allTo q n) := by
  induction n with
  | zero => rfl
  | succ n ih =>
    rw [allTo_succ, allTo_succ, allTo_succ, ih]
    cases allTo p n <;> cases allTo q n <;> cases p n <;> cases q n <;> rfl
theorem allTo_le (g : Nat → Nat) (d n : Nat) : allTo (fun i => decide (g i ≤ d)) n = decide (maxTo g n ≤ d) := by
  induction n with
  | zero => exact (decide_eq_true (Nat.zero_le _)).symm
  | succ n ih =>
    rw [allTo_succ, ih, maxTo_succ, ← Bool.decide_and]
    congr 1
    exact propext ⟨fun h => by omega, fun h => by omega⟩
theorem allTo_congr {p q : Nat → Bool} {n : Nat} (h : ∀ i, i < n → p i = q i) : allTo p n = allTo q n := by
  induction n with
  | zero => rfl
  | succ n ih => rw [allTo_succ, allTo_succ, ih fun i hi => h i (by omega), h n (by omega)]
theorem good_gs : ∀ (v : Val) (d : Nat), good v d = (gs v && decide (v.depth ≤ d)) := by
  intro v
  induction v with
  | no => intro d; rfl
  | mk k t z r f a c n K ih =>
    intro d
    show (ownB k z r f && textB k t.data.toList && listB k n && !(lists k && d == 0) && allTo (fun i => (K i).kind != 14 && good (K i) (d - 1)) n) =
      (ownB k z r f && textB k t.data.toList && listB k n && allTo (fun i => (K i).kind != 14 && gs (K i)) n && decide ((if lists k then 1 + maxTo (fun i => (K i).depth) n else 0) ≤ d))
    cases hk : lists k with
    | false =>
      cases hl : listB k n with
      | false => simp
      | true =>
        obtain rfl : n = 0 := by
          by_cases h : 0 < n
          · have hh : lists k = true := by
              unfold listB at hl
              unfold lists
              by_cases e5 : k = 5
              · subst e5; rfl
              · by_cases e13 : k = 13
                · subst e13; rfl
                · by_cases e12 : k = 12
                  · subst e12; rfl
                  · by_cases e14 : k = 14
                    · subst e14; rfl
                    · rw [if_neg e5, if_neg e13, if_neg e12, if_neg e14, decide_eq_true_eq] at hl
                      omega
            rw [hk] at hh; cases hh
          · omega
        have e : decide ((if false = true then 1 + maxTo (fun i => (K i).depth) 0 else 0) ≤ d) = true := decide_eq_true (by rw [if_neg (by decide)]; exact Nat.zero_le _)
        rw [e]
        show (_ && !(false && d == 0) && true) = (_ && true && true)
        simp
    | true =>
      rw [if_pos rfl]
      cases d with
      | zero =>
        rw [decide_eq_false (show ¬ 1 + maxTo (fun i => (K i).depth) n ≤ 0 by omega)]
        simp
      | succ d =>
        have e1 : allTo (fun i => (K i).kind != 14 && good (K i) (d + 1 - 1)) n = (allTo (fun i => (K i).kind != 14 && gs (K i)) n && decide (maxTo (fun i => (K i).depth) n ≤ d)) := by
          rw [← allTo_le, ← allTo_and]
          refine allTo_congr fun i hi => ?_
          rw [ih i, Nat.add_sub_cancel, Bool.and_assoc]
        have e2 : decide (1 + maxTo (fun i => (K i).depth) n ≤ d + 1) = decide (maxTo (fun i => (K i).depth) n ≤ d) := by
          congr 1
          exact propext ⟨fun h => by omega, fun h => by omega⟩
        have e3 : (!(true && d + 1 == 0)) = true := rfl
        rw [e1, e2, e3, Bool.and_true]
        simp only [Bool.and_assoc]
theorem check_gs (v : Val) : (checkN v == 0) = (gs v && decide (v.depth ≤ 8) && decide (v.count ≤ 1000)) := by
  unfold checkN
  rw [good_gs]
  cases (gs v && decide (v.depth ≤ 8) && decide (v.count ≤ 1000)) <;> rfl
theorem allTo_true {p : Nat → Bool} {n : Nat} (h : allTo p n = true) : ∀ i, i < n → p i = true := by
  induction n with
  | zero => intro i hi; omega
  | succ n ih =>
    rw [allTo_succ, Bool.and_eq_true] at h
    intro i hi
    by_cases e : i = n
    · subst e; exact h.2
    · exact ih h.1 i (by omega)
theorem parts_ok (a : Option Addr) (c n : Nat) (K : Nat → Val) :
    (checkN (.mk 5 ⟨#[]⟩ 0 0 false a c n K) == 0) = (allTo (fun i => (checkN (K i) == 0) && (K i).kind != 14) n && decide (1 + sumTo (fun i => (K i).count) n ≤ 1000) && decide (maxTo (fun i => (K i).depth) n < 8)) := by
  rw [check_gs]
  have e1 : gs (.mk 5 ⟨#[]⟩ 0 0 false a c n K) = allTo (fun i => (K i).kind != 14 && gs (K i)) n := by
    show (ownB 5 0 0 false && textB 5 [] && listB 5 n && _) = _
    have h1 : ownB 5 0 0 false = true := by decide
    have h2 : textB 5 [] = true := by decide
    have h3 : listB 5 n = true := rfl
    rw [h1, h2, h3]; rfl
  have e2 : (Val.mk 5 ⟨#[]⟩ 0 0 false a c n K).depth = 1 + maxTo (fun i => (K i).depth) n := rfl
  have e3 : (Val.mk 5 ⟨#[]⟩ 0 0 false a c n K).count = 1 + sumTo (fun i => (K i).count) n := rfl
  rw [e1, e2, e3]
  by_cases hs : 1 + sumTo (fun i => (K i).count) n ≤ 1000
  · by_cases hd : maxTo (fun i => (K i).depth) n < 8
    · rw [decide_eq_true hs, decide_eq_true hd, decide_eq_true (show 1 + maxTo (fun i => (K i).depth) n ≤ 8 by omega), Bool.and_true, Bool.and_true, Bool.and_true, Bool.and_true]
      refine allTo_congr fun i hi => ?_
      have h1 := sumTo_le (g := fun i => (K i).count) hi
      have h2 := maxTo_le (g := fun i => (K i).depth) hi
      rw [check_gs, decide_eq_true (show (K i).depth ≤ 8 by omega), decide_eq_true (show (K i).count ≤ 1000 by omega), Bool.and_true, Bool.and_true, Bool.and_comm]
    · rw [decide_eq_false hd, decide_eq_false (show ¬ 1 + maxTo (fun i => (K i).depth) n ≤ 8 by omega)]
      simp
  · rw [decide_eq_false hs]
    simp
end Go.Proofs.YtiigfcggdjcmfaaDoor
