/- Package value's Same; what a copy has of its value. Condition of Same: no deeper than 65536 lists. -/
import Derived.Test.YtpmlhmdmnbmnnaaGreatDoorVe4
import Derived.Test.YtpmlhmdmnbmnnaaGreatDoorVeM
import Derived.Test.YtpmlhmdmnbmnnaaGreatDoorVcN
namespace Go.Proofs.YtpmlhmdmnbmnnaaGreatDoor
open Go.ChangeShapes Go.WideShapes Go.ChangeAt Go.RowKit

def Sames (x y : Val) (w : World) (e : Ending) (w' : World) : Prop := e = .returned (.bool (same x y)) ∧ Below w.heap.size w w'
theorem allTo_all {g : Nat → Bool} {n : Nat} (h : ∀ i, i < n → g i = true) : allTo g n = true := by
  induction n with
  | zero => rfl
  | succ n ih => rw [allTo_succ, ih fun i hi => h i (by omega), h n (by omega)]; rfl
theorem maxTo_eq {g h : Nat → Nat} {n : Nat} (e : ∀ i, i < n → g i = h i) : maxTo g n = maxTo h n := by
  induction n with
  | zero => rfl
  | succ n ih => rw [maxTo_succ, maxTo_succ, ih fun i hi => e i (by omega), e n (by omega)]
theorem sumTo_eq {g h : Nat → Nat} {n : Nat} (e : ∀ i, i < n → g i = h i) : sumTo g n = sumTo h n := by
  induction n with
  | zero => rfl
  | succ n ih => rw [sumTo_succ, sumTo_succ, ih fun i hi => e i (by omega), e n (by omega)]
theorem Twin.same {v : Val} : ∀ {v' : Val}, Twin v v' → same v v' = true ∧ same v' v = true := by
  induction v with
  | no => exact fun h => h.elim
  | mk k t z r f a c n K ih =>
    rintro v' ⟨a', c', K', rfl, hk⟩
    rw [same_kids rfl, same_kids rfl]
    exact ⟨allTo_all fun i hi => (ih i (hk i hi)).1, allTo_all fun i hi => (ih i (hk i hi)).2⟩
theorem Twin.nest {v : Val} : ∀ {v' : Val}, Twin v v' → v'.nest = v.nest ∧ v'.count = v.count ∧ v'.depth = v.depth := by
  induction v with
  | no => exact fun h => h.elim
  | mk k t z r f a c n K ih =>
    rintro v' ⟨a', c', K', rfl, hk⟩
    refine ⟨?_, ?_, ?_⟩
    · show 1 + maxTo _ _ = 1 + maxTo _ _
      rw [maxTo_eq fun i hi => (ih i (hk i hi)).1]
    · rw [count_eq, count_eq, sumTo_eq fun i hi => (ih i (hk i hi)).2.1]
    · show (if lists k then 1 + maxTo _ _ else 0) = (if lists k then 1 + maxTo _ _ else 0)
      rw [maxTo_eq fun i hi => (ih i (hk i hi)).2.2]
end Go.Proofs.YtpmlhmdmnbmnnaaGreatDoor
/- What a list of some values has of them: whether it can be. No program, no condition but that each is small. -/
namespace Go.Proofs.YtpmlhmdmnbmnnaaGreatDoor
open Go.ChangeShapes Go.WideShapes Go.ChangeAt Go.RowKit

/-- Right but for the depth. -/
def gs : Val → Bool
  | .no => false
  | .mk k t z r f _ _ n K => ownB k z r f && textB k t.data.toList && listB k n && allTo (fun i => (K i).kind != 14 && gs (K i)) n
theorem allTo_and (p q : Nat → Bool) (n : Nat) : allTo (fun i => p i && q i) n = (allTo p n && allTo q n) := by
  induction n with
  | zero => rfl
  | succ n ih =>
    rw [allTo_succ, allTo_succ, allTo_succ, ih]
    cases allTo p n <;> cases allTo q n <;> cases p n <;> cases q n <;> rfl
theorem allTo_le (g : Nat → Nat) (d n : Nat) : allTo (fun i => decide (g i ≤ d)) n = decide (maxTo g n ≤ d) := by
  induction n with
  | zero => exact (decide_eq_true (Nat.zero_le _)).symm
  | succ n ih =>
    rw [allTo_succ, ih, maxTo_succ, ← Bool.decide_and]
    congr 1
    exact propext ⟨fun h => by omega, fun h => by omega⟩
theorem allTo_congr {p q : Nat → Bool} {n : Nat} (h : ∀ i, i < n → p i = q i) : allTo p n = allTo q n := by
  induction n with
  | zero => rfl
  | succ n ih => rw [allTo_succ, allTo_succ, ih fun i hi => h i (by omega), h n (by omega)]
theorem good_gs : ∀ (v : Val) (d : Nat), good v d = (gs v && decide (v.depth ≤ d)) := by
  intro v
  induction v with
  | no => intro d; rfl
  | mk k t z r f a c n K ih =>
    intro d
    show (ownB k z r f && textB k t.data.toList && listB k n && !(lists k && d == 0) && allTo (fun i => (K i).kind != 14 && good (K i) (d - 1)) n) =
      (ownB k z r f && textB k t.data.toList && listB k n && allTo (fun i => (K i).kind != 14 && gs (K i)) n && decide ((if lists k then 1 + maxTo (fun i => (K i).depth) n else 0) ≤ d))
    cases hk : lists k with
    | false =>
      cases hl : listB k n with
      | false => simp
      | true =>
        obtain rfl : n = 0 := by
          by_cases h : 0 < n
          · have hh : lists k = true := by
              unfold listB at hl
              unfold lists
              by_cases e5 : k = 5
              · subst e5; rfl
              · by_cases e13 : k = 13
                · subst e13; rfl
                · by_cases e12 : k = 12
                  · subst e12; rfl
                  · by_cases e14 : k = 14
                    · subst e14; rfl
                    · rw [if_neg e5, if_neg e13, if_neg e12, if_neg e14, decide_eq_true_eq] at hl
                      omega
            rw [hk] at hh; cases hh
          · omega
        have e : decide ((if false = true then 1 + maxTo (fun i => (K i).depth) 0 else 0) ≤ d) = true := decide_eq_true (by rw [if_neg (by decide)]; exact Nat.zero_le _)
        rw [e]
        show (_ && !(false && d == 0) && true) = (_ && true && true)
        simp
    | true =>
      rw [if_pos rfl]
      cases d with
      | zero =>
        rw [decide_eq_false (show ¬ 1 + maxTo (fun i => (K i).depth) n ≤ 0 by omega)]
        simp
      | succ d =>
        have e1 : allTo (fun i => (K i).kind != 14 && good (K i) (d + 1 - 1)) n = (allTo (fun i => (K i).kind != 14 && gs (K i)) n && decide (maxTo (fun i => (K i).depth) n ≤ d)) := by
          rw [← allTo_le, ← allTo_and]
          refine allTo_congr fun i hi => ?_
          rw [ih i, Nat.add_sub_cancel, Bool.and_assoc]
        have e2 : decide (1 + maxTo (fun i => (K i).depth) n ≤ d + 1) = decide (maxTo (fun i => (K i).depth) n ≤ d) := by
          congr 1
          exact propext ⟨fun h => by omega, fun h => by omega⟩
        have e3 : (!(true && d + 1 == 0)) = true := rfl
        rw [e1, e2, e3, Bool.and_true]
        simp only [Bool.and_assoc]
theorem check_gs (v : Val) : (checkN v == 0) = (gs v && decide (v.depth ≤ 8) && decide (v.count ≤ 1000)) := by
  unfold checkN
  rw [good_gs]
  cases (gs v && decide (v.depth ≤ 8) && decide (v.count ≤ 1000)) <;> rfl
theorem allTo_true {p : Nat → Bool} {n : Nat} (h : allTo p n = true) : ∀ i, i < n → p i = true := by
  induction n with
  | zero => intro i hi; omega
  | succ n ih =>
    rw [allTo_succ, Bool.and_eq_true] at h
    intro i hi
    by_cases e : i = n
    · subst e; exact h.2
    · exact ih h.1 i (by omega)
theorem parts_ok (a : Option Addr) (c n : Nat) (K : Nat → Val) :
    (checkN (.mk 5 ⟨#[]⟩ 0 0 false a c n K) == 0) = (allTo (fun i => (checkN (K i) == 0) && (K i).kind != 14) n && decide (1 + sumTo (fun i => (K i).count) n ≤ 1000) && decide (maxTo (fun i => (K i).depth) n < 8)) := by
  rw [check_gs]
  have e1 : gs (.mk 5 ⟨#[]⟩ 0 0 false a c n K) = allTo (fun i => (K i).kind != 14 && gs (K i)) n := by
    show (ownB 5 0 0 false && textB 5 [] && listB 5 n && _) = _
    have h1 : ownB 5 0 0 false = true := by decide
    have h2 : textB 5 [] = true := by decide
    have h3 : listB 5 n = true := rfl
    rw [h1, h2, h3]; rfl
  have e2 : (Val.mk 5 ⟨#[]⟩ 0 0 false a c n K).depth = 1 + maxTo (fun i => (K i).depth) n := rfl
  have e3 : (Val.mk 5 ⟨#[]⟩ 0 0 false a c n K).count = 1 + sumTo (fun i => (K i).count) n := rfl
  rw [e1, e2, e3]
  by_cases hs : 1 + sumTo (fun i => (K i).count) n ≤ 1000
  · by_cases hd : maxTo (fun i => (K i).depth) n < 8
    · rw [decide_eq_true hs, decide_eq_true hd, decide_eq_true (show 1 + maxTo (fun i => (K i).depth) n ≤ 8 by omega), Bool.and_true, Bool.and_true, Bool.and_true, Bool.and_true]
      refine allTo_congr fun i hi => ?_
      have h1 := sumTo_le (g := fun i => (K i).count) hi
      have h2 := maxTo_le (g := fun i => (K i).depth) hi
      rw [check_gs, decide_eq_true (show (K i).depth ≤ 8 by omega), decide_eq_true (show (K i).count ≤ 1000 by omega), Bool.and_true, Bool.and_true, Bool.and_comm]
    · rw [decide_eq_false hd, decide_eq_false (show ¬ 1 + maxTo (fun i => (K i).depth) n ≤ 8 by omega)]
      simp
  · rw [decide_eq_false hs]
    simp
end Go.Proofs.YtpmlhmdmnbmnnaaGreatDoor
/- The walk of the law ValueParts: true, at any values. No condition. -/
namespace Go.Proofs.YtpmlhmdmnbmnnaaGreatDoor
open Go.ChangeShapes Go.WideShapes Go.ChangeAt Go.RowKit

theorem box_facts (w : World) (k : Int) (t : ByteArray) (z : Int) (r : Nat) (f : Bool) (a : Option Addr) (c n : Nat) (K : Nat → Val) :
    Below w.heap.size w (w.alloc (.cells #[.int .i64 k, .string t, .int .i64 z, .float .f64 r, .bool f, .slice a n c] 36)) ∧
    (w.alloc (.cells #[.int .i64 k, .string t, .int .i64 z, .float .f64 r, .bool f, .slice a n c] 36)).heap.size = w.heap.size + 1 ∧
    At (w.alloc (.cells #[.int .i64 k, .string t, .int .i64 z, .float .f64 r, .bool f, .slice a n c] 36)) w.heap.size 0 (.mk k t z r f a c n K) := by
  refine ⟨(Below.refl _ _).alloc (Nat.le_refl _) _, by simp, ⟨?_, ?_, ?_, ?_, ?_, ?_⟩⟩ <;> go_simp
theorem sum_small (K : Nat → Val) (j : Nat) (h : ∀ i, i < j → small (K i) = true) : sumTo (fun i => (K i).count) j ≤ 3000 * j ∧ maxTo (fun i => (K i).depth) j ≤ 31 := by
  induction j with
  | zero => exact ⟨Nat.le_refl _, Nat.zero_le _⟩
  | succ j ih =>
    obtain ⟨h1, h2⟩ := ih fun i hi => h i (by omega)
    obtain ⟨h3, h4⟩ := small_facts (h j (by omega))
    have h5 := depth_le_nest (K j)
    rw [sumTo_succ, maxTo_succ]
    omega
theorem good_kid2 (v v' : Val) (h : Twin v v') : ∀ d, good v' d = good v d := by
  revert v'
  induction v with
  | no => exact fun _ h => h.elim
  | mk k t z r f a c n K ih =>
    rintro v' ⟨a', c', K', rfl, hk⟩ d
    rw [good_eq, good_eq]
    congr 1
    refine allTo_congr fun i hi => ?_
    have hki : (K' i).kind = (K i).kind := by
      have := hk i hi
      cases hK : K i with
      | no => rw [hK] at this; exact this.elim
      | mk k2 t2 z2 r2 f2 a2 c2 n2 K2 =>
        rw [hK] at this
        obtain ⟨_, _, _, e, _⟩ := this
        rw [e]; rfl
    rw [hki, ih i (K' i) (hk i hi)]
theorem check_twin2 {v v' : Val} (h : Twin v v') : checkN v' = checkN v := by
  unfold checkN
  rw [good_kid2 v v' h, h.nest.2.1]
def okPart (K : Nat → Val) : Nat → Bool := allTo fun i => (checkN (K i) == 0) && (K i).kind != 14
end Go.Proofs.YtpmlhmdmnbmnnaaGreatDoor
