/- Package real's Text at every number, and the law of signs. Conditions: the tables hold what start-up lays. -/
import Derived.Test.YtlebpaneignfaaaDoorFe5
import Derived.Test.YtlebpaneignfaaaDoorFord
namespace Go.Proofs.YtlebpaneignfaaaDoor
open Go.ChangeShapes Go.WideShapes Go.ChangeAt Go.RowKit Go.Sort

/-- What is written behind the sign. -/
def bodyText (r : Nat) : List UInt8 :=
  if r = 9218868437227405312 then [105, 110, 102] else if r = 0 then [48] else
  if r < 4547007122018943789 ∨ 4921056587992461136 ≤ r then eText false (shortDP (r / 4503599627370496) (r % 4503599627370496)).1 (shortDP (r / 4503599627370496) (r % 4503599627370496)).2
  else fixText false (shortDP (r / 4503599627370496) (r % 4503599627370496)).1 (shortDP (r / 4503599627370496) (r % 4503599627370496)).2
def below (b : Nat) : Bool := decide (9223372036854775808 ≤ b)

theorem fixText_sgn (neg : Bool) (d : Nat) (p : Int) : fixText neg d p = sgn neg ++ fixText false d p := by
  have h0 : sgn false = [] := rfl
  unfold fixText
  simp only []
  split
  · simp [h0]
  · split
    · simp [h0]
    · simp [h0]
theorem eText_sgn (neg : Bool) (d : Nat) (p : Int) : eText neg d p = sgn neg ++ eText false d p := by
  have h0 : sgn false = [] := rfl
  unfold eText
  simp [h0]
theorem and2047 (a : Nat) (h : a < 9223372036854775808) : bits .and .i64 (a : Int) 2047 = ((a % 2048 : Nat) : Int) := by
  have h1 : (BitVec.ofInt 64 (a : Int)).toNat = a := by
    rw [BitVec.ofInt_natCast, BitVec.toNat_ofNat]; exact Nat.mod_eq_of_lt (by omega)
  have h2 : (BitVec.ofInt 64 2047).toNat = 2 ^ 11 - 1 := by decide
  show IntKind.i64.wrap ((BitVec.ofInt 64 (a : Int) &&& BitVec.ofInt 64 2047).toNat : Int) = _
  rw [BitVec.toNat_and, h1, h2, Nat.and_two_pow_sub_one_eq_mod, IntKind.wrap_i64]
  omega
theorem bits3_of (b : Nat) (hb : b < 18446744073709551616) : Bits3 b (below b) (b % 9223372036854775808 / 4503599627370496) (b % 9223372036854775808 % 4503599627370496) := by
  refine ⟨hb, ?_, ?_, ?_, by omega, by omega⟩
  · unfold below
    by_cases h : 9223372036854775808 ≤ b
    · rw [decide_eq_true h, bne_iff_ne]; omega
    · rw [decide_eq_false h, bne_eq_false_iff_eq]; omega
  · rw [show (b : Int) / 4503599627370496 = ((b / 4503599627370496 : Nat) : Int) by omega, and2047 _ (by omega)]
    omega
  · have h := bits_and_u64_nat b 4503599627370495 hb (by omega)
    rw [show (4503599627370495 : Nat) = 2 ^ 52 - 1 by decide, Nat.and_two_pow_sub_one_eq_mod] at h
    rw [show b % 9223372036854775808 % 4503599627370496 = b % 2 ^ 52 by omega]
    exact h
theorem ord_pos (r c : Nat) (hr : r ≤ 9218868437227405312) (hc : c ≤ 9218868437227405312) : FloatKind.f64.format.order r c = some (if r < c then .lt else if r = c then .eq else .gt) := by
  have er : r % 9223372036854775808 = r := Nat.mod_eq_of_lt (by omega)
  have ec : c % 9223372036854775808 = c := Nat.mod_eq_of_lt (by omega)
  have sr : Ord.sr r = (r : Int) := by unfold Ord.sr Ord.neg Ord.rung; rw [decide_eq_false (by omega), er]; rfl
  have sc : Ord.sr c = (c : Int) := by unfold Ord.sr Ord.neg Ord.rung; rw [decide_eq_false (by omega), ec]; rfl
  rw [fmt_order, Ord.order_eq r c (by omega) (by omega) (by unfold Ord.rung; omega) (by unfold Ord.rung; omega), Ord.cmpI, sr, sc]
  congr 1
  by_cases h1 : r < c
  · rw [if_pos h1, if_pos (by omega)]
  · rw [if_neg h1, if_neg (by omega)]
    by_cases h2 : r = c
    · rw [if_pos h2, if_pos (by omega)]
    · rw [if_neg h2, if_neg (by omega)]
theorem shortCore_p (mn mx m odd : Nat) (e : Int) (i : Nat) : (shortCore mn mx m odd e i).2 ≤ 349 - (i : Int) := by
  unfold shortCore
  simp only []
  split
  · simp only []; omega
  · split
    · simp only []; omega
    · simp only []; omega
theorem shortDP_p (ex fr : Nat) (h0 : 1 ≤ ex) : (shortDP ex fr).2 ≤ 370 := by
  unfold shortDP
  rw [if_neg (by omega)]
  simp only []
  by_cases hs : fr = 0 ∧ 1 < ex
  · rw [if_pos hs]
    generalize hq : (348 - skew ((ex : Int) - 1086 + 11)).toNat = i
    have := shortCore_p ((fr + 4503599627370496) * 2048 - 512) ((fr + 4503599627370496) * 2048 + 1024) ((fr + 4503599627370496) * 2048) ((fr + 4503599627370496) * 2048 / 2048 % 2) ((ex : Int) - 1086) i
    exact Int.le_trans this (by omega)
  · rw [if_neg hs]
    generalize hq : (348 - l10p2 ((ex : Int) - 1086 + 11)).toNat = i
    have := shortCore_p ((fr + 4503599627370496) * 2048 - 1024) ((fr + 4503599627370496) * 2048 + 1024) ((fr + 4503599627370496) * 2048) ((fr + 4503599627370496) * 2048 / 2048 % 2) ((ex : Int) - 1086) i
    exact Int.le_trans this (by omega)

/-- real.Text at every number. -/
theorem realText_all (b : Nat) (hb : b < 18446744073709551616) (hn : b % 9223372036854775808 ≤ 9218868437227405312) (w : World) (hc : TCtx w) :
    Calls Tryd.prog 14 #[.float .f64 b] w fun e w' => e = .returned (.string ⟨(sgn (below b) ++ bodyText (b % 9223372036854775808)).toArray⟩) ∧ Below w.heap.size w w' := by
  have h3 := bits3_of b hb
  have hbn := bitsN_num b hn
  have hng : below b = decide (9223372036854775808 ≤ b) := rfl
  have hp := shortDP_p (b % 9223372036854775808 / 4503599627370496) (b % 9223372036854775808 % 4503599627370496)
  unfold bodyText
  by_cases h1 : b % 9223372036854775808 = 9218868437227405312
  · rw [if_pos h1]
    refine (realText_special b hb (sgn (below b) ++ [105, 110, 102]) w ?_).mono fun _ _ ⟨x, y⟩ => ⟨x, y ▸ Below.refl _ _⟩
    rw [hbn]
    by_cases hs : 9223372036854775808 ≤ b
    · rw [hng, decide_eq_true hs]
      exact .inr (.inr ⟨by omega, rfl⟩)
    · rw [hng, decide_eq_false hs]
      exact .inr (.inl ⟨by omega, rfl⟩)
  · rw [if_neg h1]
    by_cases h2 : b % 9223372036854775808 = 0
    · rw [if_pos h2]
      refine realText_zero b (below b) ?_ w
      by_cases hs : 9223372036854775808 ≤ b
      · rw [hng, decide_eq_true hs]; exact .inr ⟨by omega, rfl⟩
      · rw [hng, decide_eq_false hs]; exact .inl ⟨by omega, rfl⟩
    · rw [if_neg h2]
      have hne : b ≠ 9221120237041090561 ∧ b ≠ 9218868437227405312 ∧ b ≠ 18442240474082181120 ∧ b ≠ 0 ∧ b ≠ 9223372036854775808 := by omega
      have o1 := ord_pos (b % 9223372036854775808) 4547007122018943789 hn (by omega)
      have o2 := ord_pos (b % 9223372036854775808) 4921056587992461136 hn (by omega)
      by_cases h4 : b % 9223372036854775808 < 4547007122018943789 ∨ 4921056587992461136 ≤ b % 9223372036854775808
      · rw [if_pos h4, ← eText_sgn]
        refine realText_e b (below b) _ _ h3 (by omega) (by omega) hbn hne ?_ w hc
        rw [o1, o2]
        by_cases h5 : b % 9223372036854775808 < 4547007122018943789
        · left; rw [if_pos h5]; rfl
        · right
          refine ⟨?_, ?_⟩
          · rw [if_neg h5]; split <;> rfl
          · rw [if_neg (by omega)]; split <;> rfl
      · rw [if_neg h4, ← fixText_sgn]
        refine realText_fix b (below b) _ _ h3 (by omega) (by omega) (hp (by omega)) hbn hne ?_ ?_ w hc
        · rw [o1, if_neg (by omega)]; split <;> rfl
        · rw [o2, if_pos (by omega)]; rfl

end Go.Proofs.YtlebpaneignfaaaDoor
