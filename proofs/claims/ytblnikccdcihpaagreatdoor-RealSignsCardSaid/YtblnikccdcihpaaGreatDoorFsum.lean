/- The walk of the law RealSums: true, at any two numbers' bits. Conditions: the tables hold what start-up lays. -/
import Derived.Test.YtblnikccdcihpaaGreatDoorFlh
import Derived.Test.YtblnikccdcihpaaGreatDoorFord
import Derived.Laws.FloatBits
namespace Go.Proofs.YtblnikccdcihpaaGreatDoor
open Go.ChangeShapes Go.WideShapes Go.ChangeAt Go.RowKit Go.Sort

theorem fmt_order (a b : Nat) : FloatKind.f64.format.order a b = Ieee.double.order a b := rfl

/-- The bits that the tape chooses for a sum that is none. -/
def nanOf (a b : Nat) (w : World) : Nat := Question.cut (.nanBits .f64 a b) (w.tape w.drawn (.nanBits .f64 a b))
theorem nanOf_lt (a b : Nat) (w : World) : nanOf a b w < 18446744073709551616 ∧ 9218868437227405312 < nanOf a b w % 9223372036854775808 := by
  unfold nanOf Question.cut
  simp only []
  generalize w.tape w.drawn (.nanBits .f64 a b) = t
  have h1 : t / 2 % (2 ^ 52 - 1) < 2 ^ 52 - 1 := Nat.mod_lt _ (by decide)
  generalize t / 2 % (2 ^ 52 - 1) = x at *
  rcases (show t % 2 = 0 ∨ t % 2 = 1 by omega) with h2 | h2
  · rw [h2]; omega
  · rw [h2]; omega
theorem run_add_nan (a b : Nat) (h : floatBits .add .f64 a b = none) (w : World) :
    (binOp .add 22 (.float .f64 a) (.float .f64 b)).run Tryz.prog w = .ok (.float .f64 (nanOf a b w)) w.drew := by
  unfold floatBits at h
  simp only at h
  simp [binOp, Op.floatArith, h, choose, nanOf]
  rfl

set_option maxRecDepth 100000 in
theorem refBits_calls (b : Nat) (hb : b < 18446744073709551616) (w : World) :
    Calls Tryz.prog 18 #[.float .f64 b] w fun e w' => e = .returned (.int .u64 (bitsN b : Nat)) ∧ w = w' := by
  unfold bitsN
  by_cases hn : 9218868437227405312 < b % 9223372036854775808
  · have ho : (FloatKind.f64.format.order b b != some .eq) = true := by rw [fmt_order, Ord.order_nan_l b b hn]; rfl
    rw [if_pos hn]
    go_enter Tryz.func18, Tryz.ntmps18
    go_wp2_with fail
    go_ret
    exact ⟨rfl, rfl⟩
  · have ho : (FloatKind.f64.format.order b b != some .eq) = false := by
      rw [fmt_order, Ord.order_eq b b hb hb (by unfold Ord.rung; omega) (by unfold Ord.rung; omega), Ord.cmpI, if_neg (by omega), if_pos rfl]
      rfl
    rw [if_neg hn]
    go_enter Tryz.func18, Tryz.ntmps18
    go_wp2_with fail
    go_ret
    exact ⟨rfl, rfl⟩

/-- What Add answers of a sum: the number, and the error. -/
def addFin (r : Nat) : Nat × Int := if 9218868437227405312 ≤ r % 9223372036854775808 then (0, 21) else (r, 0)
theorem and_mid (y : Nat) : y &&& (2 ^ 52 * (2 ^ 11 - 1)) = 2 ^ 52 * (y / 2 ^ 52 % 2 ^ 11) := by
  refine Nat.eq_of_testBit_eq fun i => ?_
  rw [Nat.testBit_and, Nat.testBit_two_pow_mul, Nat.testBit_two_pow_mul, Nat.testBit_two_pow_sub_one, Nat.testBit_mod_two_pow, Nat.testBit_div_two_pow]
  by_cases h : 52 ≤ i
  · rw [decide_eq_true h, show i - 52 + 52 = i by omega, Bool.true_and, Bool.true_and, Bool.and_comm]
  · rw [decide_eq_false h]; simp
theorem and_inf (x : Nat) (hx : x < 18446744073709551616) : (bits .and .u64 (bitsN x : Int) 9218868437227405312 == 9218868437227405312) = decide (9218868437227405312 ≤ x % 9223372036854775808) := by
  have h := bits_and_u64_nat (bitsN x) 9218868437227405312 (bitsN_lt x hx) (by omega)
  rw [show (9218868437227405312 : Nat) = 2 ^ 52 * (2 ^ 11 - 1) from by decide, and_mid] at h
  rw [show (9218868437227405312 : Int) = ((2 ^ 52 * (2 ^ 11 - 1) : Nat) : Int) from by decide, h]
  have hb := bitsN_lt x hx
  have key : (2 ^ 52 * (bitsN x / 2 ^ 52 % 2 ^ 11) = 2 ^ 52 * (2 ^ 11 - 1)) ↔ 9218868437227405312 ≤ x % 9223372036854775808 := by
    unfold bitsN at *
    split <;> omega
  by_cases c : 9218868437227405312 ≤ x % 9223372036854775808
  · rw [decide_eq_true c, beq_iff_eq, key.2 c]
  · rw [decide_eq_false c, beq_eq_false_iff_ne]
    intro e
    exact c (key.1 (Int.ofNat.inj e))

set_option maxRecDepth 100000 in
theorem realAdd_calls (a b r : Nat) (hr : floatBits .add .f64 a b = some r) (w : World) :
    Calls Tryz.prog 10 #[.float .f64 a, .float .f64 b] w fun e w' => e = .returned (.tuple #[.float .f64 (addFin r).1, .int .i64 (addFin r).2]) ∧ w = w' := by
  have hlt : r < 18446744073709551616 := by
    have := FloatKind.f64.format.add_lt hr
    exact this
  have hi := and_inf r hlt
  unfold addFin
  by_cases c : 9218868437227405312 ≤ r % 9223372036854775808
  · rw [decide_eq_true c] at hi
    rw [if_pos c]
    exact add_err a b r hr hlt hi w
  · rw [decide_eq_false c] at hi
    rw [if_neg c]
    exact add_ok a b r hr hlt hi w
set_option maxRecDepth 100000 in
theorem realAdd_nan (a b : Nat) (hr : floatBits .add .f64 a b = none) (w : World) :
    Calls Tryz.prog 10 #[.float .f64 a, .float .f64 b] w fun e w' => e = .returned (.tuple #[.float .f64 0, .int .i64 21]) ∧ ∃ n, w' = w.drewN n := by
  have hrun := run_add_nan a b hr w
  obtain ⟨hlt, hn⟩ := nanOf_lt a b w
  generalize nanOf a b w = r at *
  have hi := and_inf r hlt
  rw [decide_eq_true (by omega)] at hi
  have HB := Lib.hid (realBits_calls r hlt)
  clear hr
  go_enter Tryz.func10, Tryz.ntmps10
  go_wp2_with fail
  refine (HB.out _).mono ?_; rintro en w' ⟨rfl, rfl⟩
  go_wp2_with fail
  go_ret2
  exact ⟨rfl, 1, rfl⟩

theorem bits_three (r : Nat) (hlt : r < 18446744073709551616) (c : 9218868437227405312 ≤ r % 9223372036854775808) : bitsN r = 9221120237041090561 ∨ bitsN r = 9218868437227405312 ∨ bitsN r = 18442240474082181120 := by
  unfold bitsN
  split <;> omega
theorem bits_none (r : Nat) (c : ¬ 9218868437227405312 ≤ r % 9223372036854775808) : bitsN r ≠ 9221120237041090561 ∧ bitsN r ≠ 9218868437227405312 ∧ bitsN r ≠ 18442240474082181120 := by
  unfold bitsN
  rw [if_neg (by omega)]
  omega

set_option maxRecDepth 100000 in
theorem refAdd_of (a b r : Nat) (hlt : r < 18446744073709551616) (n : Nat) (w : World) (hrun : (binOp .add 22 (.float .f64 a) (.float .f64 b)).run Tryz.prog w = .ok (.float .f64 r) (w.drewN n)) :
    Calls Tryz.prog 17 #[.float .f64 a, .float .f64 b] w fun e w' => e = .returned (.tuple #[.float .f64 (addFin r).1, .int .i64 (addFin r).2]) ∧ ∃ n, w' = w.drewN n := by
  have HB := Lib.hid (refBits_calls r hlt)
  unfold addFin
  by_cases c : 9218868437227405312 ≤ r % 9223372036854775808
  · rw [if_pos c]
    have h3 := bits_three r hlt c
    generalize bitsN r = x at *
    rcases h3 with rfl | rfl | rfl
    all_goals
      go_enter Tryz.func17, Tryz.ntmps17
      go_wp2_with fail
      refine (HB.out _).mono ?_; rintro en w' ⟨rfl, rfl⟩
      go_wp2_with fail
      go_ret2
      exact ⟨rfl, n, rfl⟩
  · rw [if_neg c]
    obtain ⟨h1, h2, h3⟩ := bits_none r c
    generalize bitsN r = x at *
    have k1 : ((x : Int) == 9221120237041090561) = false := by rw [beq_eq_false_iff_ne]; omega
    have k2 : ((x : Int) == 9218868437227405312) = false := by rw [beq_eq_false_iff_ne]; omega
    have k3 : ((x : Int) == 18442240474082181120) = false := by rw [beq_eq_false_iff_ne]; omega
    clear h1 h2 h3 c
    go_enter Tryz.func17, Tryz.ntmps17
    go_wp2_with fail
    refine (HB.out _).mono ?_; rintro en w' ⟨rfl, rfl⟩
    go_wp2_with fail
    go_ret2
    exact ⟨rfl, n, rfl⟩

theorem bitsN_num (a : Nat) (h : a % 9223372036854775808 ≤ 9218868437227405312) : bitsN a = a := by
  unfold bitsN
  rw [if_neg (by omega)]
theorem order_num (a b : Nat) (ha : a < 18446744073709551616) (hb : b < 18446744073709551616) (na : a % 9223372036854775808 ≤ 9218868437227405312) (nb : b % 9223372036854775808 ≤ 9218868437227405312) (hab : a ≠ b) :
    orderN a b = if Ord.sr a < Ord.sr b ∨ (Ord.sr a = Ord.sr b ∧ 9223372036854775808 ≤ a) then -1 else 1 := by
  have h1 : rankN a < rankN b ↔ (Ord.sr a < Ord.sr b ∨ (Ord.sr a = Ord.sr b ∧ 9223372036854775808 ≤ a)) := by
    unfold rankN
    rw [bitsN_num a na, bitsN_num b nb]
    unfold Ord.sr Ord.neg Ord.rung
    by_cases sa : 9223372036854775808 ≤ a <;> by_cases sb : 9223372036854775808 ≤ b <;> simp only [sa, sb, decide_true, decide_false, if_true, if_false, Bool.false_eq_true, and_true, and_false, or_false] <;> omega
  have h2 : rankN b < rankN a ↔ ¬ (Ord.sr a < Ord.sr b ∨ (Ord.sr a = Ord.sr b ∧ 9223372036854775808 ≤ a)) := by
    unfold rankN
    rw [bitsN_num a na, bitsN_num b nb]
    unfold Ord.sr Ord.neg Ord.rung
    by_cases sa : 9223372036854775808 ≤ a <;> by_cases sb : 9223372036854775808 ≤ b <;> simp only [sa, sb, decide_true, decide_false, if_true, if_false, Bool.false_eq_true, and_true, and_false, or_false] <;> omega
  unfold orderN cmpN
  by_cases P : Ord.sr a < Ord.sr b ∨ (Ord.sr a = Ord.sr b ∧ 9223372036854775808 ≤ a)
  · rw [if_pos (h1.2 P), if_pos P]
  · rw [if_neg (fun h => P (h1.1 h)), if_pos (h2.2 P), if_neg P]
theorem order_nan1 (a b : Nat) (hb : b < 18446744073709551616) (hx : bitsN a = 9221120237041090561) (hne : bitsN a ≠ bitsN b) : orderN a b = 1 := by
  have r1 : rankN a = 18444492273895866369 := by unfold rankN; rw [hx]; decide
  have nb : b % 9223372036854775808 ≤ 9218868437227405312 := by
    rcases Nat.lt_or_ge 9218868437227405312 (b % 9223372036854775808) with h | h
    · exact absurd (by rw [hx]; unfold bitsN; rw [if_pos h]) hne
    · exact h
  have r2 : rankN b < 18444492273895866369 := by
    unfold rankN
    rw [bitsN_num b nb]
    split <;> omega
  unfold orderN cmpN
  rw [r1, if_neg (by omega), if_pos r2]
theorem order_nan2 (a b : Nat) (ha : a < 18446744073709551616) (hx : bitsN b = 9221120237041090561) (hne : bitsN a ≠ bitsN b) : orderN a b = -1 := by
  rw [orderN_anti, order_nan1 b a ha hx (fun h => hne h.symm)]

set_option maxHeartbeats 1000000 in
set_option maxRecDepth 100000 in
theorem refOrder_calls (a b : Nat) (ha : a < 18446744073709551616) (hb : b < 18446744073709551616) (w : World) :
    Calls Tryz.prog 19 #[.float .f64 a, .float .f64 b] w fun e w' => e = .returned (.int .i64 (orderN a b)) ∧ w = w' := by
  have HA := Lib.hid (refBits_calls a ha)
  have HB := Lib.hid (refBits_calls b hb)
  by_cases hne : bitsN a = bitsN b
  · rw [(orderN_zero a b ha hb).2 hne]
    have e1 : ((bitsN a : Int) == (bitsN b : Int)) = true := by rw [beq_iff_eq]; omega
    generalize bitsN a = x at *
    generalize bitsN b = y at *
    clear hne
    go_enter Tryz.func19, Tryz.ntmps19
    go_wp2_with fail
    refine (HA.out _).mono ?_; rintro en w' ⟨rfl, rfl⟩
    go_wp2_with fail
    refine (HB.out _).mono ?_; rintro en w' ⟨rfl, rfl⟩
    go_wp2_with fail
    go_ret
    exact ⟨rfl, rfl⟩
  · have e1 : ((bitsN a : Int) == (bitsN b : Int)) = false := by rw [beq_eq_false_iff_ne]; omega
    by_cases na : bitsN a = 9221120237041090561
    · rw [order_nan1 a b hb na hne]
      have e2 : ((bitsN a : Int) == 9221120237041090561) = true := by rw [beq_iff_eq]; omega
      generalize bitsN a = x at *
      generalize bitsN b = y at *
      clear hne na
      go_enter Tryz.func19, Tryz.ntmps19
      go_wp2_with fail
      refine (HA.out _).mono ?_; rintro en w' ⟨rfl, rfl⟩
      go_wp2_with fail
      refine (HB.out _).mono ?_; rintro en w' ⟨rfl, rfl⟩
      go_wp2_with fail
      go_ret
      exact ⟨rfl, rfl⟩
    · have e2 : ((bitsN a : Int) == 9221120237041090561) = false := by rw [beq_eq_false_iff_ne]; omega
      by_cases nb : bitsN b = 9221120237041090561
      · rw [order_nan2 a b ha nb hne]
        have e3 : ((bitsN b : Int) == 9221120237041090561) = true := by rw [beq_iff_eq]; omega
        generalize bitsN a = x at *
        generalize bitsN b = y at *
        clear hne na nb
        go_enter Tryz.func19, Tryz.ntmps19
        go_wp2_with fail
        refine (HA.out _).mono ?_; rintro en w' ⟨rfl, rfl⟩
        go_wp2_with fail
        refine (HB.out _).mono ?_; rintro en w' ⟨rfl, rfl⟩
        go_wp2_with fail
        go_ret
        exact ⟨rfl, rfl⟩
      · have e3 : ((bitsN b : Int) == 9221120237041090561) = false := by rw [beq_eq_false_iff_ne]; omega
        have fa : a % 9223372036854775808 ≤ 9218868437227405312 := by
          rcases Nat.lt_or_ge 9218868437227405312 (a % 9223372036854775808) with h | h
          · exact absurd (by unfold bitsN; rw [if_pos h]) na
          · exact h
        have fb : b % 9223372036854775808 ≤ 9218868437227405312 := by
          rcases Nat.lt_or_ge 9218868437227405312 (b % 9223372036854775808) with h | h
          · exact absurd (by unfold bitsN; rw [if_pos h]) nb
          · exact h
        rw [bitsN_num a fa, bitsN_num b fb] at hne
        rw [bitsN_num a fa] at HA e1 e2
        rw [bitsN_num b fb] at HB e1 e3
        rw [order_num a b ha hb fa fb hne]
        have ho := Ord.order_eq a b ha hb fa fb
        rw [← fmt_order, Ord.cmpI] at ho
        by_cases c1 : Ord.sr a < Ord.sr b
        · rw [if_pos c1] at ho
          have l1 : (FloatKind.f64.format.order a b == some .lt) = true := by rw [ho]; rfl
          rw [if_pos (.inl c1)]
          clear hne na nb fa fb ho c1
          go_enter Tryz.func19, Tryz.ntmps19
          go_wp2_with fail
          refine (HA.out _).mono ?_; rintro en w' ⟨rfl, rfl⟩
          go_wp2_with fail
          refine (HB.out _).mono ?_; rintro en w' ⟨rfl, rfl⟩
          go_wp2_with fail
          go_ret
          exact ⟨rfl, rfl⟩
        · rw [if_neg c1] at ho
          by_cases c2 : Ord.sr a = Ord.sr b
          · rw [if_pos c2] at ho
            have l1 : (FloatKind.f64.format.order a b == some .lt) = false := by rw [ho]; rfl
            have l2 : (FloatKind.f64.format.order a b == some .eq) = true := by rw [ho]; rfl
            by_cases s : 9223372036854775808 ≤ a
            · rw [if_pos (.inr ⟨c2, s⟩)]
              have l3 : ((a : Int) / 9223372036854775808 == 1) = true := by rw [beq_iff_eq]; omega
              clear hne na nb fa fb ho c1 c2 s
              go_enter Tryz.func19, Tryz.ntmps19
              go_wp2_with fail
              refine (HA.out _).mono ?_; rintro en w' ⟨rfl, rfl⟩
              go_wp2_with fail
              refine (HB.out _).mono ?_; rintro en w' ⟨rfl, rfl⟩
              go_wp2_with fail
              go_ret
              exact ⟨rfl, rfl⟩
            · rw [if_neg (by rintro (h | ⟨_, h⟩); exact c1 h; exact s h)]
              have l3 : ((a : Int) / 9223372036854775808 == 1) = false := by rw [beq_eq_false_iff_ne]; omega
              clear hne na nb fa fb ho c1 c2 s
              go_enter Tryz.func19, Tryz.ntmps19
              go_wp2_with fail
              refine (HA.out _).mono ?_; rintro en w' ⟨rfl, rfl⟩
              go_wp2_with fail
              refine (HB.out _).mono ?_; rintro en w' ⟨rfl, rfl⟩
              go_wp2_with fail
              go_ret
              exact ⟨rfl, rfl⟩
          · rw [if_neg c2] at ho
            have l1 : (FloatKind.f64.format.order a b == some .lt) = false := by rw [ho]; rfl
            have l2 : (FloatKind.f64.format.order a b == some .eq) = false := by rw [ho]; rfl
            rw [if_neg (by rintro (h | ⟨h, _⟩); exact c1 h; exact c2 h)]
            clear hne na nb fa fb ho c1 c2
            go_enter Tryz.func19, Tryz.ntmps19
            go_wp2_with fail
            refine (HA.out _).mono ?_; rintro en w' ⟨rfl, rfl⟩
            go_wp2_with fail
            refine (HB.out _).mono ?_; rintro en w' ⟨rfl, rfl⟩
            go_wp2_with fail
            go_ret
            exact ⟨rfl, rfl⟩

/-- Both Adds, whatever the sum is: the same number, or both nothing and the error. -/
theorem both_adds (a b : Nat) : ∃ (s : Nat) (e : Int), s < 18446744073709551616 ∧ (∀ w, Calls Tryz.prog 10 #[.float .f64 a, .float .f64 b] w fun en w' => en = .returned (.tuple #[.float .f64 s, .int .i64 e]) ∧ ∃ n, w' = w.drewN n) ∧
    (∀ w, Calls Tryz.prog 17 #[.float .f64 a, .float .f64 b] w fun en w' => en = .returned (.tuple #[.float .f64 s, .int .i64 e]) ∧ ∃ n, w' = w.drewN n) := by
  cases hr : floatBits .add .f64 a b with
  | none =>
    refine ⟨0, 21, by omega, realAdd_nan a b hr, fun w => ?_⟩
    obtain ⟨hlt, hn⟩ := nanOf_lt a b w
    have h := refAdd_of a b (nanOf a b w) hlt 1 w (run_add_nan a b hr w)
    have e : addFin (nanOf a b w) = (0, 21) := by unfold addFin; rw [if_pos (by omega)]
    rw [e] at h
    exact h
  | some r =>
    have hlt : r < 18446744073709551616 := by
      have := FloatKind.f64.format.add_lt hr
      exact this
    refine ⟨(addFin r).1, (addFin r).2, ?_, fun w => (realAdd_calls a b r hr w).mono fun _ _ ⟨x, y⟩ => ⟨x, 0, y.symm⟩, fun w => refAdd_of a b r hlt 0 w (run_float_arith (P := Tryz.prog) w .add 22 .f64 _ _ _ hr)⟩
    unfold addFin
    split <;> simp only [] <;> omega

set_option maxHeartbeats 1000000 in
set_option maxRecDepth 100000 in
theorem realSums (a b : Nat) (ha : a < 18446744073709551616) (hb : b < 18446744073709551616) (w : World) (hc : RCtx w) :
    Calls Tryz.prog 4 #[.int .u64 a, .int .u64 b] w fun e w' => e = .returned (.bool true) ∧ Below w.heap.size w w' := by
  have H6 := Lib.hid alive_calls
  obtain ⟨s, e, hs, hA1, hA2⟩ := both_adds a b
  have A1 := Lib.hid hA1
  have A2 := Lib.hid hA2
  have B0 := refBits_calls s hs
  have Ba := refBits_calls a ha
  have Bb := refBits_calls b hb
  have S1 := same_calls a b ha hb
  have O1 := order_calls a b ha hb
  have O2 := refOrder_calls a b ha hb
  have ed : ((bitsN a : Int) == (bitsN b : Int)) = decide (bitsN a = bitsN b) := by
    by_cases h : bitsN a = bitsN b
    · simp [h]
    · rw [decide_eq_false h, beq_eq_false_iff_ne]; omega
  generalize decide (bitsN a = bitsN b) = sm at *
  generalize bitsN a = xa at *
  generalize bitsN b = xb at *
  generalize bitsN s = xs at *
  generalize orderN a b = o at *
  have B0 := Lib.hid B0
  have Ba := Lib.hid Ba
  have Bb := Lib.hid Bb
  have S1 := Lib.hid S1
  have O1 := Lib.hid O1
  have O2 := Lib.hid O2
  have Hc := Lib.hid hc
  have ta : ((a : Int)).toNat = a := by omega
  have tb : ((b : Int)).toNat = b := by omega
  have k1 : ((xs : Int) == (xs : Int)) = true := by simp
  have k2 : (e == e) = true := by simp
  have k3 : (o == o) = true := by simp
  have k4 : (sm == sm) = true := by simp
  clear hc hA1 hA2
  go_enter Tryz.func4, Tryz.ntmps4
  go_wp2_with fail
  refine (H6.out _ Hc.out).mono ?_; rintro en w3 ⟨rfl, hb3⟩
  go_wp2_with fail
  refine (A1.out _).mono ?_; rintro en w' ⟨rfl, n1, rfl⟩
  go_wp2_with fail
  refine (A2.out _).mono ?_; rintro en w' ⟨rfl, n2, rfl⟩
  go_wp2_with fail
  refine (B0.out _).mono ?_; rintro en w' ⟨rfl, rfl⟩
  go_wp2_with fail
  refine (B0.out _).mono ?_; rintro en w' ⟨rfl, rfl⟩
  go_wp2_with fail
  refine (S1.out _).mono ?_; rintro en w' ⟨rfl, rfl⟩
  go_wp2_with fail
  refine (Ba.out _).mono ?_; rintro en w' ⟨rfl, rfl⟩
  go_wp2_with fail
  refine (Bb.out _).mono ?_; rintro en w' ⟨rfl, rfl⟩
  go_wp2_with fail
  all_goals
    refine (O1.out _).mono ?_; rintro en w' ⟨rfl, rfl⟩
    go_wp2_with fail
    refine (O2.out _).mono ?_; rintro en w' ⟨rfl, rfl⟩
    go_wp2_with fail
    go_ret
    exact ⟨rfl, bstep hb3 (below_drewN _ _)⟩
end Go.Proofs.YtblnikccdcihpaaGreatDoor
