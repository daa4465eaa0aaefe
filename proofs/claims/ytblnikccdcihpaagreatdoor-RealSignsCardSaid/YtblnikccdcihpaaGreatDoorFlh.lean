/- The walk of the law RealNames: true. Conditions: the tables hold what start-up lays. -/
import Derived.Test.YtblnikccdcihpaaGreatDoorFlg
namespace Go.Proofs.YtblnikccdcihpaaGreatDoor
open Go.ChangeShapes Go.WideShapes Go.ChangeAt Go.RowKit Go.Sort

theorem parse_minf (w : World) : Calls Tryz.prog 9 #[.string ⟨#[45, 105, 110, 102]⟩] w fun e w' => e = .returned (.tuple #[.float .f64 18442240474082181120, .int .i64 0]) ∧ w = w' :=
  realParse_word _ _ w (.inr (.inl ⟨by decide +kernel, by decide +kernel, rfl⟩))
theorem parse_nan (w : World) : Calls Tryz.prog 9 #[.string ⟨#[110, 97, 110]⟩] w fun e w' => e = .returned (.tuple #[.float .f64 9221120237041090561, .int .i64 0]) ∧ w = w' :=
  realParse_word _ _ w (.inr (.inr ⟨by decide +kernel, by decide +kernel, by decide +kernel, rfl⟩))
theorem parse_m0 (w : World) (hc : RCtx w) :
    Calls Tryz.prog 9 #[.string ⟨#[45, 48]⟩] w fun e w' => e = .returned (.tuple #[.float .f64 9223372036854775808, .int .i64 0]) ∧ Below w.heap.size w w' :=
  realParse_ok ⟨#[45, 48]⟩ (by decide +kernel) (by decide +kernel) (by decide +kernel) (by decide) 2 (by decide) _ w hc (fun W => isDecimal_m0 _ (by decide) (by decide) (by decide) (by decide) W)
    (fun W hW => atof_m0 _ (by decide) (by decide) (by decide) (by decide) W hW)
theorem parse_1e (w : World) (hc : RCtx w) :
    Calls Tryz.prog 9 #[.string ⟨#[49, 101, 57, 57, 57]⟩] w fun e w' => e = .returned (.tuple #[.float .f64 0, .int .i64 21]) ∧ Below w.heap.size w w' :=
  realParse_rng ⟨#[49, 101, 57, 57, 57]⟩ (by decide +kernel) (by decide +kernel) (by decide +kernel) (by decide) 5 (by decide) _ w hc (fun W => isDecimal_1e _ (by decide) (by decide) (by decide) (by decide) (by decide) (by decide) (by decide) W)
    (fun W hW => atof_1e _ (by decide) (by decide) (by decide) (by decide) (by decide) (by decide) (by decide) W hW)
theorem sum_inf : floatBits .add .f64 18442240474082181120 4607182418800017408 = some 18442240474082181120 := by decide +kernel
theorem add_inf (w : World) : Calls Tryz.prog 10 #[.float .f64 18442240474082181120, .float .f64 4607182418800017408] w fun e w' => e = .returned (.tuple #[.float .f64 0, .int .i64 21]) ∧ w = w' :=
  add_err _ _ _ sum_inf (by decide) (by decide +kernel) w
theorem text_minf (w : World) : Calls Tryz.prog 12 #[.float .f64 18442240474082181120] w fun e w' => e = .returned (.string ⟨([45, 105, 110, 102] : List UInt8).toArray⟩) ∧ w = w' :=
  realText_special _ (by decide) _ w (.inr (.inr ⟨by decide, rfl⟩))
theorem text_nan (w : World) : Calls Tryz.prog 12 #[.float .f64 9221120237041090561] w fun e w' => e = .returned (.string ⟨([110, 97, 110] : List UInt8).toArray⟩) ∧ w = w' :=
  realText_special _ (by decide) _ w (.inl ⟨by decide, rfl⟩)
theorem text_m0 (w : World) : Calls Tryz.prog 12 #[.float .f64 9223372036854775808] w fun e w' => e = .returned (.string ⟨([45, 48] : List UInt8).toArray⟩) ∧ Below w.heap.size w w' :=
  realText_zero _ true (.inr ⟨rfl, rfl⟩) w
theorem bits_nan (w : World) : Calls Tryz.prog 13 #[.float .f64 9221120237041090561] w fun e w' => e = .returned (.int .u64 9221120237041090561) ∧ w = w' := realBits_calls _ (by decide) w
theorem same_nan (w : World) : Calls Tryz.prog 14 #[.float .f64 9221120237041090561, .float .f64 9221120237041090561] w fun e w' => e = .returned (.bool true) ∧ w = w' := same_calls _ _ (by decide) (by decide) w
theorem same_m0 (w : World) : Calls Tryz.prog 14 #[.float .f64 9223372036854775808, .float .f64 0] w fun e w' => e = .returned (.bool false) ∧ w = w' := same_calls _ _ (by decide) (by decide) w
theorem order_m0 (w : World) : Calls Tryz.prog 15 #[.float .f64 9223372036854775808, .float .f64 0] w fun e w' => e = .returned (.int .i64 (-1)) ∧ w = w' := order_calls _ _ (by decide) (by decide) w
theorem order_nan (w : World) : Calls Tryz.prog 15 #[.float .f64 9221120237041090561, .float .f64 18442240474082181120] w fun e w' => e = .returned (.int .i64 1) ∧ w = w' := order_calls _ _ (by decide) (by decide) w

set_option maxHeartbeats 1000000 in
set_option maxRecDepth 100000 in
theorem realNames (w : World) (hc : RCtx w) : Calls Tryz.prog 3 #[] w fun e w' => e = .returned (.bool true) ∧ Below w.heap.size w w' := by
  have H1 := Lib.hid parse_minf
  have H2 := Lib.hid parse_nan
  have H3 := Lib.hid parse_1e
  have H4 := Lib.hid add_inf
  have H5 := Lib.hid parse_m0
  have H6 := Lib.hid alive_calls
  have K1 := Lib.hid text_minf
  have K2 := Lib.hid text_nan
  have K3 := Lib.hid text_m0
  have K4 := Lib.hid bits_nan
  have K5 := Lib.hid same_nan
  have K6 := Lib.hid same_m0
  have K7 := Lib.hid order_m0
  have K8 := Lib.hid order_nan
  have Hc := Lib.hid hc
  clear hc
  go_enter Tryz.func3, Tryz.ntmps3
  go_wp2_with fail
  refine (H1.out _).mono ?_; rintro en w' ⟨rfl, rfl⟩
  go_wp2_with fail
  refine (H2.out _).mono ?_; rintro en w' ⟨rfl, rfl⟩
  go_wp2_with fail
  refine (H3.out _ Hc.out).mono ?_; rintro en w1 ⟨rfl, hb1⟩
  have Hc1 := Lib.hid (Hc.out.below hb1)
  go_wp2_with fail
  refine (H4.out _).mono ?_; rintro en w' ⟨rfl, rfl⟩
  go_wp2_with fail
  refine (H5.out _ Hc1.out).mono ?_; rintro en w2 ⟨rfl, hb2⟩
  have Hc2 := Lib.hid (Hc1.out.below hb2)
  have hb12 := bstep hb1 hb2
  clear hb1 hb2
  go_wp2_with fail
  refine (H6.out _ Hc2.out).mono ?_; rintro en w3 ⟨rfl, hb3⟩
  have hb13 := bstep hb12 hb3
  clear hb12 hb3
  go_wp2_with fail
  refine (K1.out _).mono ?_; rintro en w' ⟨rfl, rfl⟩
  go_wp2_with fail
  refine (K2.out _).mono ?_; rintro en w' ⟨rfl, rfl⟩
  go_wp2_with fail
  refine (K3.out _).mono ?_; rintro en w4 ⟨rfl, hb4⟩
  have hb14 := bstep hb13 hb4
  clear hb13 hb4
  go_wp2_with fail
  refine (K4.out _).mono ?_; rintro en w' ⟨rfl, rfl⟩
  go_wp2_with fail
  refine (K5.out _).mono ?_; rintro en w' ⟨rfl, rfl⟩
  go_wp2_with fail
  refine (K6.out _).mono ?_; rintro en w' ⟨rfl, rfl⟩
  go_wp2_with fail
  refine (K7.out _).mono ?_; rintro en w' ⟨rfl, rfl⟩
  go_wp2_with fail
  refine (K8.out _).mono ?_; rintro en w' ⟨rfl, rfl⟩
  go_wp2_with fail
  go_ret
  exact ⟨rfl, hb14⟩

theorem ret_true {p : Bool} (h : p = true) : Ending.returned (.bool p) = .returned (.bool true) := by rw [h]
theorem orderN_anti (a b : Nat) : orderN a b = -orderN b a := by
  unfold orderN cmpN
  by_cases h : rankN a < rankN b
  · rw [if_pos h, if_neg (by omega), if_pos h]
  · rw [if_neg h]
    by_cases k : rankN b < rankN a
    · rw [if_pos k, if_pos k]; rfl
    · rw [if_neg k, if_neg k, if_neg h]; rfl
theorem orderN_self (a : Nat) : orderN a a = 0 := by
  unfold orderN cmpN
  rw [if_neg (by omega), if_neg (by omega)]
theorem rankN_inj {a b : Nat} (ha : bitsN a < 18446744073709551616) (hb : bitsN b < 18446744073709551616) : rankN a = rankN b ↔ bitsN a = bitsN b := by
  unfold rankN
  split <;> split <;> omega
theorem orderN_zero (a b : Nat) (ha : a < 18446744073709551616) (hb : b < 18446744073709551616) : orderN a b = 0 ↔ bitsN a = bitsN b := by
  rw [← rankN_inj (bitsN_lt a ha) (bitsN_lt b hb)]
  unfold orderN cmpN
  split
  · constructor
    · intro h; cases h
    · intro h; omega
  · split
    · constructor
      · intro h; cases h
      · intro h; omega
    · constructor
      · intro _; omega
      · intro _; rfl
theorem orderN_le (a b : Nat) : orderN a b ≤ 0 ↔ rankN a ≤ rankN b := by
  unfold orderN cmpN
  split
  · constructor <;> intro _ <;> omega
  · split
    · constructor <;> intro _ <;> omega
    · constructor <;> intro _ <;> omega
theorem orderN_bd (a b : Nat) : -1 ≤ orderN a b ∧ orderN a b ≤ 1 := by
  unfold orderN cmpN
  split
  · omega
  · split <;> omega

set_option maxHeartbeats 2000000 in
set_option maxRecDepth 100000 in
theorem realOrders (a b c : Nat) (ha : a < 18446744073709551616) (hb : b < 18446744073709551616) (hc' : c < 18446744073709551616) (w : World) (hc : RCtx w) :
    Calls Tryz.prog 5 #[.int .u64 a, .int .u64 b, .int .u64 c] w fun e w' => e = .returned (.bool true) ∧ Below w.heap.size w w' := by
  have H6 := Lib.hid alive_calls
  have O1 := Lib.hid (order_calls a b ha hb)
  have O2 := Lib.hid (order_calls b c hb hc')
  have O3 := Lib.hid (order_calls a c ha hc')
  have O4 := Lib.hid (order_calls b a hb ha)
  have O5 := order_calls a a ha ha
  rw [orderN_self] at O5
  have O5 := Lib.hid O5
  have S1 := same_calls a b ha hb
  have anti := orderN_anti a b
  have z := orderN_zero a b ha hb
  have le1 := orderN_le a b
  have le2 := orderN_le b c
  have le3 := orderN_le a c
  have bd1 := orderN_bd a b
  have bd2 := orderN_bd b c
  have bd3 := orderN_bd a c
  have bd4 := orderN_bd b a
  have ez : (orderN a b == 0) = decide (bitsN a = bitsN b) := by
    by_cases h : bitsN a = bitsN b
    · rw [decide_eq_true h, beq_iff_eq]; exact z.2 h
    · rw [decide_eq_false h, beq_eq_false_iff_ne]; exact fun e => h (z.1 e)
  have key : orderN a b ≤ 0 → orderN b c ≤ 0 → orderN a c ≤ 0 := fun x y => le3.2 (Nat.le_trans (le1.1 x) (le2.1 y))
  generalize decide (bitsN a = bitsN b) = sm at *
  generalize orderN a b = p at *
  generalize orderN b c = q at *
  generalize orderN a c = s at *
  generalize orderN b a = p' at *
  have S1 := Lib.hid S1
  have Hc := Lib.hid hc
  have k1 : (p != -p') = false := by rw [bne_eq_false_iff_eq]; exact anti
  have k2 : ((p == 0) != sm) = false := by rw [bne_eq_false_iff_eq]; exact ez
  have k3 : (!((p == 0) == sm)) = false := by rw [ez]; cases sm <;> rfl
  have Key := Lib.hid key
  have ta : ((a : Int)).toNat = a := by omega
  have tb : ((b : Int)).toNat = b := by omega
  have tc : ((c : Int)).toNat = c := by omega
  have fin : ((decide (p ≤ 0) = false) ∨ (decide (p ≤ 0) = true ∧ decide (q ≤ 0) = false)) ∨ (p ≤ 0 ∧ q ≤ 0 ∧ s ≤ 0) := by
    by_cases x : p ≤ 0
    · by_cases y : q ≤ 0
      · exact .inr ⟨x, y, key x y⟩
      · exact .inl (.inr ⟨decide_eq_true x, decide_eq_false y⟩)
    · exact .inl (.inl (decide_eq_false x))
  have Fin4 := Lib.hid fin
  clear hc anti z le1 le2 le3 ez key fin
  go_enter Tryz.func5, Tryz.ntmps5
  go_wp2_with fail
  refine (H6.out _ Hc.out).mono ?_; rintro en w3 ⟨rfl, hb3⟩
  go_wp2_with fail
  refine (O1.out _).mono ?_; rintro en w' ⟨rfl, rfl⟩
  go_wp2_with fail
  refine (O2.out _).mono ?_; rintro en w' ⟨rfl, rfl⟩
  go_wp2_with fail
  refine (O3.out _).mono ?_; rintro en w' ⟨rfl, rfl⟩
  go_wp2_with fail
  refine (O4.out _).mono ?_; rintro en w' ⟨rfl, rfl⟩
  go_wp2_with fail
  refine (O5.out _).mono ?_; rintro en w' ⟨rfl, rfl⟩
  go_wp2_with fail
  refine (S1.out _).mono ?_; rintro en w' ⟨rfl, rfl⟩
  rcases Fin4.out with (f1 | ⟨f1, f2⟩) | ⟨f1, f2, f3⟩
  all_goals
    go_wp2_with fail
    go_ret
    exact ⟨rfl, hb3⟩
end Go.Proofs.YtblnikccdcihpaaGreatDoor
