/- The walk of the law RealNames: true. Conditions: the tables hold what start-up lays. -/
import Derived.Test.YtnibfebfgdhfgaaGreatDoorFlg
namespace Go.Proofs.YtnibfebfgdhfgaaGreatDoor
open Go.ChangeShapes Go.WideShapes Go.ChangeAt Go.RowKit Go.Sort

theorem parse_minf (w : World) : Calls Tryz.prog 9 #[.string ⟨#[45, 105, 110, 102]⟩] w fun e w' => e = .returned (.tuple #[.float .f64 18442240474082181120, .int .i64 0]) ∧ w = w' :=
  realParse_word _ _ w (.inr (.inl ⟨by decide +kernel, by decide +kernel, rfl⟩))
theorem parse_nan (w : World) : Calls Tryz.prog 9 #[.string ⟨#[110, 97, 110]⟩] w fun e w' => e = .returned (.tuple #[.float .f64 9221120237041090561, .int .i64 0]) ∧ w = w' :=
  realParse_word _ _ w (.inr (.inr ⟨by decide +kernel, by decide +kernel, by decide +kernel, rfl⟩))
theorem parse_m0 (w : World) (hc : RCtx w) :
    Calls Tryz.prog 9 #[.string ⟨#[45, 48]⟩] w fun e w' => e = .returned (.tuple #[.float .f64 9223372036854775808, .int .i64 0]) ∧ Below w.heap.size w w' :=
  realParse_ok ⟨#[45, 48]⟩ (by decide +kernel) (by decide +kernel) (by decide +kernel) (by decide) 2 (by decide) _ w hc (fun W => isDecimal_m0 _ (by decide) (by decide) (by decide) (by decide) W)
    (fun W hW => atof_m0 _ (by decide) (by decide) (by decide) (by decide) W hW)
theorem parse_1e (w : World) (hc : RCtx w) :
    Calls Tryz.prog 9 #[.string ⟨#[49, 101, 57, 57, 57]⟩] w fun e w' => e = .returned (.tuple #[.float .f64 0, .int .i64 21]) ∧ Below w.heap.size w w' :=
  realParse_rng ⟨#[49, 101, 57, 57, 57]⟩ (by decide +kernel) (by decide +kernel) (by decide +kernel) (by decide) 5 (by decide) _ w hc (fun W => isDecimal_1e _ (by decide) (by decide) (by decide) (by decide) (by decide) (by decide) (by decide) W)
    (fun W hW => atof_1e _ (by decide) (by decide) (by decide) (by decide) (by decide) (by decide) (by decide) W hW)
theorem sum_inf : floatBits .add .f64 18442240474082181120 4607182418800017408 = some 18442240474082181120 := by decide +kernel
theorem add_inf (w : World) : Calls Tryz.prog 11 #[.float .f64 18442240474082181120, .float .f64 4607182418800017408] w fun e w' => e = .returned (.tuple #[.float .f64 0, .int .i64 21]) ∧ w = w' :=
  add_err _ _ _ sum_inf (by decide) (by decide +kernel) w
theorem text_minf (w : World) : Calls Tryz.prog 7 #[.float .f64 18442240474082181120] w fun e w' => e = .returned (.string ⟨([45, 105, 110, 102] : List UInt8).toArray⟩) ∧ w = w' :=
  realText_special _ (by decide) _ w (.inr (.inr ⟨by decide, rfl⟩))
theorem text_nan (w : World) : Calls Tryz.prog 7 #[.float .f64 9221120237041090561] w fun e w' => e = .returned (.string ⟨([110, 97, 110] : List UInt8).toArray⟩) ∧ w = w' :=
  realText_special _ (by decide) _ w (.inl ⟨by decide, rfl⟩)
theorem text_m0 (w : World) : Calls Tryz.prog 7 #[.float .f64 9223372036854775808] w fun e w' => e = .returned (.string ⟨([45, 48] : List UInt8).toArray⟩) ∧ Below w.heap.size w w' :=
  realText_zero _ true (.inr ⟨rfl, rfl⟩) w
theorem bits_nan (w : World) : Calls Tryz.prog 12 #[.float .f64 9221120237041090561] w fun e w' => e = .returned (.int .u64 9221120237041090561) ∧ w = w' := realBits_calls _ (by decide) w
theorem same_nan (w : World) : Calls Tryz.prog 8 #[.float .f64 9221120237041090561, .float .f64 9221120237041090561] w fun e w' => e = .returned (.bool true) ∧ w = w' := same_calls _ _ (by decide) (by decide) w
theorem same_m0 (w : World) : Calls Tryz.prog 8 #[.float .f64 9223372036854775808, .float .f64 0] w fun e w' => e = .returned (.bool false) ∧ w = w' := same_calls _ _ (by decide) (by decide) w
theorem ret_true {p : Bool} (h : p = true) : Ending.returned (.bool p) = .returned (.bool true) := by rw [h]
theorem orderN_anti (a b : Nat) : orderN a b = -orderN b a := by
  unfold orderN cmpN
  by_cases h : rankN a < rankN b
  · rw [if_pos h, if_neg (by omega), if_pos h]
  · rw [if_neg h]
    by_cases k : rankN b < rankN a
    · rw [if_pos k, if_pos k]; rfl
    · rw [if_neg k, if_neg k, if_neg h]; rfl
theorem orderN_self (a : Nat) : orderN a a = 0 := by
  unfold orderN cmpN
  rw [if_neg (by omega), if_neg (by omega)]
theorem rankN_inj {a b : Nat} (ha : bitsN a < 18446744073709551616) (hb : bitsN b < 18446744073709551616) : rankN a = rankN b ↔ bitsN a = bitsN b := by
  unfold rankN
  split <;> split <;> omega
theorem orderN_zero (a b : Nat) (ha : a < 18446744073709551616) (hb : b < 18446744073709551616) : orderN a b = 0 ↔ bitsN a = bitsN b := by
  rw [← rankN_inj (bitsN_lt a ha) (bitsN_lt b hb)]
  unfold orderN cmpN
  split
  · constructor
    · intro h; cases h
    · intro h; omega
  · split
    · constructor
      · intro h; cases h
      · intro h; omega
    · constructor
      · intro _; omega
      · intro _; rfl
theorem orderN_le (a b : Nat) : orderN a b ≤ 0 ↔ rankN a ≤ rankN b := by
  unfold orderN cmpN
  split
  · constructor <;> intro _ <;> omega
  · split
    · constructor <;> intro _ <;> omega
    · constructor <;> intro _ <;> omega
theorem orderN_bd (a b : Nat) : -1 ≤ orderN a b ∧ orderN a b ≤ 1 := by
  unfold orderN cmpN
  split
  · omega
  · split <;> omega

end Go.Proofs.YtnibfebfgdhfgaaGreatDoor
