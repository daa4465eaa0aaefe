/- The chapter's example, which each law of layer 2 asks first: 0.1 and 0.2 together, over the translated program. Conditions: the tables hold what start-up lays. -/
import Derived.Test.YtnibfebfgdhfgaaGreatDoorFle
import Derived.Test.YtnibfebfgdhfgaaGreatDoorFlf
namespace Go.Proofs.YtnibfebfgdhfgaaGreatDoor
open Go.ChangeShapes Go.WideShapes Go.ChangeAt Go.RowKit Go.Sort

theorem dp_alive : shortDP 1021 900719925474100 = (30000000000000004, -17) := by decide +kernel
theorem nd_alive : Lib.nDigits 30000000000000004 = 17 := Lib.nDigits_unique 16 _ (by decide) (by decide)
theorem dec_alive : Lib.decDigits 30000000000000004 = [51, 48, 48, 48, 48, 48, 48, 48, 48, 48, 48, 48, 48, 48, 48, 48, 52] := by
  rw [Lib.decDigits_eq, nd_alive]
  decide +kernel
theorem fix_alive : fixText false 30000000000000004 (-17) = [48, 46, 51, 48, 48, 48, 48, 48, 48, 48, 48, 48, 48, 48, 48, 48, 48, 48, 52] := by
  unfold fixText digs
  rw [nd_alive, dec_alive]
  decide +kernel
theorem bits3_alive : Bits3 4599075939470750516 false 1021 900719925474100 := ⟨by decide, by decide, by decide +kernel, by decide +kernel, by decide, by decide⟩
theorem text_alive (w : World) (hc : RCtx w) :
    Calls Tryz.prog 7 #[.float .f64 4599075939470750516] w fun e w' => e = .returned (.string ⟨([48, 46, 51, 48, 48, 48, 48, 48, 48, 48, 48, 48, 48, 48, 48, 48, 48, 48, 52] : List UInt8).toArray⟩) ∧ Below w.heap.size w w' := by
  have h := realText_fix 4599075939470750516 false 1021 900719925474100 bits3_alive (by decide) (by decide) (by rw [dp_alive]; decide) (by decide) (by decide) (by decide +kernel) (by decide +kernel) w hc.toTCtx
  rw [dp_alive, fix_alive] at h
  exact h
theorem q1 : floatBits .quo .f64 (floatOfInt .f64 ((1 : Nat) : Int)) 4621819117588971520 = some 4591870180066957722 := by decide +kernel
theorem q2 : floatBits .quo .f64 (floatOfInt .f64 ((2 : Nat) : Int)) 4621819117588971520 = some 4596373779694328218 := by decide +kernel
theorem sum_alive : floatBits .add .f64 4591870180066957722 4596373779694328218 = some 4599075939470750516 := by decide +kernel
theorem parse_01 (w : World) (hc : RCtx w) :
    Calls Tryz.prog 9 #[.string ⟨#[48, 46, 49]⟩] w fun e w' => e = .returned (.tuple #[.float .f64 4591870180066957722, .int .i64 0]) ∧ Below w.heap.size w w' :=
  realParse_ok ⟨#[48, 46, 49]⟩ (by decide +kernel) (by decide +kernel) (by decide +kernel) (by decide) 3 (by decide) _ w hc (fun W => isDecimal_0d _ 1 (by decide) (by decide) (by decide) (by decide) (by decide) (by decide) (by decide) W)
    (fun W hW => atof_tenth _ 1 (by decide) (by decide) (by decide) (by decide) (by decide) (by decide) (by decide) _ q1 W hW)
theorem parse_02 (w : World) (hc : RCtx w) :
    Calls Tryz.prog 9 #[.string ⟨#[48, 46, 50]⟩] w fun e w' => e = .returned (.tuple #[.float .f64 4596373779694328218, .int .i64 0]) ∧ Below w.heap.size w w' :=
  realParse_ok ⟨#[48, 46, 50]⟩ (by decide +kernel) (by decide +kernel) (by decide +kernel) (by decide) 3 (by decide) _ w hc (fun W => isDecimal_0d _ 2 (by decide) (by decide) (by decide) (by decide) (by decide) (by decide) (by decide) W)
    (fun W hW => atof_tenth _ 2 (by decide) (by decide) (by decide) (by decide) (by decide) (by decide) (by decide) _ q2 W hW)
theorem add_alive (w : World) :
    Calls Tryz.prog 11 #[.float .f64 4591870180066957722, .float .f64 4596373779694328218] w fun e w' => e = .returned (.tuple #[.float .f64 4599075939470750516, .int .i64 0]) ∧ w = w' :=
  add_ok _ _ _ sum_alive (by decide) (by decide +kernel) w

set_option maxRecDepth 100000 in
theorem alive_calls (w : World) (hc : RCtx w) : Calls Tryz.prog 5 #[] w fun e w' => e = .returned (.bool true) ∧ Below w.heap.size w w' := by
  have H1 := Lib.hid parse_01
  have H2 := Lib.hid parse_02
  have H3 := Lib.hid add_alive
  have H4 := Lib.hid text_alive
  have Hc := Lib.hid hc
  clear hc
  go_enter Tryz.func5, Tryz.ntmps5
  go_wp2_with fail
  refine (H1.out _ Hc.out).mono ?_; rintro en w1 ⟨rfl, hb1⟩
  have Hc1 := Lib.hid (Hc.out.below hb1)
  go_wp2_with fail
  refine (H2.out _ Hc1.out).mono ?_; rintro en w2 ⟨rfl, hb2⟩
  have Hc2 := Lib.hid (Hc1.out.below hb2)
  have hb12 := bstep hb1 hb2
  clear hb1 hb2
  go_wp2_with fail
  refine (H3.out _).mono ?_; rintro en w' ⟨rfl, rfl⟩
  go_wp2_with fail
  refine (H4.out _ Hc2.out).mono ?_; rintro en w5 ⟨rfl, hb5⟩
  go_wp2_with fail
  go_ret
  exact ⟨rfl, bstep hb12 hb5⟩
end Go.Proofs.YtnibfebfgdhfgaaGreatDoor
