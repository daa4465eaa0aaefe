/- RealWhole. Conditions: the tables hold what start-up lays. -/
import Derived.Test.YtnibfebfgdhfgaaGreatDoorFv2
import Derived.Test.YtnibfebfgdhfgaaGreatDoorRt
import Derived.Test.YtnibfebfgdhfgaaGreatDoorFlg
import Derived.Laws.Cover2
namespace Go.Proofs.YtnibfebfgdhfgaaGreatDoor
open Go.ChangeShapes Go.WideShapes Go.ChangeAt Go.RowKit Go.Sort
theorem self_eq (b : Nat) (hb : b < 18446744073709551616) (hn : b % 9223372036854775808 ≤ 9218868437227405312) : (FloatKind.f64.format.order b b == some .eq) = true := by
  rw [fmt_order, Ord.order_eq b b hb hb (by unfold Ord.rung; omega) (by unfold Ord.rung; omega), Ord.cmpI, if_neg (by omega), if_pos rfl]
  rfl
set_option maxHeartbeats 2000000 in
set_option maxRecDepth 100000 in
theorem realWhole (n : Int) (a0 : -9223372036854775808 ≤ n) (b0 : n ≤ 9223372036854775807) (w : World) (hc : RCtx w) :
    Calls Tryz.prog 4 #[.int .i64 n] w fun e w' => e = .returned (.bool true) ∧ Below w.heap.size w w' := by
  have H6 := Lib.hid (alive_calls w hc)
  have Hc := Lib.hid hc
  have HT := Lib.hid (Rt.refText_calls n a0 b0)
  clear hc
  go_enter Tryz.func4, Tryz.ntmps4
  go_wp2_with fail
  refine H6.out.mono ?_; rintro en w1 ⟨rfl, hb1⟩
  have Hc1 := Lib.hid (Hc.out.below hb1)
  have HB1 := Lib.hid hb1
  clear hb1 H6
  by_cases h1 : 9007199254740992 < n
  · go_wp2_with fail
    go_ret
    exact ⟨rfl, HB1.out⟩
  by_cases h2 : n < -9007199254740992
  · go_wp2_with fail
    go_ret
    exact ⟨rfl, HB1.out⟩
  obtain ⟨b, hb, hb2, hf, hP, hX⟩ := whole_said n (by omega) (by omega)
  have HP := Lib.hid hP
  have HX := Lib.hid hX
  have hself := self_eq b hb hb2
  clear hP hX
  generalize hs : (⟨(Lib.itoa n).toArray⟩ : ByteArray) = s at *
  go_wp2_with fail
  refine (HT.out _).mono ?_; rintro en w' ⟨rfl, rfl⟩
  rw [hs]
  go_wp2_with fail
  refine (HP.out _ Hc1.out).mono ?_; rintro en w2 ⟨rfl, hb2⟩
  have Hc2 := Lib.hid (Hc1.out.below hb2)
  have HB2 := Lib.hid (bstep HB1.out hb2)
  clear hb2
  go_wp2_with fail
  refine (HX.out _ Hc2.out).mono ?_; rintro en w3 ⟨rfl, hb3⟩
  have HB3 := Lib.hid (bstep HB2.out hb3)
  clear hb3
  go_wp2_with fail
  refine (HT.out _).mono ?_; rintro en w' ⟨rfl, rfl⟩
  rw [hs]
  go_wp2_with fail
  go_ret
  exact ⟨rfl, HB3.out⟩
end Go.Proofs.YtnibfebfgdhfgaaGreatDoor
