/- The contracts of whole.Parse: it answers the number whose numeral the text is, with no error; else 0 and ErrWhole. -/
import Derived.Test.YtimgkbpiengnjaaGreatDoorWalks
namespace Go.Proofs.YtimgkbpiengnjaaGreatDoor
open Go.ChangeShapes Go.WideShapes Go.ChangeAt Go.RowKit

set_option maxHeartbeats 400000 in
theorem Parse_ok (s : ByteArray) (hs : s.size ≤ 281474976710656) (v : Int) (hv : Lib.parseIntB 64 s.data.toList = .ok v) (w : World) (hc : Ctx w) (a b : Int) (hab : Num.wp s.data.toList = (a, b)) :
    Calls Tryz.prog 25 #[.string s] w fun e w' => e = .returned (.tuple #[.int .i64 a, .int .i64 b]) ∧ Below w.heap.size w w' := by
  obtain ⟨b0, b1⟩ := Num.parse_bounds hv
  have H := Lib.hid hc; clear hc
  have HV := Lib.hid hv; clear hv
  have HA := Lib.hid hab; clear hab
  go_enter Tryz.func25, Tryz.ntmps25
  go_wp2_with fail
  refine (ParseInt_ok s (by omega) v HV.out _).mono ?_
  rintro e w1 ⟨rfl, hw1⟩
  have hb1 : Below w.heap.size w w1 := by
    rcases hw1 with rfl | ⟨t, rfl⟩
    · exact Below.refl _ _
    · exact Lib.bytesWorld_below _ _ _
  have HB := Lib.hid hb1; clear hb1 hw1
  go_wp2_with fail
  refine (Text_calls v b0 b1 _ (H.out.below HB.out)).mono ?_
  rintro e w2 ⟨rfl, hb2⟩
  have HB2 := Lib.hid hb2; clear hb2
  go_wp2_with fail
  · have h : (!Lib.itoa v == s.toList) = true := by assumption
    have hn : Lib.itoa v ≠ s.data.toList := by rw [← ByteArray.toList_eq]; simpa using h
    have e := (Num.wp_ne HV.out hn).symm.trans HA.out
    injection e with e1 e2
    subst e1; subst e2
    go_ret2
    exact ⟨rfl, bstep HB.out HB2.out⟩
  · have h : (!Lib.itoa v == s.toList) = false := by assumption
    have hn : Lib.itoa v = s.data.toList := by rw [← ByteArray.toList_eq]; simpa using h
    have e := (Num.wp_eq HV.out hn).symm.trans HA.out
    injection e with e1 e2
    subst e1; subst e2
    go_ret2
    exact ⟨rfl, bstep HB.out HB2.out⟩

set_option maxHeartbeats 400000 in
theorem Parse_bad (s : ByteArray) (hs : s.size ≤ 281474976710656) (h1 : ∀ v, Lib.parseIntB 64 s.data.toList ≠ .ok v) (w : World) (hc : Ctx w) :
    Calls Tryz.prog 25 #[.string s] w fun e w' => e = .returned (.tuple #[.int .i64 0, .int .i64 11]) ∧ Below w.heap.size w w' := by
  have key : ∃ a, Calls Tryz.prog 36 #[.string s, .int .i64 10, .int .i64 64] w fun e w' => ∃ N, e = .returned (.tuple #[.int .i64 a, .iface 113 (.pointer (some ⟨N, 0, none⟩))]) ∧ Below w.heap.size w w' := by
    by_cases h2 : Lib.parseIntB 64 s.data.toList = .range
    · obtain ⟨t, p, hvar⟩ := hc.rng
      exact ⟨_, ParseInt_rng s hs h2 t p w hvar⟩
    · obtain ⟨t, p, hvar⟩ := hc.syn
      exact ⟨_, ParseInt_bad s hs h1 h2 t p w hvar⟩
  obtain ⟨a, K⟩ := key
  have KK := Lib.hid K; clear K hc h1
  go_enter Tryz.func25, Tryz.ntmps25
  go_wp2_with fail
  refine KK.out.mono ?_
  rintro e w1 ⟨N, rfl, hb1⟩
  have HB := Lib.hid hb1; clear hb1
  go_wp2_with fail
  go_ret2
  exact ⟨rfl, HB.out⟩

/-- Parse, at any text. -/
theorem Parse_calls (s : ByteArray) (hs : s.size ≤ 281474976710656) (w : World) (hc : Ctx w) (a b : Int) (hab : Num.wp s.data.toList = (a, b)) :
    Calls Tryz.prog 25 #[.string s] w fun e w' => e = .returned (.tuple #[.int .i64 a, .int .i64 b]) ∧ Below w.heap.size w w' := by
  by_cases h : ∃ v, Lib.parseIntB 64 s.data.toList = .ok v
  · obtain ⟨v, h⟩ := h
    exact Parse_ok s hs v h w hc a b hab
  · have h1 : ∀ v, Lib.parseIntB 64 s.data.toList ≠ .ok v := fun v e => h ⟨v, e⟩
    have e := (Num.wp_bad h1).symm.trans hab
    injection e with e1 e2
    subst e1; subst e2
    exact Parse_bad s hs h1 w hc
end Go.Proofs.YtimgkbpiengnjaaGreatDoor
