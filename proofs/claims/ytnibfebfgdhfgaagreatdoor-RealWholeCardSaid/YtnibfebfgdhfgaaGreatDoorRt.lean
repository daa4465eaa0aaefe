/- The contract of the document's Text (layer 1): the numeral; over any seat (stage01/XRefText with imports of its own). -/
import Derived.Test.YtnibfebfgdhfgaaGreatDoorNum
import Derived.Test.YtnibfebfgdhfgaaGreatDoorFb
import Derived.IntWalk
namespace Go.Proofs.YtnibfebfgdhfgaaGreatDoor.Rt
open Go.Proofs.YtnibfebfgdhfgaaGreatDoor
open Go.ChangeShapes Go.WideShapes Go.ChangeAt Go.RowKit

theorem tenth (m : Int) : (m.tdiv 10).natAbs = m.natAbs / 10 := by rw [Int.natAbs_tdiv]; rfl

def TextSaid (n : Int) : Prop := ∀ w, Calls Tryz.prog 10 #[.int .i64 n] w fun e w' => e = .returned (.string ⟨(Lib.itoa n).toArray⟩) ∧ w = w'

theorem ret_s {a b : List UInt8} (h : a = b) : Ending.returned (.string ⟨a.toArray⟩) = .returned (.string ⟨b.toArray⟩) := by rw [h]

theorem down {n : Int} (h : n ≤ -10) : Lib.itoa (n.tdiv 10) ++ Lib.itoa (-(n.tmod 10)) = Lib.itoa n := by
  have e1 : n.tdiv 10 = -(-n / 10) := by
    have h1 : (-n).tdiv 10 = -n / 10 := Int.tdiv_eq_ediv_of_nonneg (by omega)
    rw [Int.neg_tdiv] at h1; omega
  have e2 : -(n.tmod 10) = -n % 10 := by
    have h1 : (-n).tmod 10 = -n % 10 := Int.tmod_eq_emod_of_nonneg (by omega)
    rw [Int.neg_tmod] at h1; omega
  rw [e1, e2, Num.itoa_down h]

set_option maxHeartbeats 400000 in
theorem refText_small (n : Int) (h0 : 0 ≤ n) (h1 : n < 10) : TextSaid n := by
  intro w
  have e := Num.itoa_digit h0 h1
  rw [e]
  clear e
  have hn : n = 0 ∨ n = 1 ∨ n = 2 ∨ n = 3 ∨ n = 4 ∨ n = 5 ∨ n = 6 ∨ n = 7 ∨ n = 8 ∨ n = 9 := by omega
  clear h0 h1
  rcases hn with rfl | rfl | rfl | rfl | rfl | rfl | rfl | rfl | rfl | rfl
  all_goals
    go_enter Tryz.func10, Tryz.ntmps10
    go_wp2
    go_ret
    exact ⟨rfl, rfl⟩

set_option maxHeartbeats 400000 in
theorem refText_big (n : Int) (h0 : 10 ≤ n) (h1 : n ≤ 9223372036854775807) (c1 : TextSaid (n / 10)) (c2 : TextSaid (n % 10)) : TextSaid n := by
  intro w
  rw [← Num.itoa_up h0]
  have l1 := Lib.itoa_length_le (n / 10) (by omega) (by omega)
  have l2 := Lib.itoa_length_le (n % 10) (by omega) (by omega)
  go_enter Tryz.func10, Tryz.ntmps10
  go_wp2_with fail
  refine (c1 _).mono ?_
  rintro e w1 ⟨rfl, rfl⟩
  go_wp2_with fail
  refine (c2 _).mono ?_
  rintro e w1 ⟨rfl, rfl⟩
  go_wp2_with fail
  go_ret
  exact ⟨by first | rfl | simp, rfl⟩

set_option maxHeartbeats 400000 in
theorem refText_neg (n : Int) (h0 : -10 < n) (h1 : n < 0) (c1 : TextSaid (-n)) : TextSaid n := by
  intro w
  rw [← Num.itoa_neg1 h1]
  have l1 := Lib.itoa_length_le (-n) (by omega) (by omega)
  go_enter Tryz.func10, Tryz.ntmps10
  go_wp2_with fail
  refine (c1 _).mono ?_
  rintro e w1 ⟨rfl, rfl⟩
  go_wp2_with fail
  go_ret
  exact ⟨by first | rfl | simp, rfl⟩

set_option maxHeartbeats 400000 in
theorem refText_low (n : Int) (h0 : -9223372036854775808 ≤ n) (h1 : n ≤ -10) (c1 : TextSaid (n.tdiv 10)) (c2 : TextSaid (-(n.tmod 10))) : TextSaid n := by
  intro w
  rw [← down h1]
  have r0 : -9223372036854775808 < n.tmod 10 := by
    have := Int.lt_tmod_of_pos n (b := 10) (by omega); omega
  have r1 : n.tmod 10 ≤ 9223372036854775807 := by
    have := Int.tmod_lt_of_pos n (b := 10) (by omega); omega
  have e := tenth n
  have l1 := Lib.itoa_length_le (n.tdiv 10) (by omega) (by omega)
  have l2 := Lib.itoa_length_le (-(n.tmod 10)) (by omega) (by omega)
  clear e
  go_enter Tryz.func10, Tryz.ntmps10
  go_wp2_with fail
  refine (c1 _).mono ?_
  rintro e w1 ⟨rfl, rfl⟩
  go_wp2_with fail
  refine (c2 _).mono ?_
  rintro e w1 ⟨rfl, rfl⟩
  go_wp2_with fail
  go_ret
  exact ⟨by first | rfl | simp, rfl⟩

theorem refText_all : ∀ (k : Nat) (n : Int), n.natAbs ≤ k → -9223372036854775808 ≤ n → n ≤ 9223372036854775807 → TextSaid n
  | 0, n, hk, _, _ => refText_small n (by omega) (by omega)
  | k + 1, n, hk, h0, h1 => by
    by_cases a : 10 ≤ n
    · exact refText_big n a h1 (refText_all k _ (by omega) (by omega) (by omega)) (refText_small _ (by omega) (by omega))
    · by_cases b : 0 ≤ n
      · exact refText_small n b (by omega)
      · by_cases c : -10 < n
        · exact refText_neg n c (by omega) (refText_small _ (by omega) (by omega))
        · have e := tenth n
          have r0 := Int.lt_tmod_of_pos n (b := 10) (by omega)
          have r1 : n.tmod 10 ≤ 0 := by
            have h := Int.tmod_nonneg (a := -n) 10 (by omega)
            rw [Int.neg_tmod] at h; omega
          exact refText_low n h0 (by omega) (refText_all k _ (by omega) (by omega) (by omega)) (refText_small _ (by omega) (by omega))

theorem refText_calls (n : Int) (h0 : -9223372036854775808 ≤ n) (h1 : n ≤ 9223372036854775807) : TextSaid n := refText_all _ n (Nat.le_refl _) h0 h1
end Go.Proofs.YtnibfebfgdhfgaaGreatDoor.Rt
