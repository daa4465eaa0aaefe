/- The contracts of whole.Add, whole.Neg and of the document's Add, Neg: the sum where 64 bits hold it, else 0 and ErrOver. -/
import Derived.Test.YtiggkcicgmkjoaaDoorWalks
import Derived.IntWalk
namespace Go.Proofs.YtiggkcicgmkjoaaDoor
open Go.ChangeShapes Go.WideShapes Go.ChangeAt Go.RowKit

/-- Both together, and the error's number. -/
def addOf (a b : Int) : Int × Int := if -9223372036854775808 ≤ a + b ∧ a + b ≤ 9223372036854775807 then (a + b, 0) else (0, 12)
def negOf (a : Int) : Int × Int := if a = -9223372036854775808 then (0, 12) else (-a, 0)

set_option maxHeartbeats 400000 in
theorem Add_ok (a b : Int) (hb0 : -9223372036854775808 ≤ b) (hb1 : b ≤ 9223372036854775807)
    (h0 : -9223372036854775808 ≤ a + b) (h1 : a + b ≤ 9223372036854775807) (w : World) :
    Calls Tryd.prog 9 #[.int .i64 a, .int .i64 b] w fun e w' => e = .returned (.tuple #[.int .i64 (a + b), .int .i64 0]) ∧ w = w' := by
  by_cases hp : 0 < b
  · have hn : ¬ b < 0 := by omega
    go_enter Tryd.func9, Tryd.ntmps9
    go_wp2
    go_ret2
    exact ⟨rfl, rfl⟩
  · by_cases hn : b < 0
    · go_enter Tryd.func9, Tryd.ntmps9
      go_wp2
      go_ret2
      exact ⟨rfl, rfl⟩
    · go_enter Tryd.func9, Tryd.ntmps9
      go_wp2
      go_ret2
      exact ⟨rfl, rfl⟩

set_option maxHeartbeats 400000 in
theorem Add_over (a b : Int) (ha0 : -9223372036854775808 ≤ a) (ha1 : a ≤ 9223372036854775807) (hb0 : -9223372036854775808 ≤ b) (hb1 : b ≤ 9223372036854775807)
    (h : a + b < -9223372036854775808 ∨ 9223372036854775807 < a + b) (w : World) :
    Calls Tryd.prog 9 #[.int .i64 a, .int .i64 b] w fun e w' => e = .returned (.tuple #[.int .i64 0, .int .i64 12]) ∧ w = w' := by
  by_cases hp : 0 < b
  · have hn : ¬ b < 0 := by omega
    have hs : 9223372036854775807 - b < a := by omega
    clear h
    go_enter Tryd.func9, Tryd.ntmps9
    go_wp2
    go_ret2
    exact ⟨rfl, rfl⟩
  · have hn : b < 0 := by omega
    have hs : a < -9223372036854775808 - b := by omega
    clear h
    go_enter Tryd.func9, Tryd.ntmps9
    go_wp2
    go_ret2
    exact ⟨rfl, rfl⟩

theorem Add_calls (a b : Int) (ha0 : -9223372036854775808 ≤ a) (ha1 : a ≤ 9223372036854775807) (hb0 : -9223372036854775808 ≤ b) (hb1 : b ≤ 9223372036854775807) (w : World) (x y : Int) (hxy : addOf a b = (x, y)) :
    Calls Tryd.prog 9 #[.int .i64 a, .int .i64 b] w fun e w' => e = .returned (.tuple #[.int .i64 x, .int .i64 y]) ∧ w = w' := by
  unfold addOf at hxy
  split at hxy
  · rename_i h
    injection hxy with e1 e2
    subst e1; subst e2
    exact Add_ok a b hb0 hb1 h.1 h.2 w
  · rename_i h
    injection hxy with e1 e2
    subst e1; subst e2
    exact Add_over a b ha0 ha1 hb0 hb1 (by omega) w

set_option maxHeartbeats 400000 in
theorem Neg_calls (a : Int) (ha0 : -9223372036854775808 ≤ a) (ha1 : a ≤ 9223372036854775807) (w : World) (x y : Int) (hxy : negOf a = (x, y)) :
    Calls Tryd.prog 10 #[.int .i64 a] w fun e w' => e = .returned (.tuple #[.int .i64 x, .int .i64 y]) ∧ w = w' := by
  unfold negOf at hxy
  by_cases h : a = -9223372036854775808
  · rw [if_pos h] at hxy
    injection hxy with e1 e2
    subst e1; subst e2
    subst h
    go_enter Tryd.func10, Tryd.ntmps10
    go_wp2
    go_ret2
    exact ⟨rfl, rfl⟩
  · rw [if_neg h] at hxy
    injection hxy with e1 e2
    subst e1; subst e2
    have hb : (a == -9223372036854775808) = false := by simpa using h
    have h0 : -9223372036854775808 < a := by omega
    go_enter Tryd.func10, Tryd.ntmps10
    go_wp2
    go_ret2
    exact ⟨rfl, rfl⟩

set_option maxHeartbeats 400000 in
theorem refNeg_calls (a : Int) (ha0 : -9223372036854775808 ≤ a) (ha1 : a ≤ 9223372036854775807) (w : World) (x y : Int) (hxy : negOf a = (x, y)) :
    Calls Tryd.prog 17 #[.int .i64 a] w fun e w' => e = .returned (.tuple #[.int .i64 x, .int .i64 y]) ∧ w = w' := by
  unfold negOf at hxy
  by_cases h : a = -9223372036854775808
  · rw [if_pos h] at hxy
    injection hxy with e1 e2
    subst e1; subst e2
    subst h
    go_enter Tryd.func17, Tryd.ntmps17
    go_wp2
    go_ret2
    exact ⟨rfl, rfl⟩
  · rw [if_neg h] at hxy
    injection hxy with e1 e2
    subst e1; subst e2
    have hb : (a == -9223372036854775808) = false := by simpa using h
    have h0 : -9223372036854775808 < a := by omega
    go_enter Tryd.func17, Tryd.ntmps17
    go_wp2
    go_ret2
    exact ⟨rfl, rfl⟩

theorem ret2i {a b c : Int} (h : a = b) : Ending.returned (.tuple #[.int .i64 a, .int .i64 c]) = .returned (.tuple #[.int .i64 b, .int .i64 c]) := by rw [h]

theorem halves (a : Int) : ∃ p r, a.tdiv 2 = p ∧ a.tmod 2 = r ∧ a = 2 * p + r ∧ -1 ≤ r ∧ r ≤ 1 ∧ (0 ≤ a → 0 ≤ r) ∧ (a ≤ 0 → r ≤ 0) := by
  refine ⟨_, _, rfl, rfl, (Int.mul_tdiv_add_tmod a 2).symm, ?_, ?_, ?_, ?_⟩
  · have := Int.lt_tmod_of_pos a (b := 2) (by omega); omega
  · have := Int.tmod_lt_of_pos a (b := 2) (by omega); omega
  · intro h; exact Int.tmod_nonneg 2 h
  · intro h
    have h1 := Int.tmod_nonneg (a := -a) 2 (by omega)
    rw [Int.neg_tmod] at h1; omega

set_option maxHeartbeats 400000 in
theorem refAdd_calls (a b : Int) (ha0 : -9223372036854775808 ≤ a) (ha1 : a ≤ 9223372036854775807) (hb0 : -9223372036854775808 ≤ b) (hb1 : b ≤ 9223372036854775807) (w : World) (x y : Int) (hxy : addOf a b = (x, y)) :
    Calls Tryd.prog 16 #[.int .i64 a, .int .i64 b] w fun e w' => e = .returned (.tuple #[.int .i64 x, .int .i64 y]) ∧ w = w' := by
  obtain ⟨p, r, e1, e2, e3, p1, p2, p3, p4⟩ := halves a
  obtain ⟨q, t, f1, f2, f3, q1, q2, q3, q4⟩ := halves b
  obtain ⟨u, v, g1, g2, g3, r1, r2, r3, r4⟩ := halves (r + t)
  have bp : -4611686018427387904 ≤ p ∧ p ≤ 4611686018427387903 := by omega
  have bq : -4611686018427387904 ≤ q ∧ q ≤ 4611686018427387903 := by omega
  have bu : -1 ≤ u ∧ u ≤ 1 := by omega
  obtain ⟨bp0, bp1⟩ := bp
  obtain ⟨bq0, bq1⟩ := bq
  obtain ⟨bu0, bu1⟩ := bu
  have hs : a + b = 2 * (p + q + u) + v := by omega
  have s0 : -9223372036854775808 ≤ p + q + u := by omega
  have s1 : p + q + u ≤ 9223372036854775807 := by omega
  have hx1 : (-9223372036854775808 ≤ a + b ∧ a + b ≤ 9223372036854775807) → x = a + b ∧ y = 0 := fun h => by
    unfold addOf at hxy; rw [if_pos h] at hxy; injection hxy with i1 i2; exact ⟨i1.symm, i2.symm⟩
  have hx2 : (a + b < -9223372036854775808 ∨ 9223372036854775807 < a + b) → x = 0 ∧ y = 12 := fun h => by
    unfold addOf at hxy; rw [if_neg (by omega)] at hxy; injection hxy with i1 i2; exact ⟨i1.symm, i2.symm⟩
  have hlo : -4611686018427387904 ≤ p + q + u → p + q + u ≤ 4611686018427387903 → (p + q + u = -4611686018427387904 → 0 ≤ v) → -9223372036854775808 ≤ a + b ∧ a + b ≤ 9223372036854775807 := by omega
  have hhi : 4611686018427387903 < p + q + u → 9223372036854775807 < a + b := by omega
  clear hxy
  have HS := Lib.hid hs; clear hs
  have X1 := Lib.hid hx1; clear hx1
  have X2 := Lib.hid hx2; clear hx2
  have LO := Lib.hid hlo; clear hlo
  have HI := Lib.hid hhi; clear hhi
  have E3 := Lib.hid e3; clear e3
  have F3 := Lib.hid f3; clear f3
  have G3 := Lib.hid g3; clear g3
  clear p3 p4 q3 q4 r3 r4
  go_enter Tryd.func16, Tryd.ntmps16
  go_wp2
  all_goals first
    | (obtain ⟨rfl, rfl⟩ := X2.out (by have h1 := HS.out; have h2 := HI.out; omega)
       go_ret2
       exact ⟨rfl, rfl⟩)
    | (obtain ⟨rfl, rfl⟩ := X1.out (LO.out (by omega) (by omega) (by omega))
       go_ret2
       exact ⟨ret2i (by have h1 := HS.out; omega), rfl⟩)
end Go.Proofs.YtiggkcicgmkjoaaDoor
