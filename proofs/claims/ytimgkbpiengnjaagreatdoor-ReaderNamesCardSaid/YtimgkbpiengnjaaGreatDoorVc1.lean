/- Package value's hasItsOwn and listFits. No condition but that numbers are 64 bits. -/
import Derived.Test.YtimgkbpiengnjaaGreatDoorVa5
import Derived.Test.YtimgkbpiengnjaaGreatDoorVb1
namespace Go.Proofs.YtimgkbpiengnjaaGreatDoor
open Go.ChangeShapes Go.WideShapes Go.ChangeAt Go.RowKit

def ownB (k z : Int) (r : Nat) (f : Bool) : Bool := (z == 0 || k == 3) && (decide (bitsN r = 0) || k == 7) && (!f || k == 8)
def listB (k : Int) (n : Nat) : Bool := if k = 5 then true else if k = 13 then true else if k = 12 then decide (n % 2 = 0) else if k = 14 then decide (0 < n) else decide (n = 0)

theorem bits0 : bitsN 0 = 0 := by decide
set_option maxHeartbeats 2000000 in
set_option maxRecDepth 100000 in
theorem hasOwn_calls (k : Int) (t : ByteArray) (z : Int) (r : Nat) (f : Bool) (a : Option Addr) (c n : Nat) (K : Nat → Val) (w : World) (b o : Nat) (ha : At w b o (.mk k t z r f a c n K)) (hr : r < 18446744073709551616) :
    Calls Tryz.prog 41 #[.pointer (some ⟨b, o, none⟩)] w fun e w' => e = .returned (.bool (ownB k z r f)) ∧ w = w' := by
  obtain ⟨x0, -, x2, x3, x4, -⟩ := ha
  have hs := same_calls r 0 hr (by decide)
  rw [bits0] at hs
  unfold ownB
  generalize decide (bitsN r = 0) = s at *
  have HS := Lib.hid hs
  clear hs hr
  cases hz : (z == 0) <;> cases h3 : (k == 3) <;> cases s <;> cases h7 : (k == 7) <;> cases f <;> cases h8 : (k == 8)
  all_goals
    go_enter Tryz.func41, Tryz.ntmps41
    go_wp2_with (go_at_call 57; refine (HS.out _).mono ?_; rintro en w' ⟨rfl, rfl⟩)
    go_ret
    exact ⟨rfl, rfl⟩

set_option maxHeartbeats 2000000 in
theorem listFits_calls (k : Int) (n : Nat) (hn : n ≤ 9223372036854775807) (w : World) :
    Calls Tryz.prog 43 #[.int .i64 k, .int .i64 n] w fun e w' => e = .returned (.bool (listB k n)) ∧ w = w' := by
  unfold listB
  by_cases h1 : k = 5
  · subst h1
    go_enter Tryz.func43, Tryz.ntmps43
    go_wp2
    go_ret
    exact ⟨rfl, rfl⟩
  rw [if_neg h1]
  by_cases h2 : k = 13
  · subst h2
    go_enter Tryz.func43, Tryz.ntmps43
    go_wp2
    go_ret
    exact ⟨rfl, rfl⟩
  rw [if_neg h2]
  by_cases h3 : k = 12
  · subst h3
    rw [if_pos rfl]
    have e : (((n : Int) % 2) == 0) = decide (n % 2 = 0) := by
      by_cases h : n % 2 = 0
      · rw [decide_eq_true h, beq_iff_eq]; omega
      · rw [decide_eq_false h, beq_eq_false_iff_ne]; omega
    rw [← e]
    clear e
    go_enter Tryz.func43, Tryz.ntmps43
    go_wp2
    go_ret
    exact ⟨rfl, rfl⟩
  rw [if_neg h3]
  by_cases h4 : k = 14
  · subst h4
    rw [if_pos rfl]
    by_cases h : 0 < n
    · rw [decide_eq_true h]
      go_enter Tryz.func43, Tryz.ntmps43
      go_wp2
      go_ret
      exact ⟨rfl, rfl⟩
    · obtain rfl : n = 0 := by omega
      go_enter Tryz.func43, Tryz.ntmps43
      go_wp2
      go_ret
      exact ⟨rfl, rfl⟩
  rw [if_neg h4]
  have e1 : (k == 5) = false := by simpa using h1
  have e2 : (k == 13) = false := by simpa using h2
  have e3 : (k == 12) = false := by simpa using h3
  have e4 : (k == 14) = false := by simpa using h4
  have e : ((n : Int) == 0) = decide (n = 0) := by
    by_cases h : n = 0
    · rw [decide_eq_true h, beq_iff_eq]; omega
    · rw [decide_eq_false h, beq_eq_false_iff_ne]; omega
  rw [← e]
  clear e h1 h2 h3 h4
  go_enter Tryz.func43, Tryz.ntmps43
  go_wp2
  go_ret
  exact ⟨rfl, rfl⟩
end Go.Proofs.YtimgkbpiengnjaaGreatDoor
