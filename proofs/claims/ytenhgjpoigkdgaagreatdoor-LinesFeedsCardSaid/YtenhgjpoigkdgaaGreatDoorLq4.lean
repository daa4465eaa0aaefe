/- The checking package's Same, of two slices with the same texts. -/
import Derived.Test.YtenhgjpoigkdgaaGreatDoorLq3
import Derived.BigQuiet
namespace Go.Proofs.YtenhgjpoigkdgaaGreatDoor.Ln
open Go.ChangeShapes Go.WideShapes Go.ChangeAt Go.RowKit
set_option maxHeartbeats 8000000 in
set_option maxRecDepth 1000000 in
theorem same_calls (w : World) (a a' : Option Addr) (c c' : Nat) (l : List (List UInt8)) (hl : l.length ≤ 64) (hin : InS w a l) (hin' : InS w a' l) (hc1 : l.length ≤ c) (hc2 : c ≤ 9223372036854775807) :
    Calls Tryz.prog 12 #[.slice a l.length c, .slice a' l.length c'] w fun e w' => e = .returned (.bool true) ∧ Below w.heap.size w w' := by
  have HI := Lib.hid hin
  have HI' := Lib.hid hin'
  clear hin hin'
  go_enter Tryz.func12, Tryz.ntmps12
  go_wp2_with fail
  go_loopw [5, 13] (fun _ vi wr => ∃ k : Nat, vi = .int .i64 k ∧ k ≤ l.length ∧ Below w.heap.size w wr) (fun _ vi _ => l.length - (intOf vi).toNat)
  case atStart => exact ⟨0, rfl, by omega, Below.refl _ _⟩
  case round =>
    obtain ⟨k, rfl, hk, hB⟩ := hrel
    have HB := Lib.hid hB
    clear hB
    by_cases hlt : k < l.length
    · obtain ⟨g, rfl, hcell⟩ := HI.out.below HB.out k hlt
      obtain ⟨g', rfl, hcell'⟩ := HI'.out.below HB.out k hlt
      generalize (⟨l[k].toArray⟩ : ByteArray) = S at *
      go_wp2_with fail
      go_quiet (fail)
      go_wp2_with fail
      go_roundw
      case rel => exact ⟨k + 1, by go_num, by omega, HB.out.trans ⟨rfl, rfl, rfl, Nat.le_refl _, fun _ _ => rfl⟩⟩
      case measure => simp [intOf]; omega
    · obtain rfl : k = l.length := by omega
      go_wp2_with fail
      go_ret
      exact ⟨rfl, HB.out⟩
end Go.Proofs.YtenhgjpoigkdgaaGreatDoor.Ln
