/- The checking package's line, at every text. No condition but a bound. -/
import Derived.Test.YtenhgjpoigkdgaaGreatDoorLr2
import Derived.Test.YtenhgjpoigkdgaaGreatDoorLb1
namespace Go.Proofs.YtenhgjpoigkdgaaGreatDoor.Ln
open Go.ChangeShapes Go.WideShapes Go.ChangeAt Go.RowKit
theorem ext_take (s : ByteArray) (n : Nat) : s.extract 0 n = ⟨(s.data.toList.take n).toArray⟩ := text_ext (by simp [ByteArray.data_extract])
def LineAns (o : Lw.R (List UInt8)) (e : Ending) : Prop :=
  (o = .bad ∧ e = .returned (.tuple #[.string ⟨#[]⟩, .int .i64 0, .int .i64 2])) ∨ (o = .short ∧ e = .returned (.tuple #[.string ⟨#[]⟩, .int .i64 0, .int .i64 1])) ∨
  ∃ t u, o = .got t u ∧ e = .returned (.tuple #[.string ⟨t.toArray⟩, .int .i64 (u : Nat), .int .i64 0])
set_option maxHeartbeats 8000000 in
set_option maxRecDepth 1000000 in
theorem rline_calls (w : World) (s : ByteArray) (hs : s.size ≤ 1000000) : Calls Tryz.prog 62 #[.string s] w fun e w' => LineAns (Lw.lineR s.data.toList) e ∧ w' = w := by
  generalize ho : Lw.lineR s.data.toList = o
  have HO := Lib.hid ho
  clear ho
  have hls := len_of s
  go_enter Tryz.func62, Tryz.ntmps62
  go_wp2_with fail
  go_loopw [5] (fun vi wr => ∃ k : Nat, vi = .int .i64 k ∧ k ≤ s.size ∧ k ≤ 4200 ∧ Lw.Sought s.data.toList k ∧ wr = w) (fun vi _ => s.size - (intOf vi).toNat)
  case atStart => exact ⟨0, rfl, by omega, by omega, ⟨fun j h => absurd h (by omega), fun j h => absurd h (by omega)⟩, rfl⟩
  case round =>
    obtain ⟨k, rfl, hk, hk2, hS, rfl⟩ := hrel
    have HS := Lib.hid hS
    clear hS
    by_cases hlt : k < s.size
    · by_cases h42 : k < 4200
      · have hl2 : k < s.data.toList.length := by omega
        by_cases h0 : 0 < k
        · have hk1 : k - 1 < s.size := by omega
          have hsub : ((k : Int) - 1).toNat = k - 1 := by omega
          have h13i : ((s[k - 1].toNat : Int) == 13) = true → s.data.toList[k - 1]'(by omega) = 13 := by
            intro h
            have h2 : s[k - 1].toNat = 13 := by have := eq_of_beq h; omega
            have h3 := UInt8.ofNat_toNat (x := s[k - 1])
            rw [h2] at h3
            exact h3.symm
          have h13n : ((s[k - 1].toNat : Int) == 13) = false → s.data.toList[k - 1]'(by omega) ≠ 13 := by
            intro h h2
            have h3 : s[k - 1] = 13 := h2
            rw [h3] at h
            exact absurd h (by decide)
          have h10i : ((s[k].toNat : Int) == 10) = true → s.data.toList[k] = 10 := by
            intro h
            have h2 : s[k].toNat = 10 := by have := eq_of_beq h; omega
            have h3 := UInt8.ofNat_toNat (x := s[k])
            rw [h2] at h3
            exact h3.symm
          have h10n : ((s[k].toNat : Int) == 10) = false → s.data.toList[k] ≠ 10 := by
            intro h h2
            have h3 : s[k] = 10 := h2
            rw [h3] at h
            exact absurd h (by decide)
          have H13i := Lib.hid h13i
          have H13n := Lib.hid h13n
          have H10i := Lib.hid h10i
          have H10n := Lib.hid h10n
          clear h13i h13n h10i h10n
          cases e13 : ((s[k - 1].toNat : Int) == 13)
          case true =>
            have hcr := Lw.line_cr HS.out h0 hl2 h42 (H13i.out e13)
            cases e10 : ((s[k].toNat : Int) == 10)
            case true =>
              rw [if_pos (H10i.out e10), HO.out] at hcr
              have HR := Lib.hid hcr
              clear hcr
              go_wp2_with fail
              go_ret3
              refine ⟨.inr (.inr ⟨_, _, HR.out, ?_⟩), by first | rfl | trivial⟩
              rw [← ext_take]
              rfl
            case false =>
              rw [if_neg (H10n.out e10), HO.out] at hcr
              have HR := Lib.hid hcr
              clear hcr
              go_wp2_with fail
              go_ret3
              exact ⟨.inl ⟨HR.out, rfl⟩, by first | rfl | trivial⟩
          case false =>
            cases e10 : ((s[k].toNat : Int) == 10)
            case true =>
              have HR := Lib.hid (HO.out.symm.trans (Lw.line_lf HS.out hl2 h42 (fun _ => H13n.out e13) (H10i.out e10)))
              go_wp2_with fail
              go_ret3
              exact ⟨.inl ⟨HR.out, rfl⟩, by first | rfl | trivial⟩
            case false =>
              have HR := Lib.hid (Lw.sought_step HS.out hl2 (fun _ => H13n.out e13) (H10n.out e10))
              go_wp2_with fail
              go_roundw
              case rel => exact ⟨k + 1, by go_num, by omega, by omega, HR.out, by first | rfl | trivial⟩
              case measure => simp [intOf]; omega
        · obtain rfl : k = 0 := by omega
          have hz : (0 : Nat) < s.size := hlt
          have H10i : Hid (((s[0].toNat : Int) == 10) = true → s.data.toList[0] = 10) := Lib.hid (by
            intro h
            have h2 : s[0].toNat = 10 := by have := eq_of_beq h; omega
            have h3 := UInt8.ofNat_toNat (x := s[0])
            rw [h2] at h3
            exact h3.symm)
          have H10n : Hid (((s[0].toNat : Int) == 10) = false → s.data.toList[0] ≠ 10) := Lib.hid (by
            intro h h2
            have h3 : s[0] = 10 := h2
            rw [h3] at h
            exact absurd h (by decide))
          cases e10 : ((s[0].toNat : Int) == 10)
          case true =>
            have HR := Lib.hid (HO.out.symm.trans (Lw.line_lf HS.out hl2 h42 (fun h => absurd h (by omega)) (H10i.out e10)))
            go_wp2_with fail
            go_ret3
            exact ⟨.inl ⟨HR.out, rfl⟩, by first | rfl | trivial⟩
          case false =>
            have HR := Lib.hid (Lw.sought_step HS.out hl2 (fun h => absurd h (by omega)) (H10n.out e10))
            go_wp2_with fail
            go_roundw
            case rel => exact ⟨0 + 1, by go_num, by omega, by omega, HR.out, by first | rfl | trivial⟩
            case measure => simp [intOf]; omega
      · obtain rfl : k = 4200 := by omega
        have hR := Lw.line_end HS.out (by omega)
        rw [if_pos (by omega), HO.out] at hR
        have HR := Lib.hid hR
        clear hR
        have h42' : (4200 : Int) ≤ (s.size : Int) := by omega
        go_wp2_with fail
        go_ret3
        exact ⟨.inl ⟨HR.out, rfl⟩, by first | rfl | trivial⟩
    · obtain rfl : k = s.size := by omega
      have hR := Lw.line_end HS.out (by omega)
      rw [HO.out] at hR
      by_cases h42 : (4200 : Int) ≤ (s.size : Int)
      · rw [if_pos (by omega)] at hR
        have HR := Lib.hid hR
        clear hR
        go_wp2_with fail
        go_ret3
        exact ⟨.inl ⟨HR.out, rfl⟩, by first | rfl | trivial⟩
      · rw [if_neg (by omega)] at hR
        have HR := Lib.hid hR
        clear hR
        go_wp2_with fail
        go_ret3
        exact ⟨.inr (.inl ⟨HR.out, rfl⟩), by first | rfl | trivial⟩
end Go.Proofs.YtenhgjpoigkdgaaGreatDoor.Ln
