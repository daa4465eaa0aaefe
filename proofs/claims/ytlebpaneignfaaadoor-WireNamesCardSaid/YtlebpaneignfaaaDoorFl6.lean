/- A number's digits as text: fmtEFG at the format f, numbers with a point, over the translated program. -/
import Derived.Test.YtlebpaneignfaaaDoorFl5
namespace Go.Proofs.YtlebpaneignfaaaDoor
open Go.ChangeShapes Go.WideShapes Go.ChangeAt Go.RowKit Go.Sort

set_option maxHeartbeats 2000000 in
set_option maxRecDepth 100000 in
/-- A number below 1: a nought, a point, z noughts, the digits. -/
theorem fmtF_below (B Bb : Nat) (T : TypeId) (hT : T ≠ 5) (hBb : Bb ≠ 0) (ds : List UInt8) (nd z : Nat) (hnd : ds.length = nd) (hn1 : 1 ≤ nd) (hn2 : nd ≤ 20) (hz : z ≤ 400) (neg : Bool) (w : World) (v : Value) (hO : Own B Bb T ds w w v []) :
    Calls Tryd.prog 53 #[v, .bool neg, .slice (some ⟨Bb, 0, none⟩) 32 32, .int .i64 (-(z : Int)), .int .i64 nd, .int .i64 ((nd + z : Nat) : Int), .int .u8 102, .bool true] w (FmtPost B w (sgn neg ++ [48, 46] ++ List.replicate z 48 ++ ds)) := by
  have Hn := Lib.hid hnd
  clear hnd
  obtain ⟨P, hP⟩ : ∃ P : Nat, P = nd + z := ⟨_, rfl⟩
  rw [← hP]
  have hpos : decide (0 < P) = true := by simp; omega
  have hneg : decide ((z : Int) < 0) = false := by simp
  have hmx : max (0 : Int) (z : Int) = (z : Int) := by omega
  have hmn : min (P : Int) (z : Int) = (z : Int) := by omega
  have hof : -(z : Int) + (z : Int) = 0 := by omega
  have hPz : (P : Int) - (z : Int) = (nd : Int) := by omega
  have hmx2 : max (0 : Int) (nd : Int) = (nd : Int) := by omega
  have hPle : P ≤ 420 := by omega
  have HP := Lib.hid hP
  clear hP
  go_enter Tryd.func53, Tryd.ntmps53
  go_upto_if 178 with fail
  go_cut [0] (fun v1 w1 => Own B Bb T ds w w1 v1 (sgn neg))
  case first =>
    cases neg with
    | false =>
      go_wp2_with fail
      go_meet
      exact hO
    | true =>
      go_wp2_with (at_builtin; refine push_law hT hO rfl _ _ rfl rfl [45] _ _ _ _ rfl rfl rfl (by simp) ?_)
      intro v1 w1 hO1
      go_wp2_with fail
      go_meet
      exact hO1
  case rest =>
    have hO1 := hcut
    clear hcut
    have hsl := sgn_len neg
    go_wp2_with (at_builtin; refine push_law hT hO1 rfl _ _ rfl rfl [48] _ _ _ _ rfl rfl rfl (by simp; omega) ?_)
    intro v2 w2 hO2
    go_wp2_with (at_builtin; refine push_law hT hO2 rfl _ _ rfl rfl [46] _ _ _ _ rfl rfl rfl (by simp; omega) ?_)
    intro v3 w3 hO3
    go_wp2_with fail
    go_loopw [0, 240] (fun v i wr => ∃ k : Nat, k ≤ z ∧ i = .int .i64 k ∧ Own B Bb T ds w wr v (sgn neg ++ [48] ++ [46] ++ List.replicate k 48)) (fun _ i _ => z - (intOf i).toNat)
    case atStart => exact ⟨0, Nat.zero_le _, rfl, by simpa using hO3⟩
    case round =>
      obtain ⟨q, hq, rfl, hOq⟩ := hrel
      by_cases hlq : q < z
      · have hlen : (sgn neg ++ [48] ++ [46] ++ List.replicate q 48).length + [(48 : UInt8)].length ≤ 1000000 := by
          simp
          omega
        go_wp2_with (at_builtin; refine push_law hT hOq rfl _ _ rfl rfl [48] _ _ _ _ rfl rfl rfl hlen ?_)
        intro v4 w4 hO4
        go_wp2_with fail
        go_roundw
        case rel => exact ⟨q + 1, by omega, by go_num, by rw [List.replicate_succ']; simpa [List.append_assoc] using hO4⟩
        case measure => simp [intOf]; omega
      · have hqN : q = z := by omega
        have hOz := hOq
        rw [hqN] at hOz
        have HQ := Lib.hid hqN
        clear hqN hOq
        go_wp2_with fail
        go_loopw [0, 30, 247] (fun v _ i wr => ∃ k : Nat, k ≤ nd ∧ i = .int .i64 k ∧ Own B Bb T ds w wr v (sgn neg ++ [48] ++ [46] ++ List.replicate z 48 ++ ds.take k)) (fun _ _ i _ => nd - (intOf i).toNat)
        case atStart => exact ⟨0, Nat.zero_le _, rfl, by simpa using hOz⟩
        case round =>
          obtain ⟨k, hk, rfl, hOk⟩ := hrel
          by_cases hlt : k < nd
          · have hc := (hOk.digs hBb).cell k (by rw [Hn.out]; omega)
            have hcl := (ds.getD k 0).toNat_lt
            generalize hcc : ds.getD k 0 = c at *
            have HC := Lib.hid hcc
            clear hcc
            have hlen : (sgn neg ++ [48] ++ [46] ++ List.replicate z 48 ++ ds.take k).length + [c].length ≤ 1000000 := by
              simp
              omega
            go_wp2_with (at_builtin; refine push_law hT hOk rfl _ _ rfl rfl [c] _ _ _ _ rfl rfl rfl hlen ?_)
            intro v4 w4 hO4
            go_wp2_with fail
            go_roundw
            case rel => exact ⟨k + 1, by omega, by go_num, by rw [take_snoc ds k (by rw [Hn.out]; exact hlt), HC.out]; simpa [List.append_assoc] using hO4⟩
            case measure => simp [intOf]; omega
          · have hOn := hOk
            rw [show k = nd by omega] at hOn
            clear hOk
            go_wp2_with fail
            refine wp_loop_rounds 1 ?_
            rw [rounds_succ]
            go_wp2_with fail
            go_ret
            exact ⟨_, rfl, by (have h := hOn.row; rw [List.take_of_length_le (by rw [Hn.out]; omega)] at h; simpa [List.append_assoc] using h), hOn.bel⟩

set_option maxHeartbeats 1000000 in
set_option maxRecDepth 100000 in
/-- Nothing: a nought. -/
theorem fmtF_none (B Bb : Nat) (T : TypeId) (hT : T ≠ 5) (ds : List UInt8) (neg : Bool) (w : World) (v : Value) (hO : Own B Bb T ds w w v []) :
    Calls Tryd.prog 53 #[v, .bool neg, .slice none 0 0, .int .i64 0, .int .i64 0, .int .i64 (-1), .int .u8 102, .bool true] w (FmtPost B w (sgn neg ++ [48])) := by
  go_enter Tryd.func53, Tryd.ntmps53
  go_upto_if 178 with fail
  go_cut [0] (fun v1 w1 => Own B Bb T ds w w1 v1 (sgn neg))
  case first =>
    cases neg with
    | false =>
      go_wp2_with fail
      go_meet
      exact hO
    | true =>
      go_wp2_with (at_builtin; refine push_law hT hO rfl _ _ rfl rfl [45] _ _ _ _ rfl rfl rfl (by simp) ?_)
      intro v1 w1 hO1
      go_wp2_with fail
      go_meet
      exact hO1
  case rest =>
    have hO1 := hcut
    clear hcut
    have hsl := sgn_len neg
    go_wp2_with (at_builtin; refine push_law hT hO1 rfl _ _ rfl rfl [48] _ _ _ _ rfl rfl rfl (by simp; omega) ?_)
    intro v2 w2 hO2
    go_wp2_with fail
    go_ret
    exact ⟨_, rfl, hO2.row, hO2.bel⟩
end Go.Proofs.YtlebpaneignfaaaDoor
