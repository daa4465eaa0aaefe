/- A number's digits as text: fmtEFG at the format f, numbers with digits on both sides of the point, over the translated program. -/
import Derived.Test.YtlebpaneignfaaaDoorFl5
namespace Go.Proofs.YtlebpaneignfaaaDoor
open Go.ChangeShapes Go.WideShapes Go.ChangeAt Go.RowKit Go.Sort

theorem drop_snoc (ds : List UInt8) (d k : Nat) (h : d + k < ds.length) : (ds.drop d).take (k + 1) = (ds.drop d).take k ++ [ds.getD (d + k) 0] := by
  rw [List.take_succ_eq_append_getElem (by rw [List.length_drop]; omega)]
  simp [List.getD, List.getElem?_eq_getElem h]

set_option maxHeartbeats 4000000 in
set_option maxRecDepth 100000 in
/-- A number with digits on both sides of its point. -/
theorem fmtF_inside (B Bb : Nat) (T : TypeId) (hT : T ≠ 5) (hBb : Bb ≠ 0) (ds : List UInt8) (nd dp : Nat) (hnd : ds.length = nd) (hn2 : nd ≤ 20) (hd1 : 1 ≤ dp) (hd2 : dp < nd) (neg : Bool) (w : World) (v : Value) (hO : Own B Bb T ds w w v []) :
    Calls Tryd.prog 53 #[v, .bool neg, .slice (some ⟨Bb, 0, none⟩) 32 32, .int .i64 dp, .int .i64 nd, .int .i64 ((nd - dp : Nat) : Int), .int .u8 102, .bool true] w (FmtPost B w (sgn neg ++ ds.take dp ++ [46] ++ ds.drop dp)) := by
  have Hn := Lib.hid hnd
  clear hnd
  obtain ⟨P, hP⟩ : ∃ P : Nat, P = nd - dp := ⟨_, rfl⟩
  rw [← hP]
  have hpos : decide (0 < P) = true := by simp; omega
  have hpos2 : decide (0 < dp) = true := by simp; omega
  have hmin : min (nd : Int) (dp : Int) = (dp : Int) := by omega
  have hmax : max (dp : Int) 0 = (dp : Int) := by omega
  have hmx : max (0 : Int) (-(dp : Int)) = 0 := by omega
  have hmn : min (P : Int) 0 = 0 := by omega
  have hPz : (nd : Int) - (dp : Int) = (P : Int) := by omega
  have hmx2 : max (0 : Int) (P : Int) = (P : Int) := by omega
  have hPle : P ≤ 20 := by omega
  have HP := Lib.hid hP
  clear hP
  go_enter Tryd.func53, Tryd.ntmps53
  go_upto_if 178 with fail
  go_cut [0] (fun v1 w1 => Own B Bb T ds w w1 v1 (sgn neg))
  case first =>
    cases neg with
    | false =>
      go_wp2_with fail
      go_meet
      exact hO
    | true =>
      go_wp2_with (at_builtin; refine push_law hT hO rfl _ _ rfl rfl [45] _ _ _ _ rfl rfl rfl (by simp) ?_)
      intro v1 w1 hO1
      go_wp2_with fail
      go_meet
      exact hO1
  case rest =>
    have hO1 := hcut
    clear hcut
    have hsl := sgn_len neg
    go_wp2_with fail
    go_loopw [0, 25, 191] (fun v _ i wr => ∃ k : Nat, k ≤ dp ∧ i = .int .i64 k ∧ Own B Bb T ds w wr v (sgn neg ++ ds.take k)) (fun _ _ i _ => dp - (intOf i).toNat)
    case atStart => exact ⟨0, Nat.zero_le _, rfl, by simpa using hO1⟩
    case round =>
      obtain ⟨k, hk, rfl, hOk⟩ := hrel
      by_cases hlt : k < dp
      · have hc := (hOk.digs hBb).cell k (by rw [Hn.out]; omega)
        have hcl := (ds.getD k 0).toNat_lt
        generalize hcc : ds.getD k 0 = c at *
        have HC := Lib.hid hcc
        clear hcc
        have hlen : (sgn neg ++ ds.take k).length + [c].length ≤ 1000000 := by
          simp
          omega
        go_wp2_with (at_builtin; refine push_law hT hOk rfl _ _ rfl rfl [c] _ _ _ _ rfl rfl rfl hlen ?_)
        intro v2 w2 hO2
        go_wp2_with fail
        go_roundw
        case rel => exact ⟨k + 1, by omega, by go_num, by rw [take_snoc ds k (by rw [Hn.out]; omega), HC.out]; exact hO2⟩
        case measure => simp [intOf]; omega
      · have hkd : k = dp := by omega
        have hOn := hOk
        rw [hkd] at hOn
        have HK := Lib.hid hkd
        clear hkd hOk
        go_wp2_with fail
        refine wp_loop_rounds 1 ?_
        rw [rounds_succ]
        have hlen : (sgn neg ++ ds.take dp).length + [(46 : UInt8)].length ≤ 1000000 := by
          simp
          omega
        go_wp2_with (at_builtin; refine push_law hT hOn rfl _ _ rfl rfl [46] _ _ _ _ rfl rfl rfl hlen ?_)
        intro v3 w3 hO3
        go_wp2_with fail
        refine wp_loop_rounds 1 ?_
        rw [rounds_succ]
        go_wp2_with fail
        go_loopw [0, 30, 247] (fun v _ i wr => ∃ k : Nat, k ≤ P ∧ i = .int .i64 k ∧ Own B Bb T ds w wr v (sgn neg ++ ds.take dp ++ [46] ++ (ds.drop dp).take k)) (fun _ _ i _ => P - (intOf i).toNat)
        case atStart => exact ⟨0, Nat.zero_le _, rfl, by simpa using hO3⟩
        case round =>
          obtain ⟨k, hk, rfl, hOk⟩ := hrel
          by_cases hlt : k < P
          · have hc := (hOk.digs hBb).cell (dp + k) (by rw [Hn.out]; omega)
            have hcl := (ds.getD (dp + k) 0).toNat_lt
            generalize hcc : ds.getD (dp + k) 0 = c at *
            have HC := Lib.hid hcc
            clear hcc
            have hlen : (sgn neg ++ ds.take dp ++ [46] ++ (ds.drop dp).take k).length + [c].length ≤ 1000000 := by
              simp
              omega
            go_wp2_with (at_builtin; refine push_law hT hOk rfl _ _ rfl rfl [c] _ _ _ _ rfl rfl rfl hlen ?_)
            intro v4 w4 hO4
            go_wp2_with fail
            go_roundw
            case rel => exact ⟨k + 1, by omega, by go_num, by rw [drop_snoc ds dp k (by rw [Hn.out]; omega), HC.out]; simpa [List.append_assoc] using hO4⟩
            case measure => simp [intOf]; omega
          · have hOn := hOk
            rw [show k = P by omega] at hOn
            clear hOk
            go_wp2_with fail
            refine wp_loop_rounds 1 ?_
            rw [rounds_succ]
            go_wp2_with fail
            go_ret
            exact ⟨_, rfl, by (have h := hOn.row; rw [show (ds.drop dp).take P = ds.drop dp from List.take_of_length_le (by rw [List.length_drop, Hn.out, HP.out]; omega)] at h; exact h), hOn.bel⟩
end Go.Proofs.YtlebpaneignfaaaDoor
