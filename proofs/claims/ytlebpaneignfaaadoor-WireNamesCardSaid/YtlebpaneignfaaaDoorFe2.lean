/- A number's digits as text: fmtEFG at the format e, more digits, over the translated program. -/
import Derived.Test.YtlebpaneignfaaaDoorFe1
namespace Go.Proofs.YtlebpaneignfaaaDoor
open Go.ChangeShapes Go.WideShapes Go.ChangeAt Go.RowKit Go.Sort

set_option maxHeartbeats 4000000 in
set_option maxRecDepth 100000 in
/-- Format e, more digits. -/
theorem fmtE_more (B Bb : Nat) (T : TypeId) (hT : T ≠ 5) (hBb : Bb ≠ 0) (ds : List UInt8) (nd : Nat) (dp : Int) (en : Bool) (x : Nat) (hnd : ds.length = nd) (hn1 : 2 ≤ nd) (hn2 : nd ≤ 20) (hx : x ≤ 500) (hdp : dp - 1 = if en then -(x : Int) else (x : Int)) (hx0 : en = true → 1 ≤ x) (neg : Bool) (w : World) (v : Value) (hO : Own B Bb T ds w w v []) :
    Calls Tryd.prog 53 #[v, .bool neg, .slice (some ⟨Bb, 0, none⟩) 32 32, .int .i64 dp, .int .i64 nd, .int .i64 ((nd - 1 : Nat) : Int), .int .u8 101, .bool true] w (FmtPost B w (sgn neg ++ mantText ds ++ expText en x)) := by
  have Hn := Lib.hid hnd
  clear hnd
  obtain ⟨P, hP⟩ : ∃ P : Nat, P = nd - 1 := ⟨_, rfl⟩
  rw [← hP]
  have hPm : min (nd : Int) ((P : Int) + 1) = (nd : Int) := by omega
  have hPn : (nd : Int) - 1 = (P : Int) := by omega
  have hP1 : (P : Int) + 1 = (nd : Int) := by omega
  have hP0 : decide (0 < P) = true := by simp; omega
  have hlt1 : decide (1 < nd) = true := by simp; omega
  have HP := Lib.hid hP
  clear hP
  have hd0 := (hO.digs hBb).cell 0 (by rw [Hn.out]; omega)
  have hne : ((nd : Int) != 0) = true := by rw [bne_iff_ne]; omega
  have heq : ((nd : Int) == 0) = false := by rw [beq_eq_false_iff_ne]; omega
  have HE := Lib.hid hdp
  have HX := Lib.hid hx0
  clear hdp hx0
  go_enter Tryd.func53, Tryd.ntmps53
  go_upto_if 78 with fail
  go_cut [0] (fun v1 w1 => Own B Bb T ds w w1 v1 (sgn neg))
  case first =>
    cases neg with
    | false =>
      go_wp2_with fail
      go_meet
      exact hO
    | true =>
      go_wp2_with (at_builtin; refine push_law hT hO rfl _ _ rfl rfl [45] _ _ _ _ rfl rfl rfl (by simp) ?_)
      intro v1 w1 hO1
      go_wp2_with fail
      go_meet
      exact hO1
  case rest =>
    have hO1 := hcut
    clear hcut hd0
    have hd0 := (hO1.digs hBb).cell 0 (by rw [Hn.out]; omega)
    have hcl := (ds.getD 0 0).toNat_lt
    generalize hcc : ds.getD 0 0 = c0 at *
    have HC := Lib.hid hcc
    clear hcc
    have hsl := sgn_len neg
    have hlen : (sgn neg).length + [c0].length ≤ 1000000 := by simp; omega
    go_wp2_with (at_builtin; refine push_law hT hO1 rfl _ _ rfl rfl [c0] _ _ _ _ rfl rfl rfl hlen ?_)
    intro v2 w2 hO2
    have e0 : mantText ds = [c0] ++ [46] ++ ds.drop 1 := by unfold mantText; rw [if_neg (by rw [Hn.out]; omega), HC.out]
    have hlen2 : (sgn neg ++ [c0]).length + [(46 : UInt8)].length ≤ 1000000 := by simp; omega
    go_wp2_with (at_builtin; refine push_law hT hO2 rfl _ _ rfl rfl [46] _ _ _ _ rfl rfl rfl (by have := Hn.out; simp only [List.length_append, List.length_cons, List.length_nil]; omega) ?_)
    intro v3 w3 hO3
    have hlen3 : (sgn neg ++ [c0] ++ [46]).length + ds.length ≤ 1000000 := by rw [Hn.out]; simp; omega
    have hseg : 1 + (nd - 1) = ds.length := by rw [Hn.out]; omega
    have HSeg := Lib.hid hseg
    clear hseg
    go_wp2_with (at_builtin; refine seg_law hT hBb hO3 rfl _ _ rfl rfl 1 _ _ rfl HSeg.out (by have := Hn.out; simp only [List.length_append, List.length_cons, List.length_nil]; omega) ?_)
    intro v4 w4 hO4
    go_wp2_with fail
    refine wp_loop_rounds 1 ?_
    rw [rounds_succ]
    have hO5 : Own B Bb T ds w w4 v4 (sgn neg ++ mantText ds) := by rw [e0]; simpa [List.append_assoc] using hO4
    clear hO2 hO1 hO hO3 hO4
    have hml : (mantText ds).length ≤ 40 := by rw [e0, List.length_append, List.length_drop, Hn.out]; simp; omega
    have HM := Lib.hid e0
    clear e0
    have hX := HE.out
    have hX0 := HX.out
    have hlenE : (sgn neg ++ mantText ds).length + [(101 : UInt8)].length ≤ 1000000 := by rw [List.length_append]; simp; omega
    have hsize : (x < 10 ∧ (x : Int) + 48 = ((dgt x).toNat : Int) ∧ expText en x = [101] ++ [if en then 45 else 43] ++ [48, dgt x]) ∨
        (10 ≤ x ∧ x < 100 ∧ (x : Int) / 10 + 48 = ((dgt (x / 10)).toNat : Int) ∧ (x : Int) % 10 + 48 = ((dgt (x % 10)).toNat : Int) ∧ expText en x = [101] ++ [if en then 45 else 43] ++ [dgt (x / 10), dgt (x % 10)]) ∨
        (100 ≤ x ∧ (x : Int) / 100 + 48 = ((dgt (x / 100)).toNat : Int) ∧ (x : Int) / 10 % 10 + 48 = ((dgt (x / 10 % 10)).toNat : Int) ∧ (x : Int) % 10 + 48 = ((dgt (x % 10)).toNat : Int) ∧ expText en x = [101] ++ [if en then 45 else 43] ++ [dgt (x / 100), dgt (x / 10 % 10), dgt (x % 10)]) := by
      unfold expText
      by_cases h1 : x < 10
      · left
        refine ⟨h1, by rw [dgt_toNat x (by omega)]; omega, by rw [if_pos h1]⟩
      · right
        by_cases h2 : x < 100
        · left
          refine ⟨by omega, h2, by rw [dgt_toNat _ (by omega)]; omega, by rw [dgt_toNat _ (by omega)]; omega, by rw [if_neg h1, if_pos h2]⟩
        · right
          refine ⟨by omega, by rw [dgt_toNat _ (by omega)]; omega, by rw [dgt_toNat _ (by omega)]; omega, by rw [dgt_toNat _ (by omega)]; omega, by rw [if_neg h1, if_neg h2]⟩
    have HSz := Lib.hid hsize
    clear hsize
    generalize hEx : expText en x = ex at *
    clear hEx
    rcases en with _ | _
    all_goals
      simp only [Bool.false_eq_true, if_false, if_true, forall_const, false_implies] at hX hX0
      go_wp2_with (at_builtin; refine push_law hT hO5 rfl _ _ rfl rfl [101] _ _ _ _ rfl rfl rfl hlenE ?_)
      intro v6 w6 hO6
    · go_wp2_with (at_builtin; refine push_law hT hO6 rfl _ _ rfl rfl [43] _ _ _ _ rfl rfl rfl (by simp only [List.length_append, List.length_cons, List.length_nil]; omega) ?_)
      intro v7 w7 hO7
      rcases HSz.out with ⟨s1, s2, s3⟩ | ⟨s0, s1, s2, s3, s4⟩ | ⟨s0, s1, s2, s3, s4⟩
      · rw [s3]
        have S3 := Lib.hid s3
        clear s3
        go_wp2_with (at_builtin; refine push_law hT hO7 rfl _ _ rfl rfl [48, dgt x] _ _ _ _ rfl rfl rfl (by simp only [List.length_append, List.length_cons, List.length_nil]; omega) ?_)
        intro v8 w8 hO8
        go_wp2_with fail
        go_ret
        exact ⟨_, rfl, by rw [S3.out]; simpa [List.append_assoc] using hO8.row, hO8.bel⟩
      · rw [s4]
        have S3 := Lib.hid s4
        clear s4
        go_wp2_with (at_builtin; refine push_law hT hO7 rfl _ _ rfl rfl [dgt (x / 10), dgt (x % 10)] _ _ _ _ rfl rfl rfl (by simp only [List.length_append, List.length_cons, List.length_nil]; omega) ?_)
        intro v8 w8 hO8
        go_wp2_with fail
        go_ret
        exact ⟨_, rfl, by rw [S3.out]; simpa [List.append_assoc] using hO8.row, hO8.bel⟩
      · rw [s4]
        have S3 := Lib.hid s4
        clear s4
        go_wp2_with (at_builtin; refine push_law hT hO7 rfl _ _ rfl rfl [dgt (x / 100), dgt (x / 10 % 10), dgt (x % 10)] _ _ _ _ rfl rfl rfl (by simp only [List.length_append, List.length_cons, List.length_nil]; omega) ?_)
        intro v8 w8 hO8
        go_wp2_with fail
        go_ret
        exact ⟨_, rfl, by rw [S3.out]; simpa [List.append_assoc] using hO8.row, hO8.bel⟩
    · go_wp2_with (at_builtin; refine push_law hT hO6 rfl _ _ rfl rfl [45] _ _ _ _ rfl rfl rfl (by simp only [List.length_append, List.length_cons, List.length_nil]; omega) ?_)
      intro v7 w7 hO7
      rcases HSz.out with ⟨s1, s2, s3⟩ | ⟨s0, s1, s2, s3, s4⟩ | ⟨s0, s1, s2, s3, s4⟩
      · rw [s3]
        have S3 := Lib.hid s3
        clear s3
        go_wp2_with (at_builtin; refine push_law hT hO7 rfl _ _ rfl rfl [48, dgt x] _ _ _ _ rfl rfl rfl (by simp only [List.length_append, List.length_cons, List.length_nil]; omega) ?_)
        intro v8 w8 hO8
        go_wp2_with fail
        go_ret
        exact ⟨_, rfl, by rw [S3.out]; simpa [List.append_assoc] using hO8.row, hO8.bel⟩
      · rw [s4]
        have S3 := Lib.hid s4
        clear s4
        go_wp2_with (at_builtin; refine push_law hT hO7 rfl _ _ rfl rfl [dgt (x / 10), dgt (x % 10)] _ _ _ _ rfl rfl rfl (by simp only [List.length_append, List.length_cons, List.length_nil]; omega) ?_)
        intro v8 w8 hO8
        go_wp2_with fail
        go_ret
        exact ⟨_, rfl, by rw [S3.out]; simpa [List.append_assoc] using hO8.row, hO8.bel⟩
      · rw [s4]
        have S3 := Lib.hid s4
        clear s4
        go_wp2_with (at_builtin; refine push_law hT hO7 rfl _ _ rfl rfl [dgt (x / 100), dgt (x / 10 % 10), dgt (x % 10)] _ _ _ _ rfl rfl rfl (by simp only [List.length_append, List.length_cons, List.length_nil]; omega) ?_)
        intro v8 w8 hO8
        go_wp2_with fail
        go_ret
        exact ⟨_, rfl, by rw [S3.out]; simpa [List.append_assoc] using hO8.row, hO8.bel⟩
end Go.Proofs.YtlebpaneignfaaaDoor
