/- ModeSays. No condition but those of its arguments' types. -/
import Derived.Test.YtjpbpdjomfkkeaaDoorMe2
import Derived.Test.YtjpbpdjomfkkeaaDoorMf0
import Derived.Test.YtjpbpdjomfkkeaaDoorMd2
namespace Go.Proofs.YtjpbpdjomfkkeaaDoor.Ma
set_option linter.unusedVariables false
set_option linter.unusedSimpArgs false
open Go.ChangeShapes Go.WideShapes Go.ChangeAt Go.RowKit
open Go.Proofs.YtjpbpdjomfkkeaaDoor.Sp (bstep bbox Hp Th cellsT rowT)
theorem some_b (P : Prop) : ∃ b : Bool, b = true ↔ P := by
  by_cases h : P
  · exact ⟨true, ⟨fun _ => h, fun _ => rfl⟩⟩
  · exact ⟨false, ⟨fun k => (by cases k), fun k => absurd k h⟩⟩
/-- The flags of the five modes that can be. -/
inductive Five : Bool → Bool → Bool → Bool → Prop
  | off : Five false false false false
  | bc : Five true true false false
  | all : Five true false false false
  | oi : Five true false true false
  | oo : Five true false false true
theorem five {m : Md} (h : RightM m) : Five m.on m.bc m.oi m.oo := by
  unfold RightM at h
  obtain ⟨on, bc, oi, oo, nl, rd, ps⟩ := m
  simp only at h ⊢
  cases on with
  | false =>
    simp only [Bool.false_eq_true, if_false, zero] at h
    injection h with h0 h1 h2 h3 h4 h5 h6
    subst h1 h2 h3
    exact .off
  | true =>
    simp only [if_true] at h
    have h2 := h.2.1
    cases bc with
    | true =>
      simp only [if_true] at h2
      obtain ⟨⟨rfl, rfl⟩, -⟩ := h2
      exact .bc
    | false =>
      simp only [Bool.false_eq_true, if_false] at h2
      cases oi <;> cases oo
      · exact .all
      · exact .oo
      · exact .oi
      · exact absurd ⟨rfl, rfl⟩ h2.1
set_option maxHeartbeats 64000000 in
set_option maxRecDepth 100000 in
theorem modeSays (w : World) (hX : MCtx w) (m : Md) (a : Option Addr) (c : Nat) (hlc : m.ps.length ≤ c) (hcb : c ≤ 9223372036854775807) (hI : InS w a m.ps) (k : Int) (hk0 : -9223372036854775808 ≤ k) (hk1 : k ≤ 9223372036854775807) :
    Calls Tryd.prog 7 #[mV m a c, .int .i64 k] w fun e w' => e = .returned (.bool true) ∧ Below w.heap.size w w' := by
  have HX := Lib.hid hX
  clear hX
  have HA := Lib.hid (fun W (hW : Below w.heap.size w W) => alive_calls W (HX.out.below hW))
  obtain ⟨bg, hbg⟩ := some_b (Great m)
  have HG := Lib.hid (fun W (hW : Below w.heap.size w W) => great_calls W m a c (hI.bel hW) (by omega) bg hbg)
  have HGi := Lib.hid hbg
  have HRf : Hid (m.ps.length ≤ 1000000 → ∀ b, (b = true ↔ RightM m) → ∀ W, Below w.heap.size w W → Calls Tryd.prog 17 #[mV m a c] W fun e w' => e = .returned (.bool b) ∧ Below W.heap.size W w') := Lib.hid (fun hl b hb W hW => refRight_calls W m a c (hI.bel hW) hlc hl b hb)
  have HCa := Lib.hid (fun W yes r hr => caching_calls W m a c yes r hr)
  have HTr := Lib.hid (fun W q r hr => tracks_calls W m a c q r hr)
  have HFl := Lib.hid (fun W => flags_calls W m a c)
  have HFive := Lib.hid (@five m)
  obtain ⟨on, bc, oi, oo, nl, rd, ps⟩ := m
  unfold mV at HG HRf HCa HTr HFl
  unfold mV
  simp only at HG HRf HCa HTr HFl HFive ⊢
  have HD := Lib.hid (CellL.new w [.bool on, .bool bc, .bool oi, .bool oo, .bool nl, .int .i64 rd, .slice a ps.length c] 24)
  have HB := Lib.hid (bbox (w := w) (.cells #[.bool on, .bool bc, .bool oi, .bool oo, .bool nl, .int .i64 rd, .slice a ps.length c] 24))
  clear hbg hI
  go_enter Tryd.func7, Tryd.ntmps7
  go_upto_region 1 with fail
  have HD : Hid (CellL (w.alloc (.cells #[.bool on, .bool bc, .bool oi, .bool oo, .bool nl, .int .i64 rd, .slice a ps.length c] 24)) w.heap.size [.bool on, .bool bc, .bool oi, .bool oo, .bool nl, .int .i64 rd, .slice a ps.length c]) := HD
  generalize (w.alloc (.cells #[.bool on, .bool bc, .bool oi, .bool oo, .bool nl, .int .i64 rd, .slice a ps.length c] 24)) = w1 at *
  obtain ⟨b1, hb1⟩ : ∃ b1, w.heap.size = b1 := ⟨_, rfl⟩
  have HB1 := Lib.hid hb1
  have HBB : Hid (Below w.heap.size w w1) := HB
  simp only [hb1] at HD ⊢
  clear HB hb1
  go_wp2_with fail
  refine (HA.out _ HBB.out).mono ?_
  rintro e w2 ⟨rfl, hb2⟩
  have HD2 := Lib.hid (HD.out.below hb2)
  have HBB2 := Lib.hid (bstep HBB.out hb2)
  clear hb2 HA HD HBB
  have x0 := HD2.out.at 0 rfl
  have x1 := HD2.out.at 1 rfl
  have x2 := HD2.out.at 2 rfl
  have x3 := HD2.out.at 3 rfl
  have x4 := HD2.out.at 4 rfl
  have x5 := HD2.out.at 5 rfl
  have x6 := HD2.out.at 6 rfl
  go_wp2_with fail
  refine (HG.out _ HBB2.out).mono ?_
  rintro e w3 ⟨rfl, hb3⟩
  have HD3 := Lib.hid (HD2.out.below hb3)
  have HBB3 := Lib.hid (bstep HBB2.out hb3)
  clear hb3 HG HD2 HBB2 x0 x1 x2 x3 x4 x5 x6
  cases bg with
  | true =>
    go_wp2_with fail
    go_ret
    exact ⟨by first | rfl | simp, HBB3.out⟩
  | false =>
    have hps : ps.length ≤ 1000000 := by
      have h : ¬ Great (⟨on, bc, oi, oo, nl, rd, ps⟩ : Md) := fun h => by have := HGi.out.2 h; cases this
      unfold Great at h
      have h2 : ¬ 50 < ps.length := fun k => h (.inl k)
      omega
    obtain ⟨br, hbr⟩ := some_b (RightM ⟨on, bc, oi, oo, nl, rd, ps⟩)
    have HRt := Lib.hid (HRf.out hps br hbr)
    have HBr := Lib.hid hbr
    clear hbr HRf
    have x0 := HD3.out.at 0 rfl
    have x1 := HD3.out.at 1 rfl
    have x2 := HD3.out.at 2 rfl
    have x3 := HD3.out.at 3 rfl
    have x4 := HD3.out.at 4 rfl
    have x5 := HD3.out.at 5 rfl
    have x6 := HD3.out.at 6 rfl
    go_wp2_with fail
    refine (HRt.out _ HBB3.out).mono ?_
    rintro e w4 ⟨rfl, hb4⟩
    have HD4 := Lib.hid (HD3.out.below hb4)
    have HBB4 := Lib.hid (bstep HBB3.out hb4)
    clear hb4 HRt HD3 HBB3 x0 x1 x2 x3 x4 x5 x6
    cases br with
    | false =>
      go_wp2_with fail
      go_ret
      exact ⟨by first | rfl | simp, HBB4.out⟩
    | true =>
      have hF := HFive.out (HBr.out.1 rfl)
      clear HFive HBr
      cases hF
      case off =>
        have HY : Hid (∀ W, Calls Tryd.prog 10 #[.agg #[.bool false, .bool false, .bool false, .bool false, .bool nl, .int .i64 rd, .slice a ps.length c], .bool true] W fun e w' => e = .returned (.int .i64 132) ∧ Below W.heap.size W w') := Lib.hid (fun W => HCa.out W true 132 rfl)
        have HN : Hid (∀ W, Calls Tryd.prog 10 #[.agg #[.bool false, .bool false, .bool false, .bool false, .bool nl, .int .i64 rd, .slice a ps.length c], .bool false] W fun e w' => e = .returned (.int .i64 132) ∧ Below W.heap.size W w') := Lib.hid (fun W => HCa.out W false 132 rfl)
        have HT0 : Hid (∀ W, Calls Tryd.prog 11 #[.agg #[.bool false, .bool false, .bool false, .bool false, .bool nl, .int .i64 rd, .slice a ps.length c], .int .i64 0] W fun e w' => e = .returned (.bool false) ∧ Below W.heap.size W w') := Lib.hid (fun W => HTr.out W 0 false rfl)
        have HT1 : Hid (∀ W, Calls Tryd.prog 11 #[.agg #[.bool false, .bool false, .bool false, .bool false, .bool nl, .int .i64 rd, .slice a ps.length c], .int .i64 1] W fun e w' => e = .returned (.bool false) ∧ Below W.heap.size W w') := Lib.hid (fun W => HTr.out W 1 false rfl)
        have HT2 : Hid (∀ W, Calls Tryd.prog 11 #[.agg #[.bool false, .bool false, .bool false, .bool false, .bool nl, .int .i64 rd, .slice a ps.length c], .int .i64 2] W fun e w' => e = .returned (.bool false) ∧ Below W.heap.size W w') := Lib.hid (fun W => HTr.out W 2 false rfl)
        have HDD := HD4
        have HBW := HBB4
        clear HD4 HBB4
        go_upto_region 5 with fail
        obtain ⟨F, F1, F2, F3⟩ := Sp.ovr w4
        have HF3 := Lib.hid F3
        have HDF := Lib.hid (fun x => HDD.out.below (F1 x))
        have HBF := Lib.hid (fun x => bstep HBW.out (F1 x))
        have x0 := fun x => (HDF.out x).at 0 rfl
        have x1 := fun x => (HDF.out x).at 1 rfl
        have x2 := fun x => (HDF.out x).at 2 rfl
        have x3 := fun x => (HDF.out x).at 3 rfl
        have x4 := fun x => (HDF.out x).at 4 rfl
        have x5 := fun x => (HDF.out x).at 5 rfl
        have x6 := fun x => (HDF.out x).at 6 rfl
        clear F1 F3 HDD HBW
        refine Sp.wp_region_cls F (by kernel_rfl) (by kernel_rfl) F2 ?_
        repeat (go_big_quiet_step ((go_at_call 10; first | with_reducible exact Sp.q_ovr HF3.out (HY.out _) | with_reducible exact Sp.q_ovr HF3.out (HN.out _))))
        refine wpQuiet_nil ?_
        intro _ hw'
        obtain ⟨y, hy⟩ := hw'
        subst hy
        have HDD := Lib.hid (HDF.out y)
        have HBW := Lib.hid (HBF.out y)
        clear HDF HBF HF3 F2 x0 x1 x2 x3 x4 x5 x6
        generalize F y = w5 at *
        clear F
        go_upto_region 6 with fail
        obtain ⟨F, F1, F2, F3⟩ := Sp.ovr w5
        have HF3 := Lib.hid F3
        have HDF := Lib.hid (fun x => HDD.out.below (F1 x))
        have HBF := Lib.hid (fun x => bstep HBW.out (F1 x))
        have x0 := fun x => (HDF.out x).at 0 rfl
        have x1 := fun x => (HDF.out x).at 1 rfl
        have x2 := fun x => (HDF.out x).at 2 rfl
        have x3 := fun x => (HDF.out x).at 3 rfl
        have x4 := fun x => (HDF.out x).at 4 rfl
        have x5 := fun x => (HDF.out x).at 5 rfl
        have x6 := fun x => (HDF.out x).at 6 rfl
        clear F1 F3 HDD HBW
        refine Sp.wp_region_cls F (by kernel_rfl) (by kernel_rfl) F2 ?_
        repeat (go_big_quiet_step ((go_at_call 11; first | with_reducible exact Sp.q_ovr HF3.out (HT0.out _) | with_reducible exact Sp.q_ovr HF3.out (HT1.out _) | with_reducible exact Sp.q_ovr HF3.out (HT2.out _))))
        refine wpQuiet_nil ?_
        intro _ hw'
        obtain ⟨y, hy⟩ := hw'
        subst hy
        have HDD := Lib.hid (HDF.out y)
        have HBW := Lib.hid (HBF.out y)
        clear HDF HBF HF3 F2 x0 x1 x2 x3 x4 x5 x6
        generalize F y = w6 at *
        clear F
        have x0 := HDD.out.at 0 rfl
        have x1 := HDD.out.at 1 rfl
        have x2 := HDD.out.at 2 rfl
        have x3 := HDD.out.at 3 rfl
        have x4 := HDD.out.at 4 rfl
        have x5 := HDD.out.at 5 rfl
        have x6 := HDD.out.at 6 rfl
        go_upto_region 9 with fail
        have HFl2 := Lib.hid (HFl.out w6)
        go_wp2_with fail
        refine HFl2.out.mono ?_
        rintro e w7 ⟨v7, rfl, hR7⟩
        have HDD := Lib.hid (HDD.out.below hR7.bel)
        have HBW := Lib.hid (bstep HBW.out hR7.bel)
        clear x0 x1 x2 x3 x4 x5 x6 HFl2 HFl
        obtain ⟨fl, hfl⟩ : ∃ fl, flagsM (⟨false, false, false, false, nl, rd, ps⟩ : Md) = fl := ⟨_, rfl⟩
        have hfl0 : ∃ r, fl = mk wOff :: r := by rw [← hfl]; exact ⟨_, rfl⟩
        rw [hfl] at hR7
        clear hfl
        obtain ⟨r, rfl⟩ := hfl0
        obtain ⟨g7, c7, rfl⟩ := hR7.some' (by simp)
        obtain ⟨-, hq1, hq2, hcell⟩ := hR7.form
        have d0 : w7.cell? ⟨g7, 0, none⟩ = some (.string (mk wOff)) := hcell 0 (by simp)
        clear hR7 hcell
        obtain ⟨n7, hn7⟩ : ∃ n7, (mk wOff :: r).length = n7 := ⟨_, rfl⟩
        have hn0 : (0 : Int) < (n7 : Int) := by rw [← hn7]; simp
        rw [hn7] at hq1 ⊢
        clear hn7
        have hnd : decide ((0 : Int) < (n7 : Int)) = true := decide_eq_true hn0
        have hnn : 0 < n7 := by omega
        have hnd2 : decide (0 < n7) = true := decide_eq_true hnn
        have he : (wOff == [111, 110]) = false := rfl
        have he2 : (!(wOff == [111, 110])) = true := rfl
        have HDD7 := HDD
        have HBW7 := HBW
        clear HDD HBW
        by_cases k2 : 2 < k
        case pos =>
          have k2d : decide (2 < k) = true := decide_eq_true k2
          have HDD := HDD7
          have HBW := HBW7
          clear HDD7 HBW7
          go_upto_region 10 with fail
          obtain ⟨F, F1, F2, F3⟩ := Sp.ovr w7
          have HF3 := Lib.hid F3
          have HDF := Lib.hid (fun x => HDD.out.below (F1 x))
          have HBF := Lib.hid (fun x => bstep HBW.out (F1 x))
          have x0 := fun x => (HDF.out x).at 0 rfl
          have x1 := fun x => (HDF.out x).at 1 rfl
          have x2 := fun x => (HDF.out x).at 2 rfl
          have x3 := fun x => (HDF.out x).at 3 rfl
          have x4 := fun x => (HDF.out x).at 4 rfl
          have x5 := fun x => (HDF.out x).at 5 rfl
          have x6 := fun x => (HDF.out x).at 6 rfl
          have d0F := Sp.ovr_cell F1 d0
          clear F1 F3 HDD HBW
          refine Sp.wp_region_cls F (by kernel_rfl) (by kernel_rfl) F2 ?_
          repeat (go_big_quiet_step ((go_at_call 11; fail)))
          refine wpQuiet_nil ?_
          intro _ hw'
          obtain ⟨y, hy⟩ := hw'
          subst hy
          go_wp2_with fail
          go_ret
          exact ⟨by first | rfl | simp, HBF.out y⟩
        have k2d : decide (2 < k) = false := decide_eq_false k2
        by_cases k0 : k < 0
        case pos =>
          have k0d : decide (k < 0) = true := decide_eq_true k0
          have HDD := HDD7
          have HBW := HBW7
          clear HDD7 HBW7
          go_upto_region 10 with fail
          obtain ⟨F, F1, F2, F3⟩ := Sp.ovr w7
          have HF3 := Lib.hid F3
          have HDF := Lib.hid (fun x => HDD.out.below (F1 x))
          have HBF := Lib.hid (fun x => bstep HBW.out (F1 x))
          have x0 := fun x => (HDF.out x).at 0 rfl
          have x1 := fun x => (HDF.out x).at 1 rfl
          have x2 := fun x => (HDF.out x).at 2 rfl
          have x3 := fun x => (HDF.out x).at 3 rfl
          have x4 := fun x => (HDF.out x).at 4 rfl
          have x5 := fun x => (HDF.out x).at 5 rfl
          have x6 := fun x => (HDF.out x).at 6 rfl
          have d0F := Sp.ovr_cell F1 d0
          clear F1 F3 HDD HBW
          refine Sp.wp_region_cls F (by kernel_rfl) (by kernel_rfl) F2 ?_
          repeat (go_big_quiet_step ((go_at_call 11; fail)))
          refine wpQuiet_nil ?_
          intro _ hw'
          obtain ⟨y, hy⟩ := hw'
          subst hy
          go_wp2_with fail
          go_ret
          exact ⟨by first | rfl | simp, HBF.out y⟩
        have k0d : decide (k < 0) = false := decide_eq_false k0
        have k3 : k = 0 ∨ k = 1 ∨ k = 2 := by omega
        rcases k3 with rfl | rfl | rfl
        · clear k2 k2d k0 k0d
          have HDD := HDD7
          have HBW := HBW7
          clear HDD7 HBW7
          go_upto_region 10 with fail
          obtain ⟨F, F1, F2, F3⟩ := Sp.ovr w7
          have HF3 := Lib.hid F3
          have HDF := Lib.hid (fun x => HDD.out.below (F1 x))
          have HBF := Lib.hid (fun x => bstep HBW.out (F1 x))
          have x0 := fun x => (HDF.out x).at 0 rfl
          have x1 := fun x => (HDF.out x).at 1 rfl
          have x2 := fun x => (HDF.out x).at 2 rfl
          have x3 := fun x => (HDF.out x).at 3 rfl
          have x4 := fun x => (HDF.out x).at 4 rfl
          have x5 := fun x => (HDF.out x).at 5 rfl
          have x6 := fun x => (HDF.out x).at 6 rfl
          have d0F := Sp.ovr_cell F1 d0
          clear F1 F3 HDD HBW
          refine Sp.wp_region_cls F (by kernel_rfl) (by kernel_rfl) F2 ?_
          have hix := fun W => (ix3 W false false false).1
          repeat (go_big_quiet_step ((go_at_call 11; with_reducible exact Sp.q_ovr HF3.out (HT0.out _))))
          refine wpQuiet_nil ?_
          intro _ hw'
          obtain ⟨y, hy⟩ := hw'
          subst hy
          go_wp2_with fail
          go_ret
          exact ⟨by first | rfl | simp, HBF.out y⟩
        · clear k2 k2d k0 k0d
          have HDD := HDD7
          have HBW := HBW7
          clear HDD7 HBW7
          go_upto_region 10 with fail
          obtain ⟨F, F1, F2, F3⟩ := Sp.ovr w7
          have HF3 := Lib.hid F3
          have HDF := Lib.hid (fun x => HDD.out.below (F1 x))
          have HBF := Lib.hid (fun x => bstep HBW.out (F1 x))
          have x0 := fun x => (HDF.out x).at 0 rfl
          have x1 := fun x => (HDF.out x).at 1 rfl
          have x2 := fun x => (HDF.out x).at 2 rfl
          have x3 := fun x => (HDF.out x).at 3 rfl
          have x4 := fun x => (HDF.out x).at 4 rfl
          have x5 := fun x => (HDF.out x).at 5 rfl
          have x6 := fun x => (HDF.out x).at 6 rfl
          have d0F := Sp.ovr_cell F1 d0
          clear F1 F3 HDD HBW
          refine Sp.wp_region_cls F (by kernel_rfl) (by kernel_rfl) F2 ?_
          have hix := fun W => (ix3 W false false false).2.1
          repeat (go_big_quiet_step ((go_at_call 11; with_reducible exact Sp.q_ovr HF3.out (HT1.out _))))
          refine wpQuiet_nil ?_
          intro _ hw'
          obtain ⟨y, hy⟩ := hw'
          subst hy
          go_wp2_with fail
          go_ret
          exact ⟨by first | rfl | simp, HBF.out y⟩
        · clear k2 k2d k0 k0d
          have HDD := HDD7
          have HBW := HBW7
          clear HDD7 HBW7
          go_upto_region 10 with fail
          obtain ⟨F, F1, F2, F3⟩ := Sp.ovr w7
          have HF3 := Lib.hid F3
          have HDF := Lib.hid (fun x => HDD.out.below (F1 x))
          have HBF := Lib.hid (fun x => bstep HBW.out (F1 x))
          have x0 := fun x => (HDF.out x).at 0 rfl
          have x1 := fun x => (HDF.out x).at 1 rfl
          have x2 := fun x => (HDF.out x).at 2 rfl
          have x3 := fun x => (HDF.out x).at 3 rfl
          have x4 := fun x => (HDF.out x).at 4 rfl
          have x5 := fun x => (HDF.out x).at 5 rfl
          have x6 := fun x => (HDF.out x).at 6 rfl
          have d0F := Sp.ovr_cell F1 d0
          clear F1 F3 HDD HBW
          refine Sp.wp_region_cls F (by kernel_rfl) (by kernel_rfl) F2 ?_
          have hix := fun W => (ix3 W false false false).2.2
          repeat (go_big_quiet_step ((go_at_call 11; with_reducible exact Sp.q_ovr HF3.out (HT2.out _))))
          refine wpQuiet_nil ?_
          intro _ hw'
          obtain ⟨y, hy⟩ := hw'
          subst hy
          go_wp2_with fail
          go_ret
          exact ⟨by first | rfl | simp, HBF.out y⟩
      case bc =>
        have HY : Hid (∀ W, Calls Tryd.prog 10 #[.agg #[.bool true, .bool true, .bool false, .bool false, .bool nl, .int .i64 rd, .slice a ps.length c], .bool true] W fun e w' => e = .returned (.int .i64 132) ∧ Below W.heap.size W w') := Lib.hid (fun W => HCa.out W true 132 rfl)
        have HN : Hid (∀ W, Calls Tryd.prog 10 #[.agg #[.bool true, .bool true, .bool false, .bool false, .bool nl, .int .i64 rd, .slice a ps.length c], .bool false] W fun e w' => e = .returned (.int .i64 132) ∧ Below W.heap.size W w') := Lib.hid (fun W => HCa.out W false 132 rfl)
        have HT0 : Hid (∀ W, Calls Tryd.prog 11 #[.agg #[.bool true, .bool true, .bool false, .bool false, .bool nl, .int .i64 rd, .slice a ps.length c], .int .i64 0] W fun e w' => e = .returned (.bool false) ∧ Below W.heap.size W w') := Lib.hid (fun W => HTr.out W 0 false rfl)
        have HT1 : Hid (∀ W, Calls Tryd.prog 11 #[.agg #[.bool true, .bool true, .bool false, .bool false, .bool nl, .int .i64 rd, .slice a ps.length c], .int .i64 1] W fun e w' => e = .returned (.bool false) ∧ Below W.heap.size W w') := Lib.hid (fun W => HTr.out W 1 false rfl)
        have HT2 : Hid (∀ W, Calls Tryd.prog 11 #[.agg #[.bool true, .bool true, .bool false, .bool false, .bool nl, .int .i64 rd, .slice a ps.length c], .int .i64 2] W fun e w' => e = .returned (.bool false) ∧ Below W.heap.size W w') := Lib.hid (fun W => HTr.out W 2 false rfl)
        have HDD := HD4
        have HBW := HBB4
        clear HD4 HBB4
        go_upto_region 5 with fail
        obtain ⟨F, F1, F2, F3⟩ := Sp.ovr w4
        have HF3 := Lib.hid F3
        have HDF := Lib.hid (fun x => HDD.out.below (F1 x))
        have HBF := Lib.hid (fun x => bstep HBW.out (F1 x))
        have x0 := fun x => (HDF.out x).at 0 rfl
        have x1 := fun x => (HDF.out x).at 1 rfl
        have x2 := fun x => (HDF.out x).at 2 rfl
        have x3 := fun x => (HDF.out x).at 3 rfl
        have x4 := fun x => (HDF.out x).at 4 rfl
        have x5 := fun x => (HDF.out x).at 5 rfl
        have x6 := fun x => (HDF.out x).at 6 rfl
        clear F1 F3 HDD HBW
        refine Sp.wp_region_cls F (by kernel_rfl) (by kernel_rfl) F2 ?_
        repeat (go_big_quiet_step ((go_at_call 10; first | with_reducible exact Sp.q_ovr HF3.out (HY.out _) | with_reducible exact Sp.q_ovr HF3.out (HN.out _))))
        refine wpQuiet_nil ?_
        intro _ hw'
        obtain ⟨y, hy⟩ := hw'
        subst hy
        have HDD := Lib.hid (HDF.out y)
        have HBW := Lib.hid (HBF.out y)
        clear HDF HBF HF3 F2 x0 x1 x2 x3 x4 x5 x6
        generalize F y = w5 at *
        clear F
        go_upto_region 6 with fail
        obtain ⟨F, F1, F2, F3⟩ := Sp.ovr w5
        have HF3 := Lib.hid F3
        have HDF := Lib.hid (fun x => HDD.out.below (F1 x))
        have HBF := Lib.hid (fun x => bstep HBW.out (F1 x))
        have x0 := fun x => (HDF.out x).at 0 rfl
        have x1 := fun x => (HDF.out x).at 1 rfl
        have x2 := fun x => (HDF.out x).at 2 rfl
        have x3 := fun x => (HDF.out x).at 3 rfl
        have x4 := fun x => (HDF.out x).at 4 rfl
        have x5 := fun x => (HDF.out x).at 5 rfl
        have x6 := fun x => (HDF.out x).at 6 rfl
        clear F1 F3 HDD HBW
        refine Sp.wp_region_cls F (by kernel_rfl) (by kernel_rfl) F2 ?_
        repeat (go_big_quiet_step ((go_at_call 11; first | with_reducible exact Sp.q_ovr HF3.out (HT0.out _) | with_reducible exact Sp.q_ovr HF3.out (HT1.out _) | with_reducible exact Sp.q_ovr HF3.out (HT2.out _))))
        refine wpQuiet_nil ?_
        intro _ hw'
        obtain ⟨y, hy⟩ := hw'
        subst hy
        have HDD := Lib.hid (HDF.out y)
        have HBW := Lib.hid (HBF.out y)
        clear HDF HBF HF3 F2 x0 x1 x2 x3 x4 x5 x6
        generalize F y = w6 at *
        clear F
        have x0 := HDD.out.at 0 rfl
        have x1 := HDD.out.at 1 rfl
        have x2 := HDD.out.at 2 rfl
        have x3 := HDD.out.at 3 rfl
        have x4 := HDD.out.at 4 rfl
        have x5 := HDD.out.at 5 rfl
        have x6 := HDD.out.at 6 rfl
        go_upto_region 9 with fail
        have HFl2 := Lib.hid (HFl.out w6)
        go_wp2_with fail
        refine HFl2.out.mono ?_
        rintro e w7 ⟨v7, rfl, hR7⟩
        have HDD := Lib.hid (HDD.out.below hR7.bel)
        have HBW := Lib.hid (bstep HBW.out hR7.bel)
        clear x0 x1 x2 x3 x4 x5 x6 HFl2 HFl
        obtain ⟨fl, hfl⟩ : ∃ fl, flagsM (⟨true, true, false, false, nl, rd, ps⟩ : Md) = fl := ⟨_, rfl⟩
        have hfl0 : ∃ r, fl = mk wOn :: r := by rw [← hfl]; exact ⟨_, rfl⟩
        rw [hfl] at hR7
        clear hfl
        obtain ⟨r, rfl⟩ := hfl0
        obtain ⟨g7, c7, rfl⟩ := hR7.some' (by simp)
        obtain ⟨-, hq1, hq2, hcell⟩ := hR7.form
        have d0 : w7.cell? ⟨g7, 0, none⟩ = some (.string (mk wOn)) := hcell 0 (by simp)
        clear hR7 hcell
        obtain ⟨n7, hn7⟩ : ∃ n7, (mk wOn :: r).length = n7 := ⟨_, rfl⟩
        have hn0 : (0 : Int) < (n7 : Int) := by rw [← hn7]; simp
        rw [hn7] at hq1 ⊢
        clear hn7
        have hnd : decide ((0 : Int) < (n7 : Int)) = true := decide_eq_true hn0
        have hnn : 0 < n7 := by omega
        have hnd2 : decide (0 < n7) = true := decide_eq_true hnn
        have he : (wOn == [111, 110]) = true := rfl
        have HDD7 := HDD
        have HBW7 := HBW
        clear HDD HBW
        by_cases k2 : 2 < k
        case pos =>
          have k2d : decide (2 < k) = true := decide_eq_true k2
          have HDD := HDD7
          have HBW := HBW7
          clear HDD7 HBW7
          go_upto_region 10 with fail
          obtain ⟨F, F1, F2, F3⟩ := Sp.ovr w7
          have HF3 := Lib.hid F3
          have HDF := Lib.hid (fun x => HDD.out.below (F1 x))
          have HBF := Lib.hid (fun x => bstep HBW.out (F1 x))
          have x0 := fun x => (HDF.out x).at 0 rfl
          have x1 := fun x => (HDF.out x).at 1 rfl
          have x2 := fun x => (HDF.out x).at 2 rfl
          have x3 := fun x => (HDF.out x).at 3 rfl
          have x4 := fun x => (HDF.out x).at 4 rfl
          have x5 := fun x => (HDF.out x).at 5 rfl
          have x6 := fun x => (HDF.out x).at 6 rfl
          have d0F := Sp.ovr_cell F1 d0
          clear F1 F3 HDD HBW
          refine Sp.wp_region_cls F (by kernel_rfl) (by kernel_rfl) F2 ?_
          repeat (go_big_quiet_step ((go_at_call 11; fail)))
          refine wpQuiet_nil ?_
          intro _ hw'
          obtain ⟨y, hy⟩ := hw'
          subst hy
          go_wp2_with fail
          go_ret
          exact ⟨by first | rfl | simp, HBF.out y⟩
        have k2d : decide (2 < k) = false := decide_eq_false k2
        by_cases k0 : k < 0
        case pos =>
          have k0d : decide (k < 0) = true := decide_eq_true k0
          have HDD := HDD7
          have HBW := HBW7
          clear HDD7 HBW7
          go_upto_region 10 with fail
          obtain ⟨F, F1, F2, F3⟩ := Sp.ovr w7
          have HF3 := Lib.hid F3
          have HDF := Lib.hid (fun x => HDD.out.below (F1 x))
          have HBF := Lib.hid (fun x => bstep HBW.out (F1 x))
          have x0 := fun x => (HDF.out x).at 0 rfl
          have x1 := fun x => (HDF.out x).at 1 rfl
          have x2 := fun x => (HDF.out x).at 2 rfl
          have x3 := fun x => (HDF.out x).at 3 rfl
          have x4 := fun x => (HDF.out x).at 4 rfl
          have x5 := fun x => (HDF.out x).at 5 rfl
          have x6 := fun x => (HDF.out x).at 6 rfl
          have d0F := Sp.ovr_cell F1 d0
          clear F1 F3 HDD HBW
          refine Sp.wp_region_cls F (by kernel_rfl) (by kernel_rfl) F2 ?_
          repeat (go_big_quiet_step ((go_at_call 11; fail)))
          refine wpQuiet_nil ?_
          intro _ hw'
          obtain ⟨y, hy⟩ := hw'
          subst hy
          go_wp2_with fail
          go_ret
          exact ⟨by first | rfl | simp, HBF.out y⟩
        have k0d : decide (k < 0) = false := decide_eq_false k0
        have k3 : k = 0 ∨ k = 1 ∨ k = 2 := by omega
        rcases k3 with rfl | rfl | rfl
        · clear k2 k2d k0 k0d
          have HDD := HDD7
          have HBW := HBW7
          clear HDD7 HBW7
          go_upto_region 10 with fail
          obtain ⟨F, F1, F2, F3⟩ := Sp.ovr w7
          have HF3 := Lib.hid F3
          have HDF := Lib.hid (fun x => HDD.out.below (F1 x))
          have HBF := Lib.hid (fun x => bstep HBW.out (F1 x))
          have x0 := fun x => (HDF.out x).at 0 rfl
          have x1 := fun x => (HDF.out x).at 1 rfl
          have x2 := fun x => (HDF.out x).at 2 rfl
          have x3 := fun x => (HDF.out x).at 3 rfl
          have x4 := fun x => (HDF.out x).at 4 rfl
          have x5 := fun x => (HDF.out x).at 5 rfl
          have x6 := fun x => (HDF.out x).at 6 rfl
          have d0F := Sp.ovr_cell F1 d0
          clear F1 F3 HDD HBW
          refine Sp.wp_region_cls F (by kernel_rfl) (by kernel_rfl) F2 ?_
          have hix := fun W => (ix3 W false false false).1
          repeat (go_big_quiet_step ((go_at_call 11; with_reducible exact Sp.q_ovr HF3.out (HT0.out _))))
          refine wpQuiet_nil ?_
          intro _ hw'
          obtain ⟨y, hy⟩ := hw'
          subst hy
          go_wp2_with fail
          go_ret
          exact ⟨by first | rfl | simp, HBF.out y⟩
        · clear k2 k2d k0 k0d
          have HDD := HDD7
          have HBW := HBW7
          clear HDD7 HBW7
          go_upto_region 10 with fail
          obtain ⟨F, F1, F2, F3⟩ := Sp.ovr w7
          have HF3 := Lib.hid F3
          have HDF := Lib.hid (fun x => HDD.out.below (F1 x))
          have HBF := Lib.hid (fun x => bstep HBW.out (F1 x))
          have x0 := fun x => (HDF.out x).at 0 rfl
          have x1 := fun x => (HDF.out x).at 1 rfl
          have x2 := fun x => (HDF.out x).at 2 rfl
          have x3 := fun x => (HDF.out x).at 3 rfl
          have x4 := fun x => (HDF.out x).at 4 rfl
          have x5 := fun x => (HDF.out x).at 5 rfl
          have x6 := fun x => (HDF.out x).at 6 rfl
          have d0F := Sp.ovr_cell F1 d0
          clear F1 F3 HDD HBW
          refine Sp.wp_region_cls F (by kernel_rfl) (by kernel_rfl) F2 ?_
          have hix := fun W => (ix3 W false false false).2.1
          repeat (go_big_quiet_step ((go_at_call 11; with_reducible exact Sp.q_ovr HF3.out (HT1.out _))))
          refine wpQuiet_nil ?_
          intro _ hw'
          obtain ⟨y, hy⟩ := hw'
          subst hy
          go_wp2_with fail
          go_ret
          exact ⟨by first | rfl | simp, HBF.out y⟩
        · clear k2 k2d k0 k0d
          have HDD := HDD7
          have HBW := HBW7
          clear HDD7 HBW7
          go_upto_region 10 with fail
          obtain ⟨F, F1, F2, F3⟩ := Sp.ovr w7
          have HF3 := Lib.hid F3
          have HDF := Lib.hid (fun x => HDD.out.below (F1 x))
          have HBF := Lib.hid (fun x => bstep HBW.out (F1 x))
          have x0 := fun x => (HDF.out x).at 0 rfl
          have x1 := fun x => (HDF.out x).at 1 rfl
          have x2 := fun x => (HDF.out x).at 2 rfl
          have x3 := fun x => (HDF.out x).at 3 rfl
          have x4 := fun x => (HDF.out x).at 4 rfl
          have x5 := fun x => (HDF.out x).at 5 rfl
          have x6 := fun x => (HDF.out x).at 6 rfl
          have d0F := Sp.ovr_cell F1 d0
          clear F1 F3 HDD HBW
          refine Sp.wp_region_cls F (by kernel_rfl) (by kernel_rfl) F2 ?_
          have hix := fun W => (ix3 W false false false).2.2
          repeat (go_big_quiet_step ((go_at_call 11; with_reducible exact Sp.q_ovr HF3.out (HT2.out _))))
          refine wpQuiet_nil ?_
          intro _ hw'
          obtain ⟨y, hy⟩ := hw'
          subst hy
          go_wp2_with fail
          go_ret
          exact ⟨by first | rfl | simp, HBF.out y⟩
      case all =>
        have HY : Hid (∀ W, Calls Tryd.prog 10 #[.agg #[.bool true, .bool false, .bool false, .bool false, .bool nl, .int .i64 rd, .slice a ps.length c], .bool true] W fun e w' => e = .returned (.int .i64 132) ∧ Below W.heap.size W w') := Lib.hid (fun W => HCa.out W true 132 rfl)
        have HN : Hid (∀ W, Calls Tryd.prog 10 #[.agg #[.bool true, .bool false, .bool false, .bool false, .bool nl, .int .i64 rd, .slice a ps.length c], .bool false] W fun e w' => e = .returned (.int .i64 132) ∧ Below W.heap.size W w') := Lib.hid (fun W => HCa.out W false 132 rfl)
        have HT0 : Hid (∀ W, Calls Tryd.prog 11 #[.agg #[.bool true, .bool false, .bool false, .bool false, .bool nl, .int .i64 rd, .slice a ps.length c], .int .i64 0] W fun e w' => e = .returned (.bool true) ∧ Below W.heap.size W w') := Lib.hid (fun W => HTr.out W 0 true rfl)
        have HT1 : Hid (∀ W, Calls Tryd.prog 11 #[.agg #[.bool true, .bool false, .bool false, .bool false, .bool nl, .int .i64 rd, .slice a ps.length c], .int .i64 1] W fun e w' => e = .returned (.bool true) ∧ Below W.heap.size W w') := Lib.hid (fun W => HTr.out W 1 true rfl)
        have HT2 : Hid (∀ W, Calls Tryd.prog 11 #[.agg #[.bool true, .bool false, .bool false, .bool false, .bool nl, .int .i64 rd, .slice a ps.length c], .int .i64 2] W fun e w' => e = .returned (.bool true) ∧ Below W.heap.size W w') := Lib.hid (fun W => HTr.out W 2 true rfl)
        have HDD := HD4
        have HBW := HBB4
        clear HD4 HBB4
        go_upto_region 5 with fail
        obtain ⟨F, F1, F2, F3⟩ := Sp.ovr w4
        have HF3 := Lib.hid F3
        have HDF := Lib.hid (fun x => HDD.out.below (F1 x))
        have HBF := Lib.hid (fun x => bstep HBW.out (F1 x))
        have x0 := fun x => (HDF.out x).at 0 rfl
        have x1 := fun x => (HDF.out x).at 1 rfl
        have x2 := fun x => (HDF.out x).at 2 rfl
        have x3 := fun x => (HDF.out x).at 3 rfl
        have x4 := fun x => (HDF.out x).at 4 rfl
        have x5 := fun x => (HDF.out x).at 5 rfl
        have x6 := fun x => (HDF.out x).at 6 rfl
        clear F1 F3 HDD HBW
        refine Sp.wp_region_cls F (by kernel_rfl) (by kernel_rfl) F2 ?_
        repeat (go_big_quiet_step ((go_at_call 10; first | with_reducible exact Sp.q_ovr HF3.out (HY.out _) | with_reducible exact Sp.q_ovr HF3.out (HN.out _))))
        refine wpQuiet_nil ?_
        intro _ hw'
        obtain ⟨y, hy⟩ := hw'
        subst hy
        have HDD := Lib.hid (HDF.out y)
        have HBW := Lib.hid (HBF.out y)
        clear HDF HBF HF3 F2 x0 x1 x2 x3 x4 x5 x6
        generalize F y = w5 at *
        clear F
        go_upto_region 6 with fail
        obtain ⟨F, F1, F2, F3⟩ := Sp.ovr w5
        have HF3 := Lib.hid F3
        have HDF := Lib.hid (fun x => HDD.out.below (F1 x))
        have HBF := Lib.hid (fun x => bstep HBW.out (F1 x))
        have x0 := fun x => (HDF.out x).at 0 rfl
        have x1 := fun x => (HDF.out x).at 1 rfl
        have x2 := fun x => (HDF.out x).at 2 rfl
        have x3 := fun x => (HDF.out x).at 3 rfl
        have x4 := fun x => (HDF.out x).at 4 rfl
        have x5 := fun x => (HDF.out x).at 5 rfl
        have x6 := fun x => (HDF.out x).at 6 rfl
        clear F1 F3 HDD HBW
        refine Sp.wp_region_cls F (by kernel_rfl) (by kernel_rfl) F2 ?_
        repeat (go_big_quiet_step ((go_at_call 11; first | with_reducible exact Sp.q_ovr HF3.out (HT0.out _) | with_reducible exact Sp.q_ovr HF3.out (HT1.out _) | with_reducible exact Sp.q_ovr HF3.out (HT2.out _))))
        refine wpQuiet_nil ?_
        intro _ hw'
        obtain ⟨y, hy⟩ := hw'
        subst hy
        have HDD := Lib.hid (HDF.out y)
        have HBW := Lib.hid (HBF.out y)
        clear HDF HBF HF3 F2 x0 x1 x2 x3 x4 x5 x6
        generalize F y = w6 at *
        clear F
        have x0 := HDD.out.at 0 rfl
        have x1 := HDD.out.at 1 rfl
        have x2 := HDD.out.at 2 rfl
        have x3 := HDD.out.at 3 rfl
        have x4 := HDD.out.at 4 rfl
        have x5 := HDD.out.at 5 rfl
        have x6 := HDD.out.at 6 rfl
        go_upto_region 9 with fail
        have HFl2 := Lib.hid (HFl.out w6)
        go_wp2_with fail
        refine HFl2.out.mono ?_
        rintro e w7 ⟨v7, rfl, hR7⟩
        have HDD := Lib.hid (HDD.out.below hR7.bel)
        have HBW := Lib.hid (bstep HBW.out hR7.bel)
        clear x0 x1 x2 x3 x4 x5 x6 HFl2 HFl
        obtain ⟨fl, hfl⟩ : ∃ fl, flagsM (⟨true, false, false, false, nl, rd, ps⟩ : Md) = fl := ⟨_, rfl⟩
        have hfl0 : ∃ r, fl = mk wOn :: r := by rw [← hfl]; exact ⟨_, rfl⟩
        rw [hfl] at hR7
        clear hfl
        obtain ⟨r, rfl⟩ := hfl0
        obtain ⟨g7, c7, rfl⟩ := hR7.some' (by simp)
        obtain ⟨-, hq1, hq2, hcell⟩ := hR7.form
        have d0 : w7.cell? ⟨g7, 0, none⟩ = some (.string (mk wOn)) := hcell 0 (by simp)
        clear hR7 hcell
        obtain ⟨n7, hn7⟩ : ∃ n7, (mk wOn :: r).length = n7 := ⟨_, rfl⟩
        have hn0 : (0 : Int) < (n7 : Int) := by rw [← hn7]; simp
        rw [hn7] at hq1 ⊢
        clear hn7
        have hnd : decide ((0 : Int) < (n7 : Int)) = true := decide_eq_true hn0
        have hnn : 0 < n7 := by omega
        have hnd2 : decide (0 < n7) = true := decide_eq_true hnn
        have he : (wOn == [111, 110]) = true := rfl
        have HDD7 := HDD
        have HBW7 := HBW
        clear HDD HBW
        by_cases k2 : 2 < k
        case pos =>
          have k2d : decide (2 < k) = true := decide_eq_true k2
          have HDD := HDD7
          have HBW := HBW7
          clear HDD7 HBW7
          go_upto_region 10 with fail
          obtain ⟨F, F1, F2, F3⟩ := Sp.ovr w7
          have HF3 := Lib.hid F3
          have HDF := Lib.hid (fun x => HDD.out.below (F1 x))
          have HBF := Lib.hid (fun x => bstep HBW.out (F1 x))
          have x0 := fun x => (HDF.out x).at 0 rfl
          have x1 := fun x => (HDF.out x).at 1 rfl
          have x2 := fun x => (HDF.out x).at 2 rfl
          have x3 := fun x => (HDF.out x).at 3 rfl
          have x4 := fun x => (HDF.out x).at 4 rfl
          have x5 := fun x => (HDF.out x).at 5 rfl
          have x6 := fun x => (HDF.out x).at 6 rfl
          have d0F := Sp.ovr_cell F1 d0
          clear F1 F3 HDD HBW
          refine Sp.wp_region_cls F (by kernel_rfl) (by kernel_rfl) F2 ?_
          repeat (go_big_quiet_step ((go_at_call 11; fail)))
          refine wpQuiet_nil ?_
          intro _ hw'
          obtain ⟨y, hy⟩ := hw'
          subst hy
          go_wp2_with fail
          go_ret
          exact ⟨by first | rfl | simp, HBF.out y⟩
        have k2d : decide (2 < k) = false := decide_eq_false k2
        by_cases k0 : k < 0
        case pos =>
          have k0d : decide (k < 0) = true := decide_eq_true k0
          have HDD := HDD7
          have HBW := HBW7
          clear HDD7 HBW7
          go_upto_region 10 with fail
          obtain ⟨F, F1, F2, F3⟩ := Sp.ovr w7
          have HF3 := Lib.hid F3
          have HDF := Lib.hid (fun x => HDD.out.below (F1 x))
          have HBF := Lib.hid (fun x => bstep HBW.out (F1 x))
          have x0 := fun x => (HDF.out x).at 0 rfl
          have x1 := fun x => (HDF.out x).at 1 rfl
          have x2 := fun x => (HDF.out x).at 2 rfl
          have x3 := fun x => (HDF.out x).at 3 rfl
          have x4 := fun x => (HDF.out x).at 4 rfl
          have x5 := fun x => (HDF.out x).at 5 rfl
          have x6 := fun x => (HDF.out x).at 6 rfl
          have d0F := Sp.ovr_cell F1 d0
          clear F1 F3 HDD HBW
          refine Sp.wp_region_cls F (by kernel_rfl) (by kernel_rfl) F2 ?_
          repeat (go_big_quiet_step ((go_at_call 11; fail)))
          refine wpQuiet_nil ?_
          intro _ hw'
          obtain ⟨y, hy⟩ := hw'
          subst hy
          go_wp2_with fail
          go_ret
          exact ⟨by first | rfl | simp, HBF.out y⟩
        have k0d : decide (k < 0) = false := decide_eq_false k0
        have k3 : k = 0 ∨ k = 1 ∨ k = 2 := by omega
        rcases k3 with rfl | rfl | rfl
        · clear k2 k2d k0 k0d
          have HDD := HDD7
          have HBW := HBW7
          clear HDD7 HBW7
          go_upto_region 10 with fail
          obtain ⟨F, F1, F2, F3⟩ := Sp.ovr w7
          have HF3 := Lib.hid F3
          have HDF := Lib.hid (fun x => HDD.out.below (F1 x))
          have HBF := Lib.hid (fun x => bstep HBW.out (F1 x))
          have x0 := fun x => (HDF.out x).at 0 rfl
          have x1 := fun x => (HDF.out x).at 1 rfl
          have x2 := fun x => (HDF.out x).at 2 rfl
          have x3 := fun x => (HDF.out x).at 3 rfl
          have x4 := fun x => (HDF.out x).at 4 rfl
          have x5 := fun x => (HDF.out x).at 5 rfl
          have x6 := fun x => (HDF.out x).at 6 rfl
          have d0F := Sp.ovr_cell F1 d0
          clear F1 F3 HDD HBW
          refine Sp.wp_region_cls F (by kernel_rfl) (by kernel_rfl) F2 ?_
          have hix := fun W => (ix3 W true true true).1
          repeat (go_big_quiet_step ((go_at_call 11; with_reducible exact Sp.q_ovr HF3.out (HT0.out _))))
          refine wpQuiet_nil ?_
          intro _ hw'
          obtain ⟨y, hy⟩ := hw'
          subst hy
          go_wp2_with fail
          go_ret
          exact ⟨by first | rfl | simp, HBF.out y⟩
        · clear k2 k2d k0 k0d
          have HDD := HDD7
          have HBW := HBW7
          clear HDD7 HBW7
          go_upto_region 10 with fail
          obtain ⟨F, F1, F2, F3⟩ := Sp.ovr w7
          have HF3 := Lib.hid F3
          have HDF := Lib.hid (fun x => HDD.out.below (F1 x))
          have HBF := Lib.hid (fun x => bstep HBW.out (F1 x))
          have x0 := fun x => (HDF.out x).at 0 rfl
          have x1 := fun x => (HDF.out x).at 1 rfl
          have x2 := fun x => (HDF.out x).at 2 rfl
          have x3 := fun x => (HDF.out x).at 3 rfl
          have x4 := fun x => (HDF.out x).at 4 rfl
          have x5 := fun x => (HDF.out x).at 5 rfl
          have x6 := fun x => (HDF.out x).at 6 rfl
          have d0F := Sp.ovr_cell F1 d0
          clear F1 F3 HDD HBW
          refine Sp.wp_region_cls F (by kernel_rfl) (by kernel_rfl) F2 ?_
          have hix := fun W => (ix3 W true true true).2.1
          repeat (go_big_quiet_step ((go_at_call 11; with_reducible exact Sp.q_ovr HF3.out (HT1.out _))))
          refine wpQuiet_nil ?_
          intro _ hw'
          obtain ⟨y, hy⟩ := hw'
          subst hy
          go_wp2_with fail
          go_ret
          exact ⟨by first | rfl | simp, HBF.out y⟩
        · clear k2 k2d k0 k0d
          have HDD := HDD7
          have HBW := HBW7
          clear HDD7 HBW7
          go_upto_region 10 with fail
          obtain ⟨F, F1, F2, F3⟩ := Sp.ovr w7
          have HF3 := Lib.hid F3
          have HDF := Lib.hid (fun x => HDD.out.below (F1 x))
          have HBF := Lib.hid (fun x => bstep HBW.out (F1 x))
          have x0 := fun x => (HDF.out x).at 0 rfl
          have x1 := fun x => (HDF.out x).at 1 rfl
          have x2 := fun x => (HDF.out x).at 2 rfl
          have x3 := fun x => (HDF.out x).at 3 rfl
          have x4 := fun x => (HDF.out x).at 4 rfl
          have x5 := fun x => (HDF.out x).at 5 rfl
          have x6 := fun x => (HDF.out x).at 6 rfl
          have d0F := Sp.ovr_cell F1 d0
          clear F1 F3 HDD HBW
          refine Sp.wp_region_cls F (by kernel_rfl) (by kernel_rfl) F2 ?_
          have hix := fun W => (ix3 W true true true).2.2
          repeat (go_big_quiet_step ((go_at_call 11; with_reducible exact Sp.q_ovr HF3.out (HT2.out _))))
          refine wpQuiet_nil ?_
          intro _ hw'
          obtain ⟨y, hy⟩ := hw'
          subst hy
          go_wp2_with fail
          go_ret
          exact ⟨by first | rfl | simp, HBF.out y⟩
      case oi =>
        have HY : Hid (∀ W, Calls Tryd.prog 10 #[.agg #[.bool true, .bool false, .bool true, .bool false, .bool nl, .int .i64 rd, .slice a ps.length c], .bool true] W fun e w' => e = .returned (.int .i64 0) ∧ Below W.heap.size W w') := Lib.hid (fun W => HCa.out W true 0 rfl)
        have HN : Hid (∀ W, Calls Tryd.prog 10 #[.agg #[.bool true, .bool false, .bool true, .bool false, .bool nl, .int .i64 rd, .slice a ps.length c], .bool false] W fun e w' => e = .returned (.int .i64 132) ∧ Below W.heap.size W w') := Lib.hid (fun W => HCa.out W false 132 rfl)
        have HT0 : Hid (∀ W, Calls Tryd.prog 11 #[.agg #[.bool true, .bool false, .bool true, .bool false, .bool nl, .int .i64 rd, .slice a ps.length c], .int .i64 0] W fun e w' => e = .returned (.bool false) ∧ Below W.heap.size W w') := Lib.hid (fun W => HTr.out W 0 false rfl)
        have HT1 : Hid (∀ W, Calls Tryd.prog 11 #[.agg #[.bool true, .bool false, .bool true, .bool false, .bool nl, .int .i64 rd, .slice a ps.length c], .int .i64 1] W fun e w' => e = .returned (.bool true) ∧ Below W.heap.size W w') := Lib.hid (fun W => HTr.out W 1 true rfl)
        have HT2 : Hid (∀ W, Calls Tryd.prog 11 #[.agg #[.bool true, .bool false, .bool true, .bool false, .bool nl, .int .i64 rd, .slice a ps.length c], .int .i64 2] W fun e w' => e = .returned (.bool false) ∧ Below W.heap.size W w') := Lib.hid (fun W => HTr.out W 2 false rfl)
        have HDD := HD4
        have HBW := HBB4
        clear HD4 HBB4
        go_upto_region 5 with fail
        obtain ⟨F, F1, F2, F3⟩ := Sp.ovr w4
        have HF3 := Lib.hid F3
        have HDF := Lib.hid (fun x => HDD.out.below (F1 x))
        have HBF := Lib.hid (fun x => bstep HBW.out (F1 x))
        have x0 := fun x => (HDF.out x).at 0 rfl
        have x1 := fun x => (HDF.out x).at 1 rfl
        have x2 := fun x => (HDF.out x).at 2 rfl
        have x3 := fun x => (HDF.out x).at 3 rfl
        have x4 := fun x => (HDF.out x).at 4 rfl
        have x5 := fun x => (HDF.out x).at 5 rfl
        have x6 := fun x => (HDF.out x).at 6 rfl
        clear F1 F3 HDD HBW
        refine Sp.wp_region_cls F (by kernel_rfl) (by kernel_rfl) F2 ?_
        repeat (go_big_quiet_step ((go_at_call 10; first | with_reducible exact Sp.q_ovr HF3.out (HY.out _) | with_reducible exact Sp.q_ovr HF3.out (HN.out _))))
        refine wpQuiet_nil ?_
        intro _ hw'
        obtain ⟨y, hy⟩ := hw'
        subst hy
        have HDD := Lib.hid (HDF.out y)
        have HBW := Lib.hid (HBF.out y)
        clear HDF HBF HF3 F2 x0 x1 x2 x3 x4 x5 x6
        generalize F y = w5 at *
        clear F
        go_upto_region 6 with fail
        obtain ⟨F, F1, F2, F3⟩ := Sp.ovr w5
        have HF3 := Lib.hid F3
        have HDF := Lib.hid (fun x => HDD.out.below (F1 x))
        have HBF := Lib.hid (fun x => bstep HBW.out (F1 x))
        have x0 := fun x => (HDF.out x).at 0 rfl
        have x1 := fun x => (HDF.out x).at 1 rfl
        have x2 := fun x => (HDF.out x).at 2 rfl
        have x3 := fun x => (HDF.out x).at 3 rfl
        have x4 := fun x => (HDF.out x).at 4 rfl
        have x5 := fun x => (HDF.out x).at 5 rfl
        have x6 := fun x => (HDF.out x).at 6 rfl
        clear F1 F3 HDD HBW
        refine Sp.wp_region_cls F (by kernel_rfl) (by kernel_rfl) F2 ?_
        repeat (go_big_quiet_step ((go_at_call 11; first | with_reducible exact Sp.q_ovr HF3.out (HT0.out _) | with_reducible exact Sp.q_ovr HF3.out (HT1.out _) | with_reducible exact Sp.q_ovr HF3.out (HT2.out _))))
        refine wpQuiet_nil ?_
        intro _ hw'
        obtain ⟨y, hy⟩ := hw'
        subst hy
        have HDD := Lib.hid (HDF.out y)
        have HBW := Lib.hid (HBF.out y)
        clear HDF HBF HF3 F2 x0 x1 x2 x3 x4 x5 x6
        generalize F y = w6 at *
        clear F
        have x0 := HDD.out.at 0 rfl
        have x1 := HDD.out.at 1 rfl
        have x2 := HDD.out.at 2 rfl
        have x3 := HDD.out.at 3 rfl
        have x4 := HDD.out.at 4 rfl
        have x5 := HDD.out.at 5 rfl
        have x6 := HDD.out.at 6 rfl
        go_upto_region 9 with fail
        have HFl2 := Lib.hid (HFl.out w6)
        go_wp2_with fail
        refine HFl2.out.mono ?_
        rintro e w7 ⟨v7, rfl, hR7⟩
        have HDD := Lib.hid (HDD.out.below hR7.bel)
        have HBW := Lib.hid (bstep HBW.out hR7.bel)
        clear x0 x1 x2 x3 x4 x5 x6 HFl2 HFl
        obtain ⟨fl, hfl⟩ : ∃ fl, flagsM (⟨true, false, true, false, nl, rd, ps⟩ : Md) = fl := ⟨_, rfl⟩
        have hfl0 : ∃ r, fl = mk wOn :: r := by rw [← hfl]; exact ⟨_, rfl⟩
        rw [hfl] at hR7
        clear hfl
        obtain ⟨r, rfl⟩ := hfl0
        obtain ⟨g7, c7, rfl⟩ := hR7.some' (by simp)
        obtain ⟨-, hq1, hq2, hcell⟩ := hR7.form
        have d0 : w7.cell? ⟨g7, 0, none⟩ = some (.string (mk wOn)) := hcell 0 (by simp)
        clear hR7 hcell
        obtain ⟨n7, hn7⟩ : ∃ n7, (mk wOn :: r).length = n7 := ⟨_, rfl⟩
        have hn0 : (0 : Int) < (n7 : Int) := by rw [← hn7]; simp
        rw [hn7] at hq1 ⊢
        clear hn7
        have hnd : decide ((0 : Int) < (n7 : Int)) = true := decide_eq_true hn0
        have hnn : 0 < n7 := by omega
        have hnd2 : decide (0 < n7) = true := decide_eq_true hnn
        have he : (wOn == [111, 110]) = true := rfl
        have HDD7 := HDD
        have HBW7 := HBW
        clear HDD HBW
        by_cases k2 : 2 < k
        case pos =>
          have k2d : decide (2 < k) = true := decide_eq_true k2
          have HDD := HDD7
          have HBW := HBW7
          clear HDD7 HBW7
          go_upto_region 10 with fail
          obtain ⟨F, F1, F2, F3⟩ := Sp.ovr w7
          have HF3 := Lib.hid F3
          have HDF := Lib.hid (fun x => HDD.out.below (F1 x))
          have HBF := Lib.hid (fun x => bstep HBW.out (F1 x))
          have x0 := fun x => (HDF.out x).at 0 rfl
          have x1 := fun x => (HDF.out x).at 1 rfl
          have x2 := fun x => (HDF.out x).at 2 rfl
          have x3 := fun x => (HDF.out x).at 3 rfl
          have x4 := fun x => (HDF.out x).at 4 rfl
          have x5 := fun x => (HDF.out x).at 5 rfl
          have x6 := fun x => (HDF.out x).at 6 rfl
          have d0F := Sp.ovr_cell F1 d0
          clear F1 F3 HDD HBW
          refine Sp.wp_region_cls F (by kernel_rfl) (by kernel_rfl) F2 ?_
          repeat (go_big_quiet_step ((go_at_call 11; fail)))
          refine wpQuiet_nil ?_
          intro _ hw'
          obtain ⟨y, hy⟩ := hw'
          subst hy
          go_wp2_with fail
          go_ret
          exact ⟨by first | rfl | simp, HBF.out y⟩
        have k2d : decide (2 < k) = false := decide_eq_false k2
        by_cases k0 : k < 0
        case pos =>
          have k0d : decide (k < 0) = true := decide_eq_true k0
          have HDD := HDD7
          have HBW := HBW7
          clear HDD7 HBW7
          go_upto_region 10 with fail
          obtain ⟨F, F1, F2, F3⟩ := Sp.ovr w7
          have HF3 := Lib.hid F3
          have HDF := Lib.hid (fun x => HDD.out.below (F1 x))
          have HBF := Lib.hid (fun x => bstep HBW.out (F1 x))
          have x0 := fun x => (HDF.out x).at 0 rfl
          have x1 := fun x => (HDF.out x).at 1 rfl
          have x2 := fun x => (HDF.out x).at 2 rfl
          have x3 := fun x => (HDF.out x).at 3 rfl
          have x4 := fun x => (HDF.out x).at 4 rfl
          have x5 := fun x => (HDF.out x).at 5 rfl
          have x6 := fun x => (HDF.out x).at 6 rfl
          have d0F := Sp.ovr_cell F1 d0
          clear F1 F3 HDD HBW
          refine Sp.wp_region_cls F (by kernel_rfl) (by kernel_rfl) F2 ?_
          repeat (go_big_quiet_step ((go_at_call 11; fail)))
          refine wpQuiet_nil ?_
          intro _ hw'
          obtain ⟨y, hy⟩ := hw'
          subst hy
          go_wp2_with fail
          go_ret
          exact ⟨by first | rfl | simp, HBF.out y⟩
        have k0d : decide (k < 0) = false := decide_eq_false k0
        have k3 : k = 0 ∨ k = 1 ∨ k = 2 := by omega
        rcases k3 with rfl | rfl | rfl
        · clear k2 k2d k0 k0d
          have HDD := HDD7
          have HBW := HBW7
          clear HDD7 HBW7
          go_upto_region 10 with fail
          obtain ⟨F, F1, F2, F3⟩ := Sp.ovr w7
          have HF3 := Lib.hid F3
          have HDF := Lib.hid (fun x => HDD.out.below (F1 x))
          have HBF := Lib.hid (fun x => bstep HBW.out (F1 x))
          have x0 := fun x => (HDF.out x).at 0 rfl
          have x1 := fun x => (HDF.out x).at 1 rfl
          have x2 := fun x => (HDF.out x).at 2 rfl
          have x3 := fun x => (HDF.out x).at 3 rfl
          have x4 := fun x => (HDF.out x).at 4 rfl
          have x5 := fun x => (HDF.out x).at 5 rfl
          have x6 := fun x => (HDF.out x).at 6 rfl
          have d0F := Sp.ovr_cell F1 d0
          clear F1 F3 HDD HBW
          refine Sp.wp_region_cls F (by kernel_rfl) (by kernel_rfl) F2 ?_
          have hix := fun W => (ix3 W false true false).1
          repeat (go_big_quiet_step ((go_at_call 11; with_reducible exact Sp.q_ovr HF3.out (HT0.out _))))
          refine wpQuiet_nil ?_
          intro _ hw'
          obtain ⟨y, hy⟩ := hw'
          subst hy
          go_wp2_with fail
          go_ret
          exact ⟨by first | rfl | simp, HBF.out y⟩
        · clear k2 k2d k0 k0d
          have HDD := HDD7
          have HBW := HBW7
          clear HDD7 HBW7
          go_upto_region 10 with fail
          obtain ⟨F, F1, F2, F3⟩ := Sp.ovr w7
          have HF3 := Lib.hid F3
          have HDF := Lib.hid (fun x => HDD.out.below (F1 x))
          have HBF := Lib.hid (fun x => bstep HBW.out (F1 x))
          have x0 := fun x => (HDF.out x).at 0 rfl
          have x1 := fun x => (HDF.out x).at 1 rfl
          have x2 := fun x => (HDF.out x).at 2 rfl
          have x3 := fun x => (HDF.out x).at 3 rfl
          have x4 := fun x => (HDF.out x).at 4 rfl
          have x5 := fun x => (HDF.out x).at 5 rfl
          have x6 := fun x => (HDF.out x).at 6 rfl
          have d0F := Sp.ovr_cell F1 d0
          clear F1 F3 HDD HBW
          refine Sp.wp_region_cls F (by kernel_rfl) (by kernel_rfl) F2 ?_
          have hix := fun W => (ix3 W false true false).2.1
          repeat (go_big_quiet_step ((go_at_call 11; with_reducible exact Sp.q_ovr HF3.out (HT1.out _))))
          refine wpQuiet_nil ?_
          intro _ hw'
          obtain ⟨y, hy⟩ := hw'
          subst hy
          go_wp2_with fail
          go_ret
          exact ⟨by first | rfl | simp, HBF.out y⟩
        · clear k2 k2d k0 k0d
          have HDD := HDD7
          have HBW := HBW7
          clear HDD7 HBW7
          go_upto_region 10 with fail
          obtain ⟨F, F1, F2, F3⟩ := Sp.ovr w7
          have HF3 := Lib.hid F3
          have HDF := Lib.hid (fun x => HDD.out.below (F1 x))
          have HBF := Lib.hid (fun x => bstep HBW.out (F1 x))
          have x0 := fun x => (HDF.out x).at 0 rfl
          have x1 := fun x => (HDF.out x).at 1 rfl
          have x2 := fun x => (HDF.out x).at 2 rfl
          have x3 := fun x => (HDF.out x).at 3 rfl
          have x4 := fun x => (HDF.out x).at 4 rfl
          have x5 := fun x => (HDF.out x).at 5 rfl
          have x6 := fun x => (HDF.out x).at 6 rfl
          have d0F := Sp.ovr_cell F1 d0
          clear F1 F3 HDD HBW
          refine Sp.wp_region_cls F (by kernel_rfl) (by kernel_rfl) F2 ?_
          have hix := fun W => (ix3 W false true false).2.2
          repeat (go_big_quiet_step ((go_at_call 11; with_reducible exact Sp.q_ovr HF3.out (HT2.out _))))
          refine wpQuiet_nil ?_
          intro _ hw'
          obtain ⟨y, hy⟩ := hw'
          subst hy
          go_wp2_with fail
          go_ret
          exact ⟨by first | rfl | simp, HBF.out y⟩
      case oo =>
        have HY : Hid (∀ W, Calls Tryd.prog 10 #[.agg #[.bool true, .bool false, .bool false, .bool true, .bool nl, .int .i64 rd, .slice a ps.length c], .bool true] W fun e w' => e = .returned (.int .i64 132) ∧ Below W.heap.size W w') := Lib.hid (fun W => HCa.out W true 132 rfl)
        have HN : Hid (∀ W, Calls Tryd.prog 10 #[.agg #[.bool true, .bool false, .bool false, .bool true, .bool nl, .int .i64 rd, .slice a ps.length c], .bool false] W fun e w' => e = .returned (.int .i64 0) ∧ Below W.heap.size W w') := Lib.hid (fun W => HCa.out W false 0 rfl)
        have HT0 : Hid (∀ W, Calls Tryd.prog 11 #[.agg #[.bool true, .bool false, .bool false, .bool true, .bool nl, .int .i64 rd, .slice a ps.length c], .int .i64 0] W fun e w' => e = .returned (.bool true) ∧ Below W.heap.size W w') := Lib.hid (fun W => HTr.out W 0 true rfl)
        have HT1 : Hid (∀ W, Calls Tryd.prog 11 #[.agg #[.bool true, .bool false, .bool false, .bool true, .bool nl, .int .i64 rd, .slice a ps.length c], .int .i64 1] W fun e w' => e = .returned (.bool true) ∧ Below W.heap.size W w') := Lib.hid (fun W => HTr.out W 1 true rfl)
        have HT2 : Hid (∀ W, Calls Tryd.prog 11 #[.agg #[.bool true, .bool false, .bool false, .bool true, .bool nl, .int .i64 rd, .slice a ps.length c], .int .i64 2] W fun e w' => e = .returned (.bool false) ∧ Below W.heap.size W w') := Lib.hid (fun W => HTr.out W 2 false rfl)
        have HDD := HD4
        have HBW := HBB4
        clear HD4 HBB4
        go_upto_region 5 with fail
        obtain ⟨F, F1, F2, F3⟩ := Sp.ovr w4
        have HF3 := Lib.hid F3
        have HDF := Lib.hid (fun x => HDD.out.below (F1 x))
        have HBF := Lib.hid (fun x => bstep HBW.out (F1 x))
        have x0 := fun x => (HDF.out x).at 0 rfl
        have x1 := fun x => (HDF.out x).at 1 rfl
        have x2 := fun x => (HDF.out x).at 2 rfl
        have x3 := fun x => (HDF.out x).at 3 rfl
        have x4 := fun x => (HDF.out x).at 4 rfl
        have x5 := fun x => (HDF.out x).at 5 rfl
        have x6 := fun x => (HDF.out x).at 6 rfl
        clear F1 F3 HDD HBW
        refine Sp.wp_region_cls F (by kernel_rfl) (by kernel_rfl) F2 ?_
        repeat (go_big_quiet_step ((go_at_call 10; first | with_reducible exact Sp.q_ovr HF3.out (HY.out _) | with_reducible exact Sp.q_ovr HF3.out (HN.out _))))
        refine wpQuiet_nil ?_
        intro _ hw'
        obtain ⟨y, hy⟩ := hw'
        subst hy
        have HDD := Lib.hid (HDF.out y)
        have HBW := Lib.hid (HBF.out y)
        clear HDF HBF HF3 F2 x0 x1 x2 x3 x4 x5 x6
        generalize F y = w5 at *
        clear F
        go_upto_region 6 with fail
        obtain ⟨F, F1, F2, F3⟩ := Sp.ovr w5
        have HF3 := Lib.hid F3
        have HDF := Lib.hid (fun x => HDD.out.below (F1 x))
        have HBF := Lib.hid (fun x => bstep HBW.out (F1 x))
        have x0 := fun x => (HDF.out x).at 0 rfl
        have x1 := fun x => (HDF.out x).at 1 rfl
        have x2 := fun x => (HDF.out x).at 2 rfl
        have x3 := fun x => (HDF.out x).at 3 rfl
        have x4 := fun x => (HDF.out x).at 4 rfl
        have x5 := fun x => (HDF.out x).at 5 rfl
        have x6 := fun x => (HDF.out x).at 6 rfl
        clear F1 F3 HDD HBW
        refine Sp.wp_region_cls F (by kernel_rfl) (by kernel_rfl) F2 ?_
        repeat (go_big_quiet_step ((go_at_call 11; first | with_reducible exact Sp.q_ovr HF3.out (HT0.out _) | with_reducible exact Sp.q_ovr HF3.out (HT1.out _) | with_reducible exact Sp.q_ovr HF3.out (HT2.out _))))
        refine wpQuiet_nil ?_
        intro _ hw'
        obtain ⟨y, hy⟩ := hw'
        subst hy
        have HDD := Lib.hid (HDF.out y)
        have HBW := Lib.hid (HBF.out y)
        clear HDF HBF HF3 F2 x0 x1 x2 x3 x4 x5 x6
        generalize F y = w6 at *
        clear F
        have x0 := HDD.out.at 0 rfl
        have x1 := HDD.out.at 1 rfl
        have x2 := HDD.out.at 2 rfl
        have x3 := HDD.out.at 3 rfl
        have x4 := HDD.out.at 4 rfl
        have x5 := HDD.out.at 5 rfl
        have x6 := HDD.out.at 6 rfl
        go_upto_region 9 with fail
        have HFl2 := Lib.hid (HFl.out w6)
        go_wp2_with fail
        refine HFl2.out.mono ?_
        rintro e w7 ⟨v7, rfl, hR7⟩
        have HDD := Lib.hid (HDD.out.below hR7.bel)
        have HBW := Lib.hid (bstep HBW.out hR7.bel)
        clear x0 x1 x2 x3 x4 x5 x6 HFl2 HFl
        obtain ⟨fl, hfl⟩ : ∃ fl, flagsM (⟨true, false, false, true, nl, rd, ps⟩ : Md) = fl := ⟨_, rfl⟩
        have hfl0 : ∃ r, fl = mk wOn :: r := by rw [← hfl]; exact ⟨_, rfl⟩
        rw [hfl] at hR7
        clear hfl
        obtain ⟨r, rfl⟩ := hfl0
        obtain ⟨g7, c7, rfl⟩ := hR7.some' (by simp)
        obtain ⟨-, hq1, hq2, hcell⟩ := hR7.form
        have d0 : w7.cell? ⟨g7, 0, none⟩ = some (.string (mk wOn)) := hcell 0 (by simp)
        clear hR7 hcell
        obtain ⟨n7, hn7⟩ : ∃ n7, (mk wOn :: r).length = n7 := ⟨_, rfl⟩
        have hn0 : (0 : Int) < (n7 : Int) := by rw [← hn7]; simp
        rw [hn7] at hq1 ⊢
        clear hn7
        have hnd : decide ((0 : Int) < (n7 : Int)) = true := decide_eq_true hn0
        have hnn : 0 < n7 := by omega
        have hnd2 : decide (0 < n7) = true := decide_eq_true hnn
        have he : (wOn == [111, 110]) = true := rfl
        have HDD7 := HDD
        have HBW7 := HBW
        clear HDD HBW
        by_cases k2 : 2 < k
        case pos =>
          have k2d : decide (2 < k) = true := decide_eq_true k2
          have HDD := HDD7
          have HBW := HBW7
          clear HDD7 HBW7
          go_upto_region 10 with fail
          obtain ⟨F, F1, F2, F3⟩ := Sp.ovr w7
          have HF3 := Lib.hid F3
          have HDF := Lib.hid (fun x => HDD.out.below (F1 x))
          have HBF := Lib.hid (fun x => bstep HBW.out (F1 x))
          have x0 := fun x => (HDF.out x).at 0 rfl
          have x1 := fun x => (HDF.out x).at 1 rfl
          have x2 := fun x => (HDF.out x).at 2 rfl
          have x3 := fun x => (HDF.out x).at 3 rfl
          have x4 := fun x => (HDF.out x).at 4 rfl
          have x5 := fun x => (HDF.out x).at 5 rfl
          have x6 := fun x => (HDF.out x).at 6 rfl
          have d0F := Sp.ovr_cell F1 d0
          clear F1 F3 HDD HBW
          refine Sp.wp_region_cls F (by kernel_rfl) (by kernel_rfl) F2 ?_
          repeat (go_big_quiet_step ((go_at_call 11; fail)))
          refine wpQuiet_nil ?_
          intro _ hw'
          obtain ⟨y, hy⟩ := hw'
          subst hy
          go_wp2_with fail
          go_ret
          exact ⟨by first | rfl | simp, HBF.out y⟩
        have k2d : decide (2 < k) = false := decide_eq_false k2
        by_cases k0 : k < 0
        case pos =>
          have k0d : decide (k < 0) = true := decide_eq_true k0
          have HDD := HDD7
          have HBW := HBW7
          clear HDD7 HBW7
          go_upto_region 10 with fail
          obtain ⟨F, F1, F2, F3⟩ := Sp.ovr w7
          have HF3 := Lib.hid F3
          have HDF := Lib.hid (fun x => HDD.out.below (F1 x))
          have HBF := Lib.hid (fun x => bstep HBW.out (F1 x))
          have x0 := fun x => (HDF.out x).at 0 rfl
          have x1 := fun x => (HDF.out x).at 1 rfl
          have x2 := fun x => (HDF.out x).at 2 rfl
          have x3 := fun x => (HDF.out x).at 3 rfl
          have x4 := fun x => (HDF.out x).at 4 rfl
          have x5 := fun x => (HDF.out x).at 5 rfl
          have x6 := fun x => (HDF.out x).at 6 rfl
          have d0F := Sp.ovr_cell F1 d0
          clear F1 F3 HDD HBW
          refine Sp.wp_region_cls F (by kernel_rfl) (by kernel_rfl) F2 ?_
          repeat (go_big_quiet_step ((go_at_call 11; fail)))
          refine wpQuiet_nil ?_
          intro _ hw'
          obtain ⟨y, hy⟩ := hw'
          subst hy
          go_wp2_with fail
          go_ret
          exact ⟨by first | rfl | simp, HBF.out y⟩
        have k0d : decide (k < 0) = false := decide_eq_false k0
        have k3 : k = 0 ∨ k = 1 ∨ k = 2 := by omega
        rcases k3 with rfl | rfl | rfl
        · clear k2 k2d k0 k0d
          have HDD := HDD7
          have HBW := HBW7
          clear HDD7 HBW7
          go_upto_region 10 with fail
          obtain ⟨F, F1, F2, F3⟩ := Sp.ovr w7
          have HF3 := Lib.hid F3
          have HDF := Lib.hid (fun x => HDD.out.below (F1 x))
          have HBF := Lib.hid (fun x => bstep HBW.out (F1 x))
          have x0 := fun x => (HDF.out x).at 0 rfl
          have x1 := fun x => (HDF.out x).at 1 rfl
          have x2 := fun x => (HDF.out x).at 2 rfl
          have x3 := fun x => (HDF.out x).at 3 rfl
          have x4 := fun x => (HDF.out x).at 4 rfl
          have x5 := fun x => (HDF.out x).at 5 rfl
          have x6 := fun x => (HDF.out x).at 6 rfl
          have d0F := Sp.ovr_cell F1 d0
          clear F1 F3 HDD HBW
          refine Sp.wp_region_cls F (by kernel_rfl) (by kernel_rfl) F2 ?_
          have hix := fun W => (ix3 W true true false).1
          repeat (go_big_quiet_step ((go_at_call 11; with_reducible exact Sp.q_ovr HF3.out (HT0.out _))))
          refine wpQuiet_nil ?_
          intro _ hw'
          obtain ⟨y, hy⟩ := hw'
          subst hy
          go_wp2_with fail
          go_ret
          exact ⟨by first | rfl | simp, HBF.out y⟩
        · clear k2 k2d k0 k0d
          have HDD := HDD7
          have HBW := HBW7
          clear HDD7 HBW7
          go_upto_region 10 with fail
          obtain ⟨F, F1, F2, F3⟩ := Sp.ovr w7
          have HF3 := Lib.hid F3
          have HDF := Lib.hid (fun x => HDD.out.below (F1 x))
          have HBF := Lib.hid (fun x => bstep HBW.out (F1 x))
          have x0 := fun x => (HDF.out x).at 0 rfl
          have x1 := fun x => (HDF.out x).at 1 rfl
          have x2 := fun x => (HDF.out x).at 2 rfl
          have x3 := fun x => (HDF.out x).at 3 rfl
          have x4 := fun x => (HDF.out x).at 4 rfl
          have x5 := fun x => (HDF.out x).at 5 rfl
          have x6 := fun x => (HDF.out x).at 6 rfl
          have d0F := Sp.ovr_cell F1 d0
          clear F1 F3 HDD HBW
          refine Sp.wp_region_cls F (by kernel_rfl) (by kernel_rfl) F2 ?_
          have hix := fun W => (ix3 W true true false).2.1
          repeat (go_big_quiet_step ((go_at_call 11; with_reducible exact Sp.q_ovr HF3.out (HT1.out _))))
          refine wpQuiet_nil ?_
          intro _ hw'
          obtain ⟨y, hy⟩ := hw'
          subst hy
          go_wp2_with fail
          go_ret
          exact ⟨by first | rfl | simp, HBF.out y⟩
        · clear k2 k2d k0 k0d
          have HDD := HDD7
          have HBW := HBW7
          clear HDD7 HBW7
          go_upto_region 10 with fail
          obtain ⟨F, F1, F2, F3⟩ := Sp.ovr w7
          have HF3 := Lib.hid F3
          have HDF := Lib.hid (fun x => HDD.out.below (F1 x))
          have HBF := Lib.hid (fun x => bstep HBW.out (F1 x))
          have x0 := fun x => (HDF.out x).at 0 rfl
          have x1 := fun x => (HDF.out x).at 1 rfl
          have x2 := fun x => (HDF.out x).at 2 rfl
          have x3 := fun x => (HDF.out x).at 3 rfl
          have x4 := fun x => (HDF.out x).at 4 rfl
          have x5 := fun x => (HDF.out x).at 5 rfl
          have x6 := fun x => (HDF.out x).at 6 rfl
          have d0F := Sp.ovr_cell F1 d0
          clear F1 F3 HDD HBW
          refine Sp.wp_region_cls F (by kernel_rfl) (by kernel_rfl) F2 ?_
          have hix := fun W => (ix3 W true true false).2.2
          repeat (go_big_quiet_step ((go_at_call 11; with_reducible exact Sp.q_ovr HF3.out (HT2.out _))))
          refine wpQuiet_nil ?_
          intro _ hw'
          obtain ⟨y, hy⟩ := hw'
          subst hy
          go_wp2_with fail
          go_ret
          exact ⟨by first | rfl | simp, HBF.out y⟩
end Go.Proofs.YtjpbpdjomfkkeaaDoor.Ma
