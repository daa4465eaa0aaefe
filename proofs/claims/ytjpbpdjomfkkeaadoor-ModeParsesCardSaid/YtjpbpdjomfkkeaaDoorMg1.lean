/- ModeOff. No condition but those of its arguments' types. -/
import Derived.Test.YtjpbpdjomfkkeaaDoorMf1
namespace Go.Proofs.YtjpbpdjomfkkeaaDoor.Ma
set_option linter.unusedVariables false
set_option linter.unusedSimpArgs false
open Go.ChangeShapes Go.WideShapes Go.ChangeAt Go.RowKit
open Go.Proofs.YtjpbpdjomfkkeaaDoor.Sp (bstep bbox Hp Th cellsT rowT)
theorem right_zero : RightM zero := by unfold RightM zero; simp
theorem switch_off (a : Md) : switchM a zero = (zero, 0) := by unfold switchM zero; simp
theorem switch_on (b : Md) : switchM zero b = (b, 0) := by unfold switchM zero; simp
theorem off_zero {m : Md} (h : RightM m) (ho : m.on = false) : m = zero := by
  unfold RightM at h
  rwa [ho, if_neg (by simp)] at h
theorem right_strict {m : Md} (h : RightM m) : Strict m.ps := by
  by_cases ho : m.on = true
  · unfold RightM at h
    rw [if_pos ho] at h
    exact h.2.2.strict
  · have := off_zero h (by simpa using ho)
    rw [this]; exact List.Pairwise.nil
theorem switch_self {a : Md} (h : RightM a) : switchM a a = (a, 0) := by
  unfold switchM
  by_cases ho : a.on = true
  · rw [if_pos (by simp [ho]), if_pos (by simp)]
    have e : ({ a with ps := cmp (srt (a.ps ++ a.ps)) } : Md) = a := by rw [cmp_twice (right_strict h)]
    rw [e, if_pos ((rightB_iff _).2 h)]
  · rw [if_neg (by simp [ho])]
theorem switch_right {a b : Md} (ha : RightM a) (hb : RightM b) : RightM (switchM a b).1 ∧ ((switchM a b).2 = 0 ∨ ((switchM a b).2 = 132 ∧ (switchM a b).1 = a)) := by
  unfold switchM
  split
  · split
    · split
      case isTrue h => exact ⟨(rightB_iff _).1 h, .inl rfl⟩
      case isFalse => exact ⟨ha, .inr ⟨rfl, rfl⟩⟩
    · exact ⟨ha, .inr ⟨rfl, rfl⟩⟩
  · exact ⟨hb, .inl rfl⟩
set_option maxHeartbeats 64000000 in
set_option maxRecDepth 100000 in
theorem modeOff (w : World) (hX : MCtx w) (m n : Md) (a a' : Option Addr) (c c' : Nat) (hlc : m.ps.length ≤ c) (hcb : c ≤ 9223372036854775807) (hz : a = none → c = 0) (hI : InS w a m.ps)
    (hlc' : n.ps.length ≤ c') (hcb' : c' ≤ 9223372036854775807) (hz' : a' = none → c' = 0) (hI' : InS w a' n.ps) :
    Calls Tryd.prog 5 #[mV m a c, mV n a' c'] w fun e w' => e = .returned (.bool true) ∧ Below w.heap.size w w' := by
  have HX := Lib.hid hX
  have HZ := Lib.hid hz
  have HZ' := Lib.hid hz'
  clear hX hz hz'
  have HA := Lib.hid (fun W (hW : Below w.heap.size w W) => alive_calls W (HX.out.below hW))
  obtain ⟨bg, hbg⟩ := some_b (Great m)
  obtain ⟨bh, hbh⟩ := some_b (Great n)
  have HG := Lib.hid (fun W (hW : Below w.heap.size w W) => great_calls W m a c (hI.bel hW) (by omega) bg hbg)
  have HG' := Lib.hid (fun W (hW : Below w.heap.size w W) => great_calls W n a' c' (hI'.bel hW) (by omega) bh hbh)
  have HGi := Lib.hid hbg
  have HGi' := Lib.hid hbh
  have HIa := Lib.hid (fun W (hW : Below w.heap.size w W) => hI.bel hW)
  have HIb := Lib.hid (fun W (hW : Below w.heap.size w W) => hI'.bel hW)
  have HRf : Hid (m.ps.length ≤ 1000000 → ∀ b, (b = true ↔ RightM m) → ∀ W, Below w.heap.size w W → Calls Tryd.prog 17 #[mV m a c] W fun e w' => e = .returned (.bool b) ∧ Below W.heap.size W w') := Lib.hid (fun hl b hb W hW => refRight_calls W m a c (hI.bel hW) hlc hl b hb)
  have HRf' : Hid (n.ps.length ≤ 1000000 → ∀ b, (b = true ↔ RightM n) → ∀ W, Below w.heap.size w W → Calls Tryd.prog 17 #[mV n a' c'] W fun e w' => e = .returned (.bool b) ∧ Below W.heap.size W w') := Lib.hid (fun hl b hb W hW => refRight_calls W n a' c' (hI'.bel hW) hlc' hl b hb)
  clear hbg hbh hI hI'
  obtain ⟨son, sbc, soi, soo, snl, srd, sps⟩ := m
  obtain ⟨ton, tbc, toi, too, tnl, trd, tps⟩ := n
  unfold mV at HG HG' HRf HRf'
  unfold mV
  simp only at HG HG' HRf HRf' HIa HIb ⊢
  have HDa := Lib.hid ((CellL.new w [.bool son, .bool sbc, .bool soi, .bool soo, .bool snl, .int .i64 srd, .slice a sps.length c] 24).alloc (.cells #[.bool ton, .bool tbc, .bool toi, .bool too, .bool tnl, .int .i64 trd, .slice a' tps.length c'] 24))
  have HDb := Lib.hid (CellL.new2 (w.alloc (.cells #[.bool son, .bool sbc, .bool soi, .bool soo, .bool snl, .int .i64 srd, .slice a sps.length c] 24)) (w.heap.size + 1) (by simp) [.bool ton, .bool tbc, .bool toi, .bool too, .bool tnl, .int .i64 trd, .slice a' tps.length c'] 24)
  have HB := Lib.hid (bstep (bbox (w := w) (.cells #[.bool son, .bool sbc, .bool soi, .bool soo, .bool snl, .int .i64 srd, .slice a sps.length c] 24)) (bbox (.cells #[.bool ton, .bool tbc, .bool toi, .bool too, .bool tnl, .int .i64 trd, .slice a' tps.length c'] 24)))
  go_enter Tryd.func5, Tryd.ntmps5
  go_upto_region 1 with fail
  have HDa : Hid (CellL ((w.alloc (.cells #[.bool son, .bool sbc, .bool soi, .bool soo, .bool snl, .int .i64 srd, .slice a sps.length c] 24)).alloc (.cells #[.bool ton, .bool tbc, .bool toi, .bool too, .bool tnl, .int .i64 trd, .slice a' tps.length c'] 24)) w.heap.size [.bool son, .bool sbc, .bool soi, .bool soo, .bool snl, .int .i64 srd, .slice a sps.length c]) := HDa
  have HDb : Hid (CellL ((w.alloc (.cells #[.bool son, .bool sbc, .bool soi, .bool soo, .bool snl, .int .i64 srd, .slice a sps.length c] 24)).alloc (.cells #[.bool ton, .bool tbc, .bool toi, .bool too, .bool tnl, .int .i64 trd, .slice a' tps.length c'] 24)) (w.heap.size + 1) [.bool ton, .bool tbc, .bool toi, .bool too, .bool tnl, .int .i64 trd, .slice a' tps.length c']) := HDb
  have HB : Hid (Below w.heap.size w ((w.alloc (.cells #[.bool son, .bool sbc, .bool soi, .bool soo, .bool snl, .int .i64 srd, .slice a sps.length c] 24)).alloc (.cells #[.bool ton, .bool tbc, .bool toi, .bool too, .bool tnl, .int .i64 trd, .slice a' tps.length c'] 24))) := HB
  generalize ((w.alloc (.cells #[.bool son, .bool sbc, .bool soi, .bool soo, .bool snl, .int .i64 srd, .slice a sps.length c] 24)).alloc (.cells #[.bool ton, .bool tbc, .bool toi, .bool too, .bool tnl, .int .i64 trd, .slice a' tps.length c'] 24)) = w1 at *
  obtain ⟨b2, hb2⟩ : ∃ b2, w.heap.size + 1 = b2 := ⟨_, rfl⟩
  obtain ⟨b1, hb1⟩ : ∃ b1, w.heap.size = b1 := ⟨_, rfl⟩
  rw [hb1] at HDa
  rw [hb2] at HDb
  simp only [hb2]
  simp only [hb1]
  clear hb1 hb2
  go_wp2_with fail
  refine (HA.out _ HB.out).mono ?_
  rintro e w2 ⟨rfl, hb⟩
  have HB := Lib.hid (bstep HB.out hb)
  have HDa := Lib.hid (HDa.out.below hb)
  have HDb := Lib.hid (HDb.out.below hb)
  clear hb HA
  have x0 := HDa.out.at 0 rfl
  have x1 := HDa.out.at 1 rfl
  have x2 := HDa.out.at 2 rfl
  have x3 := HDa.out.at 3 rfl
  have x4 := HDa.out.at 4 rfl
  have x5 := HDa.out.at 5 rfl
  have x6 := HDa.out.at 6 rfl
  have y0 := HDb.out.at 0 rfl
  have y1 := HDb.out.at 1 rfl
  have y2 := HDb.out.at 2 rfl
  have y3 := HDb.out.at 3 rfl
  have y4 := HDb.out.at 4 rfl
  have y5 := HDb.out.at 5 rfl
  have y6 := HDb.out.at 6 rfl
  go_wp2_with fail
  refine (HG.out _ HB.out).mono ?_
  rintro e w3 ⟨rfl, hb⟩
  have HB := Lib.hid (bstep HB.out hb)
  have HDa := Lib.hid (HDa.out.below hb)
  have HDb := Lib.hid (HDb.out.below hb)
  clear hb HG
  clear x0 x1 x2 x3 x4 x5 x6 y0 y1 y2 y3 y4 y5 y6
  have x0 := HDa.out.at 0 rfl
  have x1 := HDa.out.at 1 rfl
  have x2 := HDa.out.at 2 rfl
  have x3 := HDa.out.at 3 rfl
  have x4 := HDa.out.at 4 rfl
  have x5 := HDa.out.at 5 rfl
  have x6 := HDa.out.at 6 rfl
  have y0 := HDb.out.at 0 rfl
  have y1 := HDb.out.at 1 rfl
  have y2 := HDb.out.at 2 rfl
  have y3 := HDb.out.at 3 rfl
  have y4 := HDb.out.at 4 rfl
  have y5 := HDb.out.at 5 rfl
  have y6 := HDb.out.at 6 rfl
  cases bg with
  | true =>
    go_wp2_with fail
    go_ret
    exact ⟨by first | rfl | simp, HB.out⟩
  | false =>
    go_wp2_with fail
    refine (HG'.out _ HB.out).mono ?_
    rintro e w4 ⟨rfl, hb⟩
    have HB := Lib.hid (bstep HB.out hb)
    have HDa := Lib.hid (HDa.out.below hb)
    have HDb := Lib.hid (HDb.out.below hb)
    clear hb HG'
    clear x0 x1 x2 x3 x4 x5 x6 y0 y1 y2 y3 y4 y5 y6
    have x0 := HDa.out.at 0 rfl
    have x1 := HDa.out.at 1 rfl
    have x2 := HDa.out.at 2 rfl
    have x3 := HDa.out.at 3 rfl
    have x4 := HDa.out.at 4 rfl
    have x5 := HDa.out.at 5 rfl
    have x6 := HDa.out.at 6 rfl
    have y0 := HDb.out.at 0 rfl
    have y1 := HDb.out.at 1 rfl
    have y2 := HDb.out.at 2 rfl
    have y3 := HDb.out.at 3 rfl
    have y4 := HDb.out.at 4 rfl
    have y5 := HDb.out.at 5 rfl
    have y6 := HDb.out.at 6 rfl
    cases bh with
    | true =>
      go_wp2_with fail
      go_ret
      exact ⟨by first | rfl | simp, HB.out⟩
    | false =>
      have hsp : sps.length ≤ 50 := by
        have h : ¬ Great (⟨son, sbc, soi, soo, snl, srd, sps⟩ : Md) := fun h => by have := HGi.out.2 h; cases this
        exact Nat.le_of_not_lt fun k => h (.inl k)
      have htp : tps.length ≤ 50 := by
        have h : ¬ Great (⟨ton, tbc, toi, too, tnl, trd, tps⟩ : Md) := fun h => by have := HGi'.out.2 h; cases this
        exact Nat.le_of_not_lt fun k => h (.inl k)
      obtain ⟨br, hbr⟩ := some_b (RightM ⟨son, sbc, soi, soo, snl, srd, sps⟩)
      obtain ⟨bs, hbs⟩ := some_b (RightM ⟨ton, tbc, toi, too, tnl, trd, tps⟩)
      have HRt := Lib.hid (HRf.out (by omega) br hbr)
      have HRt' := Lib.hid (HRf'.out (by omega) bs hbs)
      have HBr := Lib.hid hbr
      have HBs := Lib.hid hbs
      clear hbr hbs HRf HRf'
      go_wp2_with fail
      refine (HRt.out _ HB.out).mono ?_
      rintro e w5 ⟨rfl, hb⟩
      have HB := Lib.hid (bstep HB.out hb)
      have HDa := Lib.hid (HDa.out.below hb)
      have HDb := Lib.hid (HDb.out.below hb)
      clear hb HRt
      clear x0 x1 x2 x3 x4 x5 x6 y0 y1 y2 y3 y4 y5 y6
      have x0 := HDa.out.at 0 rfl
      have x1 := HDa.out.at 1 rfl
      have x2 := HDa.out.at 2 rfl
      have x3 := HDa.out.at 3 rfl
      have x4 := HDa.out.at 4 rfl
      have x5 := HDa.out.at 5 rfl
      have x6 := HDa.out.at 6 rfl
      have y0 := HDb.out.at 0 rfl
      have y1 := HDb.out.at 1 rfl
      have y2 := HDb.out.at 2 rfl
      have y3 := HDb.out.at 3 rfl
      have y4 := HDb.out.at 4 rfl
      have y5 := HDb.out.at 5 rfl
      have y6 := HDb.out.at 6 rfl
      cases br with
      | false =>
        go_wp2_with fail
        go_ret
        exact ⟨by first | rfl | simp, HB.out⟩
      | true =>
        go_wp2_with fail
        refine (HRt'.out _ HB.out).mono ?_
        rintro e w6 ⟨rfl, hb⟩
        have HB := Lib.hid (bstep HB.out hb)
        have HDa := Lib.hid (HDa.out.below hb)
        have HDb := Lib.hid (HDb.out.below hb)
        clear hb HRt'
        clear x0 x1 x2 x3 x4 x5 x6 y0 y1 y2 y3 y4 y5 y6
        have x0 := HDa.out.at 0 rfl
        have x1 := HDa.out.at 1 rfl
        have x2 := HDa.out.at 2 rfl
        have x3 := HDa.out.at 3 rfl
        have x4 := HDa.out.at 4 rfl
        have x5 := HDa.out.at 5 rfl
        have x6 := HDa.out.at 6 rfl
        have y0 := HDb.out.at 0 rfl
        have y1 := HDb.out.at 1 rfl
        have y2 := HDb.out.at 2 rfl
        have y3 := HDb.out.at 3 rfl
        have y4 := HDb.out.at 4 rfl
        have y5 := HDb.out.at 5 rfl
        have y6 := HDb.out.at 6 rfl
        cases bs with
        | false =>
          go_wp2_with fail
          go_ret
          exact ⟨by first | rfl | simp, HB.out⟩
        | true =>
          have hRa : RightM ⟨son, sbc, soi, soo, snl, srd, sps⟩ := by have h := HBr.out; first | exact h.1 rfl | exact h.1 trivial | simpa using h
          have hRb : RightM ⟨ton, tbc, toi, too, tnl, trd, tps⟩ := by have h := HBs.out; first | exact h.1 rfl | exact h.1 trivial | simpa using h
          have HRa := Lib.hid hRa
          have HRb := Lib.hid hRb
          clear hRa hRb HBr HBs
          go_upto_region 5 with fail
          have HSw : Hid (Calls Tryd.prog 19 #[.agg #[.bool son, .bool sbc, .bool soi, .bool soo, .bool snl, .int .i64 srd, .slice a sps.length c], .agg #[.bool false, .bool false, .bool false, .bool false, .bool false, .int .i64 0, .slice none 0 0]] w6 fun e w' => ∃ v, e = .returned (.tuple #[mVv zero v, .int .i64 0]) ∧ RowS w6 w' v (zero : Md).ps) := Lib.hid (switch_calls w6 ⟨son, sbc, soi, soo, snl, srd, sps⟩ zero a none c 0 HZ.out (HIa.out _ HB.out) (by simp only; omega) (fun _ => rfl) (InS.nil _ _) (by simp [zero]) zero 0 (by first | exact switch_off _ | (rw [switch_off _])))
          clear x0 x1 x2 x3 x4 x5 x6 y0 y1 y2 y3 y4 y5 y6
          have x0 := HDa.out.at 0 rfl
          have x1 := HDa.out.at 1 rfl
          have x2 := HDa.out.at 2 rfl
          have x3 := HDa.out.at 3 rfl
          have x4 := HDa.out.at 4 rfl
          have x5 := HDa.out.at 5 rfl
          have x6 := HDa.out.at 6 rfl
          go_wp2_with fail
          refine HSw.out.mono ?_
          rintro e w7 ⟨v, rfl, hR⟩
          obtain ⟨ra5, rc5, rfl, -, -, hz5, hI5⟩ := hR.slice
          have HZ5 := Lib.hid hz5
          have HI5 := Lib.hid hI5
          have hb := hR.bel
          have HB := Lib.hid (bstep HB.out hb)
          have HDa := Lib.hid (HDa.out.below hb)
          have HDb := Lib.hid (HDb.out.below hb)
          clear hR hz5 hI5 hb HSw
          simp only [mVv, zero]
          go_upto_region 6 with fail
          have hb := bbox (w := w7) (.cells #[.bool false, .bool false, .bool false, .bool false, .bool false, .int .i64 0, .slice ra5 0 rc5] 24)
          have HD5 := Lib.hid (CellL.new w7 [.bool false, .bool false, .bool false, .bool false, .bool false, .int .i64 0, .slice ra5 0 rc5] 24)
          have HB := Lib.hid (bstep HB.out hb)
          have HDa := Lib.hid (HDa.out.below hb)
          have HDb := Lib.hid (HDb.out.below hb)
          have HI5 := Lib.hid (HI5.out.bel hb)
          clear hb
          have HD5 : Hid (CellL (w7.alloc (.cells #[.bool false, .bool false, .bool false, .bool false, .bool false, .int .i64 0, .slice ra5 0 rc5] 24)) w7.heap.size [.bool false, .bool false, .bool false, .bool false, .bool false, .int .i64 0, .slice ra5 0 rc5]) := HD5
          generalize (w7.alloc (.cells #[.bool false, .bool false, .bool false, .bool false, .bool false, .int .i64 0, .slice ra5 0 rc5] 24)) = v5 at *
          generalize w7.heap.size = g5 at *
          clear x0 x1 x2 x3 x4 x5 x6
          have HSw : Hid (Calls Tryd.prog 19 #[.agg #[.bool false, .bool false, .bool false, .bool false, .bool false, .int .i64 0, .slice ra5 0 rc5], .agg #[.bool ton, .bool tbc, .bool toi, .bool too, .bool tnl, .int .i64 trd, .slice a' tps.length c']] v5 fun e w' => ∃ v, e = .returned (.tuple #[mVv ⟨ton, tbc, toi, too, tnl, trd, tps⟩ v, .int .i64 0]) ∧ RowS v5 w' v (⟨ton, tbc, toi, too, tnl, trd, tps⟩ : Md).ps) := Lib.hid (switch_calls v5 zero ⟨ton, tbc, toi, too, tnl, trd, tps⟩ ra5 a' rc5 c' HZ5.out HI5.out (by simp [zero]) HZ'.out (HIb.out _ HB.out) (by simp only; omega) ⟨ton, tbc, toi, too, tnl, trd, tps⟩ 0 (by first | exact switch_on _ | (rw [switch_on _])))
          have x0 := HD5.out.at 0 rfl
          have x1 := HD5.out.at 1 rfl
          have x2 := HD5.out.at 2 rfl
          have x3 := HD5.out.at 3 rfl
          have x4 := HD5.out.at 4 rfl
          have x5 := HD5.out.at 5 rfl
          have x6 := HD5.out.at 6 rfl
          have y0 := HDb.out.at 0 rfl
          have y1 := HDb.out.at 1 rfl
          have y2 := HDb.out.at 2 rfl
          have y3 := HDb.out.at 3 rfl
          have y4 := HDb.out.at 4 rfl
          have y5 := HDb.out.at 5 rfl
          have y6 := HDb.out.at 6 rfl
          go_wp2_with fail
          refine HSw.out.mono ?_
          rintro e w8 ⟨v, rfl, hR⟩
          obtain ⟨ra6, rc6, rfl, -, -, hz6, hI6⟩ := hR.slice
          have HZ6 := Lib.hid hz6
          have HI6 := Lib.hid hI6
          have hb := hR.bel
          have HB := Lib.hid (bstep HB.out hb)
          have HDa := Lib.hid (HDa.out.below hb)
          have HDb := Lib.hid (HDb.out.below hb)
          have HI5 := Lib.hid (HI5.out.bel hb)
          have HD5 := Lib.hid (HD5.out.below hb)
          clear hR hz6 hI6 hb HSw
          simp only [mVv, zero]
          go_upto_region 7 with fail
          have hb := bbox (w := w8) (.cells #[.bool ton, .bool tbc, .bool toi, .bool too, .bool tnl, .int .i64 trd, .slice ra6 tps.length rc6] 24)
          have HD6 := Lib.hid (CellL.new w8 [.bool ton, .bool tbc, .bool toi, .bool too, .bool tnl, .int .i64 trd, .slice ra6 tps.length rc6] 24)
          have HB := Lib.hid (bstep HB.out hb)
          have HDa := Lib.hid (HDa.out.below hb)
          have HDb := Lib.hid (HDb.out.below hb)
          have HI5 := Lib.hid (HI5.out.bel hb)
          have HD5 := Lib.hid (HD5.out.below hb)
          have HI6 := Lib.hid (HI6.out.bel hb)
          clear hb
          have HD6 : Hid (CellL (w8.alloc (.cells #[.bool ton, .bool tbc, .bool toi, .bool too, .bool tnl, .int .i64 trd, .slice ra6 tps.length rc6] 24)) w8.heap.size [.bool ton, .bool tbc, .bool toi, .bool too, .bool tnl, .int .i64 trd, .slice ra6 tps.length rc6]) := HD6
          generalize (w8.alloc (.cells #[.bool ton, .bool tbc, .bool toi, .bool too, .bool tnl, .int .i64 trd, .slice ra6 tps.length rc6] 24)) = v6 at *
          generalize w8.heap.size = g6 at *
          clear x0 x1 x2 x3 x4 x5 x6 y0 y1 y2 y3 y4 y5 y6
          have HSw : Hid (Calls Tryd.prog 19 #[.agg #[.bool son, .bool sbc, .bool soi, .bool soo, .bool snl, .int .i64 srd, .slice a sps.length c], .agg #[.bool son, .bool sbc, .bool soi, .bool soo, .bool snl, .int .i64 srd, .slice a sps.length c]] v6 fun e w' => ∃ v, e = .returned (.tuple #[mVv ⟨son, sbc, soi, soo, snl, srd, sps⟩ v, .int .i64 0]) ∧ RowS v6 w' v (⟨son, sbc, soi, soo, snl, srd, sps⟩ : Md).ps) := Lib.hid (switch_calls v6 ⟨son, sbc, soi, soo, snl, srd, sps⟩ ⟨son, sbc, soi, soo, snl, srd, sps⟩ a a c c HZ.out (HIa.out _ HB.out) (by simp only; omega) HZ.out (HIa.out _ HB.out) (by simp only; omega) ⟨son, sbc, soi, soo, snl, srd, sps⟩ 0 (by first | exact switch_self HRa.out | (rw [switch_self HRa.out])))
          have x0 := HDa.out.at 0 rfl
          have x1 := HDa.out.at 1 rfl
          have x2 := HDa.out.at 2 rfl
          have x3 := HDa.out.at 3 rfl
          have x4 := HDa.out.at 4 rfl
          have x5 := HDa.out.at 5 rfl
          have x6 := HDa.out.at 6 rfl
          go_wp2_with fail
          refine HSw.out.mono ?_
          rintro e w9 ⟨v, rfl, hR⟩
          obtain ⟨ra7, rc7, rfl, -, -, hz7, hI7⟩ := hR.slice
          have HZ7 := Lib.hid hz7
          have HI7 := Lib.hid hI7
          have hb := hR.bel
          have HB := Lib.hid (bstep HB.out hb)
          have HDa := Lib.hid (HDa.out.below hb)
          have HDb := Lib.hid (HDb.out.below hb)
          have HI5 := Lib.hid (HI5.out.bel hb)
          have HD5 := Lib.hid (HD5.out.below hb)
          have HI6 := Lib.hid (HI6.out.bel hb)
          have HD6 := Lib.hid (HD6.out.below hb)
          clear hR hz7 hI7 hb HSw
          simp only [mVv, zero]
          go_upto_region 8 with fail
          have hb := bbox (w := w9) (.cells #[.bool son, .bool sbc, .bool soi, .bool soo, .bool snl, .int .i64 srd, .slice ra7 sps.length rc7] 24)
          have HD7 := Lib.hid (CellL.new w9 [.bool son, .bool sbc, .bool soi, .bool soo, .bool snl, .int .i64 srd, .slice ra7 sps.length rc7] 24)
          have HB := Lib.hid (bstep HB.out hb)
          have HDa := Lib.hid (HDa.out.below hb)
          have HDb := Lib.hid (HDb.out.below hb)
          have HI5 := Lib.hid (HI5.out.bel hb)
          have HD5 := Lib.hid (HD5.out.below hb)
          have HI6 := Lib.hid (HI6.out.bel hb)
          have HD6 := Lib.hid (HD6.out.below hb)
          have HI7 := Lib.hid (HI7.out.bel hb)
          clear hb
          have HD7 : Hid (CellL (w9.alloc (.cells #[.bool son, .bool sbc, .bool soi, .bool soo, .bool snl, .int .i64 srd, .slice ra7 sps.length rc7] 24)) w9.heap.size [.bool son, .bool sbc, .bool soi, .bool soo, .bool snl, .int .i64 srd, .slice ra7 sps.length rc7]) := HD7
          generalize (w9.alloc (.cells #[.bool son, .bool sbc, .bool soi, .bool soo, .bool snl, .int .i64 srd, .slice ra7 sps.length rc7] 24)) = v7 at *
          generalize w9.heap.size = g7 at *
          clear x0 x1 x2 x3 x4 x5 x6
          obtain ⟨y, kk, hyk⟩ : ∃ y kk, switchM ⟨son, sbc, soi, soo, snl, srd, sps⟩ ⟨ton, tbc, toi, too, tnl, trd, tps⟩ = (y, kk) := ⟨_, _, rfl⟩
          have hyr := switch_right HRa.out HRb.out
          rw [hyk] at hyr
          have HYR := Lib.hid hyr.1
          have HYK := Lib.hid hyr.2
          clear hyr
          obtain ⟨qon, qbc, qoi, qoo, qnl, qrd, qps⟩ := y
          have HQP : Hid (qps.length ≤ 1000000) := Lib.hid (by
            have h := HYR.out
            by_cases ho : qon = true
            · unfold RightM at h
              simp only [ho, if_true] at h
              have := h.2.2.1
              omega
            · have e := off_zero h (by simpa using ho)
              unfold zero at e
              injection e with e0 e1 e2 e3 e4 e5 e6
              rw [e6]; simp)
          have HSw : Hid (Calls Tryd.prog 19 #[.agg #[.bool son, .bool sbc, .bool soi, .bool soo, .bool snl, .int .i64 srd, .slice a sps.length c], .agg #[.bool ton, .bool tbc, .bool toi, .bool too, .bool tnl, .int .i64 trd, .slice a' tps.length c']] v7 fun e w' => ∃ v, e = .returned (.tuple #[mVv ⟨qon, qbc, qoi, qoo, qnl, qrd, qps⟩ v, .int .i64 kk]) ∧ RowS v7 w' v (⟨qon, qbc, qoi, qoo, qnl, qrd, qps⟩ : Md).ps) := Lib.hid (switch_calls v7 ⟨son, sbc, soi, soo, snl, srd, sps⟩ ⟨ton, tbc, toi, too, tnl, trd, tps⟩ a a' c c' HZ.out (HIa.out _ HB.out) (by simp only; omega) HZ'.out (HIb.out _ HB.out) (by simp only; omega) ⟨qon, qbc, qoi, qoo, qnl, qrd, qps⟩ kk (by first | exact hyk | (rw [hyk])))
          have x0 := HDa.out.at 0 rfl
          have x1 := HDa.out.at 1 rfl
          have x2 := HDa.out.at 2 rfl
          have x3 := HDa.out.at 3 rfl
          have x4 := HDa.out.at 4 rfl
          have x5 := HDa.out.at 5 rfl
          have x6 := HDa.out.at 6 rfl
          have y0 := HDb.out.at 0 rfl
          have y1 := HDb.out.at 1 rfl
          have y2 := HDb.out.at 2 rfl
          have y3 := HDb.out.at 3 rfl
          have y4 := HDb.out.at 4 rfl
          have y5 := HDb.out.at 5 rfl
          have y6 := HDb.out.at 6 rfl
          go_wp2_with fail
          refine HSw.out.mono ?_
          rintro e w10 ⟨v, rfl, hR⟩
          obtain ⟨ra8, rc8, rfl, -, -, hz8, hI8⟩ := hR.slice
          have HZ8 := Lib.hid hz8
          have HI8 := Lib.hid hI8
          have hb := hR.bel
          have HB := Lib.hid (bstep HB.out hb)
          have HDa := Lib.hid (HDa.out.below hb)
          have HDb := Lib.hid (HDb.out.below hb)
          have HI5 := Lib.hid (HI5.out.bel hb)
          have HD5 := Lib.hid (HD5.out.below hb)
          have HI6 := Lib.hid (HI6.out.bel hb)
          have HD6 := Lib.hid (HD6.out.below hb)
          have HI7 := Lib.hid (HI7.out.bel hb)
          have HD7 := Lib.hid (HD7.out.below hb)
          clear hR hz8 hI8 hb HSw
          simp only [mVv, zero]
          go_upto_region 9 with fail
          have hb := bbox (w := w10) (.cells #[.bool qon, .bool qbc, .bool qoi, .bool qoo, .bool qnl, .int .i64 qrd, .slice ra8 qps.length rc8] 24)
          have HD8 := Lib.hid (CellL.new w10 [.bool qon, .bool qbc, .bool qoi, .bool qoo, .bool qnl, .int .i64 qrd, .slice ra8 qps.length rc8] 24)
          have HB := Lib.hid (bstep HB.out hb)
          have HDa := Lib.hid (HDa.out.below hb)
          have HDb := Lib.hid (HDb.out.below hb)
          have HI5 := Lib.hid (HI5.out.bel hb)
          have HD5 := Lib.hid (HD5.out.below hb)
          have HI6 := Lib.hid (HI6.out.bel hb)
          have HD6 := Lib.hid (HD6.out.below hb)
          have HI7 := Lib.hid (HI7.out.bel hb)
          have HD7 := Lib.hid (HD7.out.below hb)
          have HI8 := Lib.hid (HI8.out.bel hb)
          clear hb
          have HD8 : Hid (CellL (w10.alloc (.cells #[.bool qon, .bool qbc, .bool qoi, .bool qoo, .bool qnl, .int .i64 qrd, .slice ra8 qps.length rc8] 24)) w10.heap.size [.bool qon, .bool qbc, .bool qoi, .bool qoo, .bool qnl, .int .i64 qrd, .slice ra8 qps.length rc8]) := HD8
          generalize (w10.alloc (.cells #[.bool qon, .bool qbc, .bool qoi, .bool qoo, .bool qnl, .int .i64 qrd, .slice ra8 qps.length rc8] 24)) = v8 at *
          generalize w10.heap.size = g8 at *
          clear x0 x1 x2 x3 x4 x5 x6 y0 y1 y2 y3 y4 y5 y6
          have hkk : kk = 0 ∨ (kk = 132 ∧ (⟨qon, qbc, qoi, qoo, qnl, qrd, qps⟩ : Md) = ⟨son, sbc, soi, soo, snl, srd, sps⟩) := HYK.out
          have HKK := Lib.hid hkk
          clear hkk hyk
          have HSm : Hid (Calls Tryd.prog 18 #[.agg #[.bool false, .bool false, .bool false, .bool false, .bool false, .int .i64 0, .slice ra5 0 rc5], .agg #[.bool false, .bool false, .bool false, .bool false, .bool false, .int .i64 0, .slice none 0 0]] v8 fun e w' => e = .returned (.bool true) ∧ Below v8.heap.size v8 w') := Lib.hid (same_calls v8 zero zero ra5 none rc5 0 HI5.out (InS.nil _ _) (by simp [zero]) (by simp [zero]) true ⟨fun _ => rfl, fun _ => rfl⟩)
          have x0 := HD5.out.at 0 rfl
          have x1 := HD5.out.at 1 rfl
          have x2 := HD5.out.at 2 rfl
          have x3 := HD5.out.at 3 rfl
          have x4 := HD5.out.at 4 rfl
          have x5 := HD5.out.at 5 rfl
          have x6 := HD5.out.at 6 rfl
          go_wp2_with fail
          refine HSm.out.mono ?_
          rintro e u1 ⟨rfl, hb⟩
          have HB := Lib.hid (bstep HB.out hb)
          have HDa := Lib.hid (HDa.out.below hb)
          have HDb := Lib.hid (HDb.out.below hb)
          have HI5 := Lib.hid (HI5.out.bel hb)
          have HD5 := Lib.hid (HD5.out.below hb)
          have HI6 := Lib.hid (HI6.out.bel hb)
          have HD6 := Lib.hid (HD6.out.below hb)
          have HI7 := Lib.hid (HI7.out.bel hb)
          have HD7 := Lib.hid (HD7.out.below hb)
          have HI8 := Lib.hid (HI8.out.bel hb)
          have HD8 := Lib.hid (HD8.out.below hb)
          clear hb HSm x0 x1 x2 x3 x4 x5 x6
          have HSm : Hid (Calls Tryd.prog 18 #[.agg #[.bool ton, .bool tbc, .bool toi, .bool too, .bool tnl, .int .i64 trd, .slice ra6 tps.length rc6], .agg #[.bool ton, .bool tbc, .bool toi, .bool too, .bool tnl, .int .i64 trd, .slice a' tps.length c']] u1 fun e w' => e = .returned (.bool true) ∧ Below u1.heap.size u1 w') := Lib.hid (same_calls u1 ⟨ton, tbc, toi, too, tnl, trd, tps⟩ ⟨ton, tbc, toi, too, tnl, trd, tps⟩ ra6 a' rc6 c' HI6.out (HIb.out _ HB.out) (by simp only; omega) (by simp only; omega) true ⟨fun _ => rfl, fun _ => rfl⟩)
          have x0 := HD6.out.at 0 rfl
          have x1 := HD6.out.at 1 rfl
          have x2 := HD6.out.at 2 rfl
          have x3 := HD6.out.at 3 rfl
          have x4 := HD6.out.at 4 rfl
          have x5 := HD6.out.at 5 rfl
          have x6 := HD6.out.at 6 rfl
          have y0 := HDb.out.at 0 rfl
          have y1 := HDb.out.at 1 rfl
          have y2 := HDb.out.at 2 rfl
          have y3 := HDb.out.at 3 rfl
          have y4 := HDb.out.at 4 rfl
          have y5 := HDb.out.at 5 rfl
          have y6 := HDb.out.at 6 rfl
          go_wp2_with fail
          refine HSm.out.mono ?_
          rintro e u2 ⟨rfl, hb⟩
          have HB := Lib.hid (bstep HB.out hb)
          have HDa := Lib.hid (HDa.out.below hb)
          have HDb := Lib.hid (HDb.out.below hb)
          have HI5 := Lib.hid (HI5.out.bel hb)
          have HD5 := Lib.hid (HD5.out.below hb)
          have HI6 := Lib.hid (HI6.out.bel hb)
          have HD6 := Lib.hid (HD6.out.below hb)
          have HI7 := Lib.hid (HI7.out.bel hb)
          have HD7 := Lib.hid (HD7.out.below hb)
          have HI8 := Lib.hid (HI8.out.bel hb)
          have HD8 := Lib.hid (HD8.out.below hb)
          clear hb HSm
          clear x0 x1 x2 x3 x4 x5 x6 y0 y1 y2 y3 y4 y5 y6
          have HSm : Hid (Calls Tryd.prog 18 #[.agg #[.bool son, .bool sbc, .bool soi, .bool soo, .bool snl, .int .i64 srd, .slice ra7 sps.length rc7], .agg #[.bool son, .bool sbc, .bool soi, .bool soo, .bool snl, .int .i64 srd, .slice a sps.length c]] u2 fun e w' => e = .returned (.bool true) ∧ Below u2.heap.size u2 w') := Lib.hid (same_calls u2 ⟨son, sbc, soi, soo, snl, srd, sps⟩ ⟨son, sbc, soi, soo, snl, srd, sps⟩ ra7 a rc7 c HI7.out (HIa.out _ HB.out) (by simp only; omega) (by simp only; omega) true ⟨fun _ => rfl, fun _ => rfl⟩)
          have x0 := HD7.out.at 0 rfl
          have x1 := HD7.out.at 1 rfl
          have x2 := HD7.out.at 2 rfl
          have x3 := HD7.out.at 3 rfl
          have x4 := HD7.out.at 4 rfl
          have x5 := HD7.out.at 5 rfl
          have x6 := HD7.out.at 6 rfl
          have y0 := HDa.out.at 0 rfl
          have y1 := HDa.out.at 1 rfl
          have y2 := HDa.out.at 2 rfl
          have y3 := HDa.out.at 3 rfl
          have y4 := HDa.out.at 4 rfl
          have y5 := HDa.out.at 5 rfl
          have y6 := HDa.out.at 6 rfl
          go_wp2_with fail
          refine HSm.out.mono ?_
          rintro e u3 ⟨rfl, hb⟩
          have HB := Lib.hid (bstep HB.out hb)
          have HDa := Lib.hid (HDa.out.below hb)
          have HDb := Lib.hid (HDb.out.below hb)
          have HI5 := Lib.hid (HI5.out.bel hb)
          have HD5 := Lib.hid (HD5.out.below hb)
          have HI6 := Lib.hid (HI6.out.bel hb)
          have HD6 := Lib.hid (HD6.out.below hb)
          have HI7 := Lib.hid (HI7.out.bel hb)
          have HD7 := Lib.hid (HD7.out.below hb)
          have HI8 := Lib.hid (HI8.out.bel hb)
          have HD8 := Lib.hid (HD8.out.below hb)
          clear hb HSm
          clear x0 x1 x2 x3 x4 x5 x6 y0 y1 y2 y3 y4 y5 y6
          have HRy : Hid (Calls Tryd.prog 16 #[.agg #[.bool qon, .bool qbc, .bool qoi, .bool qoo, .bool qnl, .int .i64 qrd, .slice ra8 qps.length rc8]] u3 fun e w' => e = .returned (.bool true) ∧ Below u3.heap.size u3 w') := Lib.hid (right_calls u3 ⟨qon, qbc, qoi, qoo, qnl, qrd, qps⟩ ra8 rc8 HI8.out HQP.out true ⟨fun _ => HYR.out, fun _ => rfl⟩)
          have x0 := HD8.out.at 0 rfl
          have x1 := HD8.out.at 1 rfl
          have x2 := HD8.out.at 2 rfl
          have x3 := HD8.out.at 3 rfl
          have x4 := HD8.out.at 4 rfl
          have x5 := HD8.out.at 5 rfl
          have x6 := HD8.out.at 6 rfl
          go_wp2_with fail
          refine HRy.out.mono ?_
          rintro e u4 ⟨rfl, hb⟩
          have HB := Lib.hid (bstep HB.out hb)
          have HDa := Lib.hid (HDa.out.below hb)
          have HDb := Lib.hid (HDb.out.below hb)
          have HI5 := Lib.hid (HI5.out.bel hb)
          have HD5 := Lib.hid (HD5.out.below hb)
          have HI6 := Lib.hid (HI6.out.bel hb)
          have HD6 := Lib.hid (HD6.out.below hb)
          have HI7 := Lib.hid (HI7.out.bel hb)
          have HD7 := Lib.hid (HD7.out.below hb)
          have HI8 := Lib.hid (HI8.out.bel hb)
          have HD8 := Lib.hid (HD8.out.below hb)
          clear hb HRy x0 x1 x2 x3 x4 x5 x6
          rcases HKK.out with rfl | ⟨rfl, hya⟩
          · go_wp2_with fail
            go_ret
            exact ⟨by first | rfl | simp, HB.out⟩
          · have HSm : Hid (Calls Tryd.prog 18 #[.agg #[.bool qon, .bool qbc, .bool qoi, .bool qoo, .bool qnl, .int .i64 qrd, .slice ra8 qps.length rc8], .agg #[.bool son, .bool sbc, .bool soi, .bool soo, .bool snl, .int .i64 srd, .slice a sps.length c]] u4 fun e w' => e = .returned (.bool true) ∧ Below u4.heap.size u4 w') := Lib.hid (same_calls u4 ⟨qon, qbc, qoi, qoo, qnl, qrd, qps⟩ ⟨son, sbc, soi, soo, snl, srd, sps⟩ ra8 a rc8 c HI8.out (HIa.out _ HB.out) HQP.out (by simp only; omega) true ⟨fun _ => hya, fun _ => rfl⟩)
            clear hya
            have x0 := HD8.out.at 0 rfl
            have x1 := HD8.out.at 1 rfl
            have x2 := HD8.out.at 2 rfl
            have x3 := HD8.out.at 3 rfl
            have x4 := HD8.out.at 4 rfl
            have x5 := HD8.out.at 5 rfl
            have x6 := HD8.out.at 6 rfl
            have y0 := HDa.out.at 0 rfl
            have y1 := HDa.out.at 1 rfl
            have y2 := HDa.out.at 2 rfl
            have y3 := HDa.out.at 3 rfl
            have y4 := HDa.out.at 4 rfl
            have y5 := HDa.out.at 5 rfl
            have y6 := HDa.out.at 6 rfl
            go_wp2_with fail
            refine HSm.out.mono ?_
            rintro e u5 ⟨rfl, hb⟩
            have HB := Lib.hid (bstep HB.out hb)
            clear hb
            go_wp2_with fail
            go_ret
            exact ⟨by first | rfl | simp, HB.out⟩
end Go.Proofs.YtjpbpdjomfkkeaaDoor.Ma
