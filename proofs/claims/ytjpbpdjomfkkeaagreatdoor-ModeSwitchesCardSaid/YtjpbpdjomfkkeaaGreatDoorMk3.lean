/- ModeSwitches. No condition but those of its arguments' types. -/
import Derived.Test.YtjpbpdjomfkkeaaGreatDoorMk2
import Derived.Test.YtjpbpdjomfkkeaaGreatDoorMe2
import Derived.Test.YtjpbpdjomfkkeaaGreatDoorMd2
import Derived.Deep.RegionHeld3
namespace Go.Proofs.YtjpbpdjomfkkeaaGreatDoor.Ma
set_option linter.unusedVariables false
set_option linter.unusedSimpArgs false
open Go.ChangeShapes Go.WideShapes Go.ChangeAt Go.RowKit
open Go.Proofs.YtjpbpdjomfkkeaaGreatDoor.Sp (bstep bbox Hp Th cellsT rowT)
theorem some_b (P : Prop) : ∃ b : Bool, b = true ↔ P := by
  by_cases h : P
  · exact ⟨true, ⟨fun _ => h, fun _ => rfl⟩⟩
  · exact ⟨false, ⟨fun k => (by cases k), fun k => absurd k h⟩⟩
theorem right_zero : RightM zero := by unfold RightM zero; simp
theorem switch_off (a : Md) : switchM a zero = (zero, 0) := by unfold switchM zero; simp
theorem switch_on (b : Md) : switchM zero b = (b, 0) := by unfold switchM zero; simp
theorem off_zero {m : Md} (h : RightM m) (ho : m.on = false) : m = zero := by
  unfold RightM at h
  rwa [ho, if_neg (by simp)] at h
theorem right_strict {m : Md} (h : RightM m) : Strict m.ps := by
  by_cases ho : m.on = true
  · unfold RightM at h
    rw [if_pos ho] at h
    exact h.2.2.strict
  · have := off_zero h (by simpa using ho)
    rw [this]; exact List.Pairwise.nil
theorem switch_self {a : Md} (h : RightM a) : switchM a a = (a, 0) := by
  unfold switchM
  by_cases ho : a.on = true
  · rw [if_pos (by simp [ho]), if_pos (by simp)]
    have e : ({ a with ps := cmp (srt (a.ps ++ a.ps)) } : Md) = a := by rw [cmp_twice (right_strict h)]
    rw [e, if_pos ((rightB_iff _).2 h)]
  · rw [if_neg (by simp [ho])]
theorem switch_right {a b : Md} (ha : RightM a) (hb : RightM b) : RightM (switchM a b).1 ∧ ((switchM a b).2 = 0 ∨ ((switchM a b).2 = 132 ∧ (switchM a b).1 = a)) := by
  unfold switchM
  split
  · split
    · split
      case isTrue h => exact ⟨(rightB_iff _).1 h, .inl rfl⟩
      case isFalse => exact ⟨ha, .inr ⟨rfl, rfl⟩⟩
    · exact ⟨ha, .inr ⟨rfl, rfl⟩⟩
  · exact ⟨hb, .inl rfl⟩
set_option maxHeartbeats 64000000 in
set_option maxRecDepth 100000 in
theorem modeSwitches (w : World) (hX : MCtx w) (m n : Md) (a a' : Option Addr) (c c' : Nat) (hlc : m.ps.length ≤ c) (hcb : c ≤ 9223372036854775807) (hz : a = none → c = 0) (hI : InS w a m.ps)
    (hlc' : n.ps.length ≤ c') (hcb' : c' ≤ 9223372036854775807) (hz' : a' = none → c' = 0) (hI' : InS w a' n.ps) (kc : Int) (hk0 : -9223372036854775808 ≤ kc) (hk1 : kc ≤ 9223372036854775807) :
    Calls Tryz.prog 3 #[mV m a c, mV n a' c', .int .i64 kc] w fun e w' => e = .returned (.bool true) ∧ Below w.heap.size w w' := by
  have HX := Lib.hid hX
  have HZ := Lib.hid hz
  have HZ' := Lib.hid hz'
  clear hX hz hz'
  have HA := Lib.hid (fun W (hW : Below w.heap.size w W) => alive_calls W (HX.out.below hW))
  obtain ⟨bg, hbg⟩ := some_b (Great m)
  obtain ⟨bh, hbh⟩ := some_b (Great n)
  have HG := Lib.hid (fun W (hW : Below w.heap.size w W) => great_calls W m a c (hI.bel hW) (by omega) bg hbg)
  have HG' := Lib.hid (fun W (hW : Below w.heap.size w W) => great_calls W n a' c' (hI'.bel hW) (by omega) bh hbh)
  have HGi := Lib.hid hbg
  have HGi' := Lib.hid hbh
  have HIa := Lib.hid (fun W (hW : Below w.heap.size w W) => hI.bel hW)
  have HIb := Lib.hid (fun W (hW : Below w.heap.size w W) => hI'.bel hW)
  have HRf : Hid (m.ps.length ≤ 1000000 → ∀ b, (b = true ↔ RightM m) → ∀ W, Below w.heap.size w W → Calls Tryz.prog 6 #[mV m a c] W fun e w' => e = .returned (.bool b) ∧ Below W.heap.size W w') := Lib.hid (fun hl b hb W hW => refRight_calls W m a c (hI.bel hW) hlc hl b hb)
  have HRf' : Hid (n.ps.length ≤ 1000000 → ∀ b, (b = true ↔ RightM n) → ∀ W, Below w.heap.size w W → Calls Tryz.prog 6 #[mV n a' c'] W fun e w' => e = .returned (.bool b) ∧ Below W.heap.size W w') := Lib.hid (fun hl b hb W hW => refRight_calls W n a' c' (hI'.bel hW) hlc' hl b hb)
  have HCa := Lib.hid (fun W yes r hr => caching_calls W m a c yes r hr)
  have HCr := Lib.hid (fun W yes r hr => refCaching_calls W m a c yes r hr)
  have HTr := Lib.hid (fun W q r hr => tracks_calls W m a c q r hr)
  have HTq := Lib.hid (fun W q r hr => refTracks_calls W m a c q r hr)
  have HFl := Lib.hid (fun W => flags_calls W m a c)
  have HFq := Lib.hid (fun W => refFlags_calls W m a c)
  have HFn := Lib.hid (flags_len m)
  obtain ⟨ft, hft⟩ : ∃ ft, flagsM m = ft := ⟨_, rfl⟩
  rw [hft] at HFl HFq HFn
  clear hft
  obtain ⟨ct, hct⟩ : ∃ ct : Bool → Int, ∀ y, cachingM m y = ct y := ⟨cachingM m, fun _ => rfl⟩
  obtain ⟨tt, htt⟩ : ∃ tt : Int → Bool, ∀ y, tracksM m y = tt y := ⟨tracksM m, fun _ => rfl⟩
  have HCa := Lib.hid (fun W y => HCa.out W y (ct y) (hct y))
  have HCr := Lib.hid (fun W y => HCr.out W y (ct y) (hct y))
  have HTr := Lib.hid (fun W y => HTr.out W y (tt y) (htt y))
  have HTq := Lib.hid (fun W y => HTq.out W y (tt y) (htt y))
  clear hct htt
  obtain ⟨bS, hbS⟩ := some_b (m = n)
  have HSa : Hid (m.ps.length ≤ 1000000 → n.ps.length ≤ 1000000 → ∀ W, Below w.heap.size w W → Calls Tryz.prog 10 #[mV m a c, mV n a' c'] W fun e w' => e = .returned (.bool bS) ∧ Below W.heap.size W w') := Lib.hid (fun h1 h2 W hW => same_calls W m n a a' c c' (hI.bel hW) (hI'.bel hW) h1 h2 bS hbS)
  have HSb : Hid (m.ps.length ≤ 1000000 → n.ps.length ≤ 1000000 → ∀ W, Below w.heap.size w W → Calls Tryz.prog 9 #[mV m a c, mV n a' c'] W fun e w' => e = .returned (.bool bS) ∧ Below W.heap.size W w') := Lib.hid (fun h1 h2 W hW => refSame_calls W m n a a' c c' (hI.bel hW) (hI'.bel hW) h1 h2 bS hbS)
  clear hbS
  clear hbg hbh hI hI'
  obtain ⟨son, sbc, soi, soo, snl, srd, sps⟩ := m
  obtain ⟨ton, tbc, toi, too, tnl, trd, tps⟩ := n
  unfold mV at HG HG' HRf HRf' HCa HCr HTr HTq HFl HFq HSa HSb
  unfold mV
  simp only at HG HG' HRf HRf' HIa HIb HCa HCr HTr HTq HFl HFq HSa HSb ⊢
  have HDa := Lib.hid ((CellL.new w [.bool son, .bool sbc, .bool soi, .bool soo, .bool snl, .int .i64 srd, .slice a sps.length c] 24).alloc (.cells #[.bool ton, .bool tbc, .bool toi, .bool too, .bool tnl, .int .i64 trd, .slice a' tps.length c'] 24))
  have HDb := Lib.hid (CellL.new2 (w.alloc (.cells #[.bool son, .bool sbc, .bool soi, .bool soo, .bool snl, .int .i64 srd, .slice a sps.length c] 24)) (w.heap.size + 1) (by simp) [.bool ton, .bool tbc, .bool toi, .bool too, .bool tnl, .int .i64 trd, .slice a' tps.length c'] 24)
  have HB := Lib.hid (bstep (bbox (w := w) (.cells #[.bool son, .bool sbc, .bool soi, .bool soo, .bool snl, .int .i64 srd, .slice a sps.length c] 24)) (bbox (.cells #[.bool ton, .bool tbc, .bool toi, .bool too, .bool tnl, .int .i64 trd, .slice a' tps.length c'] 24)))
  go_enter Tryz.func3, Tryz.ntmps3
  go_upto_region 1 with fail
  have HDa : Hid (CellL ((w.alloc (.cells #[.bool son, .bool sbc, .bool soi, .bool soo, .bool snl, .int .i64 srd, .slice a sps.length c] 24)).alloc (.cells #[.bool ton, .bool tbc, .bool toi, .bool too, .bool tnl, .int .i64 trd, .slice a' tps.length c'] 24)) w.heap.size [.bool son, .bool sbc, .bool soi, .bool soo, .bool snl, .int .i64 srd, .slice a sps.length c]) := HDa
  have HDb : Hid (CellL ((w.alloc (.cells #[.bool son, .bool sbc, .bool soi, .bool soo, .bool snl, .int .i64 srd, .slice a sps.length c] 24)).alloc (.cells #[.bool ton, .bool tbc, .bool toi, .bool too, .bool tnl, .int .i64 trd, .slice a' tps.length c'] 24)) (w.heap.size + 1) [.bool ton, .bool tbc, .bool toi, .bool too, .bool tnl, .int .i64 trd, .slice a' tps.length c']) := HDb
  have HB : Hid (Below w.heap.size w ((w.alloc (.cells #[.bool son, .bool sbc, .bool soi, .bool soo, .bool snl, .int .i64 srd, .slice a sps.length c] 24)).alloc (.cells #[.bool ton, .bool tbc, .bool toi, .bool too, .bool tnl, .int .i64 trd, .slice a' tps.length c'] 24))) := HB
  generalize ((w.alloc (.cells #[.bool son, .bool sbc, .bool soi, .bool soo, .bool snl, .int .i64 srd, .slice a sps.length c] 24)).alloc (.cells #[.bool ton, .bool tbc, .bool toi, .bool too, .bool tnl, .int .i64 trd, .slice a' tps.length c'] 24)) = w1 at *
  obtain ⟨b2, hb2⟩ : ∃ b2, w.heap.size + 1 = b2 := ⟨_, rfl⟩
  obtain ⟨b1, hb1⟩ : ∃ b1, w.heap.size = b1 := ⟨_, rfl⟩
  rw [hb1] at HDa
  rw [hb2] at HDb
  simp only [hb2]
  simp only [hb1]
  clear hb1 hb2
  go_wp2_with fail
  refine (HA.out _ HB.out).mono ?_
  rintro e w2 ⟨rfl, hb⟩
  have HB := Lib.hid (bstep HB.out hb)
  have HDa := Lib.hid (HDa.out.below hb)
  have HDb := Lib.hid (HDb.out.below hb)
  clear hb HA
  have x0 := HDa.out.at 0 rfl
  have x1 := HDa.out.at 1 rfl
  have x2 := HDa.out.at 2 rfl
  have x3 := HDa.out.at 3 rfl
  have x4 := HDa.out.at 4 rfl
  have x5 := HDa.out.at 5 rfl
  have x6 := HDa.out.at 6 rfl
  have y0 := HDb.out.at 0 rfl
  have y1 := HDb.out.at 1 rfl
  have y2 := HDb.out.at 2 rfl
  have y3 := HDb.out.at 3 rfl
  have y4 := HDb.out.at 4 rfl
  have y5 := HDb.out.at 5 rfl
  have y6 := HDb.out.at 6 rfl
  go_wp2_with fail
  refine (HG.out _ HB.out).mono ?_
  rintro e w3 ⟨rfl, hb⟩
  have HB := Lib.hid (bstep HB.out hb)
  have HDa := Lib.hid (HDa.out.below hb)
  have HDb := Lib.hid (HDb.out.below hb)
  clear hb HG
  clear x0 x1 x2 x3 x4 x5 x6 y0 y1 y2 y3 y4 y5 y6
  have x0 := HDa.out.at 0 rfl
  have x1 := HDa.out.at 1 rfl
  have x2 := HDa.out.at 2 rfl
  have x3 := HDa.out.at 3 rfl
  have x4 := HDa.out.at 4 rfl
  have x5 := HDa.out.at 5 rfl
  have x6 := HDa.out.at 6 rfl
  have y0 := HDb.out.at 0 rfl
  have y1 := HDb.out.at 1 rfl
  have y2 := HDb.out.at 2 rfl
  have y3 := HDb.out.at 3 rfl
  have y4 := HDb.out.at 4 rfl
  have y5 := HDb.out.at 5 rfl
  have y6 := HDb.out.at 6 rfl
  cases bg with
  | true =>
    go_wp2_with fail
    go_ret
    exact ⟨by first | rfl | simp, HB.out⟩
  | false =>
    go_wp2_with fail
    refine (HG'.out _ HB.out).mono ?_
    rintro e w4 ⟨rfl, hb⟩
    have HB := Lib.hid (bstep HB.out hb)
    have HDa := Lib.hid (HDa.out.below hb)
    have HDb := Lib.hid (HDb.out.below hb)
    clear hb HG'
    clear x0 x1 x2 x3 x4 x5 x6 y0 y1 y2 y3 y4 y5 y6
    have x0 := HDa.out.at 0 rfl
    have x1 := HDa.out.at 1 rfl
    have x2 := HDa.out.at 2 rfl
    have x3 := HDa.out.at 3 rfl
    have x4 := HDa.out.at 4 rfl
    have x5 := HDa.out.at 5 rfl
    have x6 := HDa.out.at 6 rfl
    have y0 := HDb.out.at 0 rfl
    have y1 := HDb.out.at 1 rfl
    have y2 := HDb.out.at 2 rfl
    have y3 := HDb.out.at 3 rfl
    have y4 := HDb.out.at 4 rfl
    have y5 := HDb.out.at 5 rfl
    have y6 := HDb.out.at 6 rfl
    cases bh with
    | true =>
      go_wp2_with fail
      go_ret
      exact ⟨by first | rfl | simp, HB.out⟩
    | false =>
      have hsp : sps.length ≤ 50 := by
        have h : ¬ Great (⟨son, sbc, soi, soo, snl, srd, sps⟩ : Md) := fun h => by have := HGi.out.2 h; cases this
        exact Nat.le_of_not_lt fun k => h (.inl k)
      have htp : tps.length ≤ 50 := by
        have h : ¬ Great (⟨ton, tbc, toi, too, tnl, trd, tps⟩ : Md) := fun h => by have := HGi'.out.2 h; cases this
        exact Nat.le_of_not_lt fun k => h (.inl k)
      obtain ⟨br, hbr⟩ := some_b (RightM ⟨son, sbc, soi, soo, snl, srd, sps⟩)
      obtain ⟨bs, hbs⟩ := some_b (RightM ⟨ton, tbc, toi, too, tnl, trd, tps⟩)
      have HRt := Lib.hid (HRf.out (by omega) br hbr)
      have HRt' := Lib.hid (HRf'.out (by omega) bs hbs)
      have HBr := Lib.hid hbr
      have HBs := Lib.hid hbs
      clear hbr hbs HRf HRf'
      go_wp2_with fail
      refine (HRt.out _ HB.out).mono ?_
      rintro e w5 ⟨rfl, hb⟩
      have HB := Lib.hid (bstep HB.out hb)
      have HDa := Lib.hid (HDa.out.below hb)
      have HDb := Lib.hid (HDb.out.below hb)
      clear hb HRt
      clear x0 x1 x2 x3 x4 x5 x6 y0 y1 y2 y3 y4 y5 y6
      have x0 := HDa.out.at 0 rfl
      have x1 := HDa.out.at 1 rfl
      have x2 := HDa.out.at 2 rfl
      have x3 := HDa.out.at 3 rfl
      have x4 := HDa.out.at 4 rfl
      have x5 := HDa.out.at 5 rfl
      have x6 := HDa.out.at 6 rfl
      have y0 := HDb.out.at 0 rfl
      have y1 := HDb.out.at 1 rfl
      have y2 := HDb.out.at 2 rfl
      have y3 := HDb.out.at 3 rfl
      have y4 := HDb.out.at 4 rfl
      have y5 := HDb.out.at 5 rfl
      have y6 := HDb.out.at 6 rfl
      cases br with
      | false =>
        go_wp2_with fail
        go_ret
        exact ⟨by first | rfl | simp, HB.out⟩
      | true =>
        go_wp2_with fail
        refine (HRt'.out _ HB.out).mono ?_
        rintro e w6 ⟨rfl, hb⟩
        have HB := Lib.hid (bstep HB.out hb)
        have HDa := Lib.hid (HDa.out.below hb)
        have HDb := Lib.hid (HDb.out.below hb)
        clear hb HRt'
        clear x0 x1 x2 x3 x4 x5 x6 y0 y1 y2 y3 y4 y5 y6
        have x0 := HDa.out.at 0 rfl
        have x1 := HDa.out.at 1 rfl
        have x2 := HDa.out.at 2 rfl
        have x3 := HDa.out.at 3 rfl
        have x4 := HDa.out.at 4 rfl
        have x5 := HDa.out.at 5 rfl
        have x6 := HDa.out.at 6 rfl
        have y0 := HDb.out.at 0 rfl
        have y1 := HDb.out.at 1 rfl
        have y2 := HDb.out.at 2 rfl
        have y3 := HDb.out.at 3 rfl
        have y4 := HDb.out.at 4 rfl
        have y5 := HDb.out.at 5 rfl
        have y6 := HDb.out.at 6 rfl
        cases bs with
        | false =>
          go_wp2_with fail
          go_ret
          exact ⟨by first | rfl | simp, HB.out⟩
        | true =>
          have hRa : RightM ⟨son, sbc, soi, soo, snl, srd, sps⟩ := by have h := HBr.out; first | exact h.1 rfl | exact h.1 trivial | simpa using h
          have hRb : RightM ⟨ton, tbc, toi, too, tnl, trd, tps⟩ := by have h := HBs.out; first | exact h.1 rfl | exact h.1 trivial | simpa using h
          have HRa := Lib.hid hRa
          have HRb := Lib.hid hRb
          clear hRa hRb HBr HBs
          obtain ⟨y, kk, hyk⟩ : ∃ y kk, switchM ⟨son, sbc, soi, soo, snl, srd, sps⟩ ⟨ton, tbc, toi, too, tnl, trd, tps⟩ = (y, kk) := ⟨_, _, rfl⟩
          have hyr := switch_right HRa.out HRb.out
          rw [hyk] at hyr
          have HYR := Lib.hid hyr.1
          clear hyr
          obtain ⟨qon, qbc, qoi, qoo, qnl, qrd, qps⟩ := y
          have HYK := Lib.hid hyk
          clear hyk
          have HQP : Hid (qps.length ≤ 1000000) := Lib.hid (by
            have h := HYR.out
            by_cases ho : qon = true
            · unfold RightM at h
              simp only [ho, if_true] at h
              have := h.2.2.1
              omega
            · have e := off_zero h (by simpa using ho)
              unfold zero at e
              injection e with e0 e1 e2 e3 e4 e5 e6
              rw [e6]; simp)
          have HSa2 := Lib.hid (HSa.out (by omega) (by omega))
          have HSb2 := Lib.hid (HSb.out (by omega) (by omega))
          clear HSa HSb HYR HRa HRb
          go_upto_region 5 with fail
          have HSw : Hid (Calls Tryz.prog 7 #[.agg #[.bool son, .bool sbc, .bool soi, .bool soo, .bool snl, .int .i64 srd, .slice a sps.length c], .agg #[.bool ton, .bool tbc, .bool toi, .bool too, .bool tnl, .int .i64 trd, .slice a' tps.length c']] w6 fun e w' => ∃ v, e = .returned (.tuple #[mVv ⟨qon, qbc, qoi, qoo, qnl, qrd, qps⟩ v, .int .i64 kk]) ∧ RowS w6 w' v (⟨qon, qbc, qoi, qoo, qnl, qrd, qps⟩ : Md).ps) := Lib.hid (switch_calls w6 ⟨son, sbc, soi, soo, snl, srd, sps⟩ ⟨ton, tbc, toi, too, tnl, trd, tps⟩ a a' c c' HZ.out (HIa.out _ HB.out) (by simp only; omega) HZ'.out (HIb.out _ HB.out) (by simp only; omega) ⟨qon, qbc, qoi, qoo, qnl, qrd, qps⟩ kk HYK.out)
          clear x0 x1 x2 x3 x4 x5 x6 y0 y1 y2 y3 y4 y5 y6
          have x0 := HDa.out.at 0 rfl
          have x1 := HDa.out.at 1 rfl
          have x2 := HDa.out.at 2 rfl
          have x3 := HDa.out.at 3 rfl
          have x4 := HDa.out.at 4 rfl
          have x5 := HDa.out.at 5 rfl
          have x6 := HDa.out.at 6 rfl
          have y0 := HDb.out.at 0 rfl
          have y1 := HDb.out.at 1 rfl
          have y2 := HDb.out.at 2 rfl
          have y3 := HDb.out.at 3 rfl
          have y4 := HDb.out.at 4 rfl
          have y5 := HDb.out.at 5 rfl
          have y6 := HDb.out.at 6 rfl
          go_wp2_with fail
          refine HSw.out.mono ?_
          rintro e w7 ⟨v, rfl, hR⟩
          obtain ⟨ra5, rc5, rfl, -, -, -, hI5⟩ := hR.slice
          have HI5 := Lib.hid hI5
          have hb := hR.bel
          have HB := Lib.hid (bstep HB.out hb)
          have HDa := Lib.hid (HDa.out.below hb)
          have HDb := Lib.hid (HDb.out.below hb)
          clear hR hI5 hb HSw
          simp only [mVv]
          go_upto_region 6 with fail
          have hb := bbox (w := w7) (.cells #[.bool qon, .bool qbc, .bool qoi, .bool qoo, .bool qnl, .int .i64 qrd, .slice ra5 qps.length rc5] 24)
          have HD5 := Lib.hid (CellL.new w7 [.bool qon, .bool qbc, .bool qoi, .bool qoo, .bool qnl, .int .i64 qrd, .slice ra5 qps.length rc5] 24)
          have HB := Lib.hid (bstep HB.out hb)
          have HDa := Lib.hid (HDa.out.below hb)
          have HDb := Lib.hid (HDb.out.below hb)
          have HI5 := Lib.hid (HI5.out.bel hb)
          clear hb
          have HD5 : Hid (CellL (w7.alloc (.cells #[.bool qon, .bool qbc, .bool qoi, .bool qoo, .bool qnl, .int .i64 qrd, .slice ra5 qps.length rc5] 24)) w7.heap.size [.bool qon, .bool qbc, .bool qoi, .bool qoo, .bool qnl, .int .i64 qrd, .slice ra5 qps.length rc5]) := HD5
          generalize (w7.alloc (.cells #[.bool qon, .bool qbc, .bool qoi, .bool qoo, .bool qnl, .int .i64 qrd, .slice ra5 qps.length rc5] 24)) = v5 at *
          generalize w7.heap.size = g5 at *
          clear x0 x1 x2 x3 x4 x5 x6 y0 y1 y2 y3 y4 y5 y6
          have HSr : Hid (Calls Tryz.prog 8 #[.agg #[.bool son, .bool sbc, .bool soi, .bool soo, .bool snl, .int .i64 srd, .slice a sps.length c], .agg #[.bool ton, .bool tbc, .bool toi, .bool too, .bool tnl, .int .i64 trd, .slice a' tps.length c']] v5 fun e w' => ∃ x cx, e = .returned (.tuple #[mV ⟨qon, qbc, qoi, qoo, qnl, qrd, qps⟩ x cx, .int .i64 kk]) ∧ InS w' x (⟨qon, qbc, qoi, qoo, qnl, qrd, qps⟩ : Md).ps ∧ Below v5.heap.size v5 w') := Lib.hid (refSwitch_calls v5 ⟨son, sbc, soi, soo, snl, srd, sps⟩ ⟨ton, tbc, toi, too, tnl, trd, tps⟩ a a' c c' hlc HZ.out (HIa.out _ HB.out) (by simp only; omega) hlc' HZ'.out (HIb.out _ HB.out) (by simp only; omega) ⟨qon, qbc, qoi, qoo, qnl, qrd, qps⟩ kk HYK.out)
          have x0 := HDa.out.at 0 rfl
          have x1 := HDa.out.at 1 rfl
          have x2 := HDa.out.at 2 rfl
          have x3 := HDa.out.at 3 rfl
          have x4 := HDa.out.at 4 rfl
          have x5 := HDa.out.at 5 rfl
          have x6 := HDa.out.at 6 rfl
          have y0 := HDb.out.at 0 rfl
          have y1 := HDb.out.at 1 rfl
          have y2 := HDb.out.at 2 rfl
          have y3 := HDb.out.at 3 rfl
          have y4 := HDb.out.at 4 rfl
          have y5 := HDb.out.at 5 rfl
          have y6 := HDb.out.at 6 rfl
          go_wp2_with fail
          refine HSr.out.mono ?_
          rintro e w8 ⟨ra6, rc6, rfl, hI6, hb⟩
          have HB := Lib.hid (bstep HB.out hb)
          have HDa := Lib.hid (HDa.out.below hb)
          have HDb := Lib.hid (HDb.out.below hb)
          have HI5 := Lib.hid (HI5.out.bel hb)
          have HD5 := Lib.hid (HD5.out.below hb)
          have HI6 := Lib.hid hI6
          clear hI6 hb HSr
          simp only [mV]
          go_upto_region 7 with fail
          have hb := bbox (w := w8) (.cells #[.bool qon, .bool qbc, .bool qoi, .bool qoo, .bool qnl, .int .i64 qrd, .slice ra6 qps.length rc6] 24)
          have HD6 := Lib.hid (CellL.new w8 [.bool qon, .bool qbc, .bool qoi, .bool qoo, .bool qnl, .int .i64 qrd, .slice ra6 qps.length rc6] 24)
          have HB := Lib.hid (bstep HB.out hb)
          have HDa := Lib.hid (HDa.out.below hb)
          have HDb := Lib.hid (HDb.out.below hb)
          have HI5 := Lib.hid (HI5.out.bel hb)
          have HD5 := Lib.hid (HD5.out.below hb)
          have HI6 := Lib.hid (HI6.out.bel hb)
          clear hb
          have HD6 : Hid (CellL (w8.alloc (.cells #[.bool qon, .bool qbc, .bool qoi, .bool qoo, .bool qnl, .int .i64 qrd, .slice ra6 qps.length rc6] 24)) w8.heap.size [.bool qon, .bool qbc, .bool qoi, .bool qoo, .bool qnl, .int .i64 qrd, .slice ra6 qps.length rc6]) := HD6
          generalize (w8.alloc (.cells #[.bool qon, .bool qbc, .bool qoi, .bool qoo, .bool qnl, .int .i64 qrd, .slice ra6 qps.length rc6] 24)) = v6 at *
          generalize w8.heap.size = g6 at *
          clear x0 x1 x2 x3 x4 x5 x6 y0 y1 y2 y3 y4 y5 y6
          obtain ⟨F, F1, F2, F3⟩ := Sp.ovr v6
          have HF3 := Lib.hid F3
          have HF1 := Lib.hid F1
          have HK1 : Hid (∀ x, Calls Tryz.prog 9 #[.agg #[.bool qon, .bool qbc, .bool qoi, .bool qoo, .bool qnl, .int .i64 qrd, .slice ra5 qps.length rc5], .agg #[.bool qon, .bool qbc, .bool qoi, .bool qoo, .bool qnl, .int .i64 qrd, .slice ra6 qps.length rc6]] (F x) fun e w' => e = .returned (.bool true) ∧ Below (F x).heap.size (F x) w') := Lib.hid (fun x => refSame_calls (F x) ⟨qon, qbc, qoi, qoo, qnl, qrd, qps⟩ ⟨qon, qbc, qoi, qoo, qnl, qrd, qps⟩ ra5 ra6 rc5 rc6 (HI5.out.bel (HF1.out x)) (HI6.out.bel (HF1.out x)) HQP.out HQP.out true ⟨fun _ => rfl, fun _ => rfl⟩)
          have HK2 := Lib.hid (fun x => HSa2.out (F x) (bstep HB.out (HF1.out x)))
          have HK3 := Lib.hid (fun x => HSb2.out (F x) (bstep HB.out (HF1.out x)))
          have x0 := fun x => (HDa.out.below (HF1.out x)).at 0 rfl
          have x1 := fun x => (HDa.out.below (HF1.out x)).at 1 rfl
          have x2 := fun x => (HDa.out.below (HF1.out x)).at 2 rfl
          have x3 := fun x => (HDa.out.below (HF1.out x)).at 3 rfl
          have x4 := fun x => (HDa.out.below (HF1.out x)).at 4 rfl
          have x5 := fun x => (HDa.out.below (HF1.out x)).at 5 rfl
          have x6 := fun x => (HDa.out.below (HF1.out x)).at 6 rfl
          have y0 := fun x => (HDb.out.below (HF1.out x)).at 0 rfl
          have y1 := fun x => (HDb.out.below (HF1.out x)).at 1 rfl
          have y2 := fun x => (HDb.out.below (HF1.out x)).at 2 rfl
          have y3 := fun x => (HDb.out.below (HF1.out x)).at 3 rfl
          have y4 := fun x => (HDb.out.below (HF1.out x)).at 4 rfl
          have y5 := fun x => (HDb.out.below (HF1.out x)).at 5 rfl
          have y6 := fun x => (HDb.out.below (HF1.out x)).at 6 rfl
          have p0 := fun x => (HD5.out.below (HF1.out x)).at 0 rfl
          have p1 := fun x => (HD5.out.below (HF1.out x)).at 1 rfl
          have p2 := fun x => (HD5.out.below (HF1.out x)).at 2 rfl
          have p3 := fun x => (HD5.out.below (HF1.out x)).at 3 rfl
          have p4 := fun x => (HD5.out.below (HF1.out x)).at 4 rfl
          have p5 := fun x => (HD5.out.below (HF1.out x)).at 5 rfl
          have p6 := fun x => (HD5.out.below (HF1.out x)).at 6 rfl
          have q0 := fun x => (HD6.out.below (HF1.out x)).at 0 rfl
          have q1 := fun x => (HD6.out.below (HF1.out x)).at 1 rfl
          have q2 := fun x => (HD6.out.below (HF1.out x)).at 2 rfl
          have q3 := fun x => (HD6.out.below (HF1.out x)).at 3 rfl
          have q4 := fun x => (HD6.out.below (HF1.out x)).at 4 rfl
          have q5 := fun x => (HD6.out.below (HF1.out x)).at 5 rfl
          have q6 := fun x => (HD6.out.below (HF1.out x)).at 6 rfl
          clear F1 F3
          refine Sp.wp_region_cls F (by kernel_rfl) (by kernel_rfl) F2 ?_
          repeat (go_big_quiet_step (first
            | (go_at_call 9; first | with_reducible exact Sp.q_ovr HF3.out (HK1.out _) | with_reducible exact Sp.q_ovr HF3.out (HK3.out _))
            | (go_at_call 10; with_reducible exact Sp.q_ovr HF3.out (HK2.out _))))
          refine wpQuiet_nil ?_
          intro _ hw'
          obtain ⟨y, hy⟩ := hw'
          subst hy
          have HDa := Lib.hid (HDa.out.below (HF1.out y))
          have HB := Lib.hid (bstep HB.out (HF1.out y))
          clear HK1 HK2 HK3 HSa2 HSb2 HF3 HF1 HDb HD5 HD6 HI5 HI6 F2 p0 p1 p2 p3 p4 p5 p6 q0 q1 q2 q3 q4 q5 q6
          clear x0 x1 x2 x3 x4 x5 x6 y0 y1 y2 y3 y4 y5 y6
          generalize F y = w9 at *
          clear F
          have HS : Hid (∀ W, Below w9.heap.size w9 W → W.cell? ⟨b1, 0, none⟩ = some (.bool son) ∧ W.cell? ⟨b1, 1, none⟩ = some (.bool sbc) ∧ W.cell? ⟨b1, 2, none⟩ = some (.bool soi) ∧ W.cell? ⟨b1, 3, none⟩ = some (.bool soo) ∧ W.cell? ⟨b1, 4, none⟩ = some (.bool snl) ∧ W.cell? ⟨b1, 5, none⟩ = some (.int .i64 srd) ∧ W.cell? ⟨b1, 6, none⟩ = some (.slice a sps.length c)) := Lib.hid (fun W hW => ⟨(HDa.out.below hW).at 0 rfl, (HDa.out.below hW).at 1 rfl, (HDa.out.below hW).at 2 rfl, (HDa.out.below hW).at 3 rfl, (HDa.out.below hW).at 4 rfl, (HDa.out.below hW).at 5 rfl, (HDa.out.below hW).at 6 rfl⟩)
          have HST : Hid (∀ W fa fb fc fd, InS W fa ft → InS W fb ft → Calls Tryz.prog 15 #[.slice fa ft.length fc, .slice fb ft.length fd] W fun e w' => e = .returned (.bool true) ∧ Below W.heap.size W w') := Lib.hid (fun W fa fb fc fd h1 h2 => sameT_calls W fa fb fc fd ft (by have := HFn.out; omega) h1 h2)
          have HFa : Hid (∀ W, Calls Tryz.prog 16 #[.agg #[.bool son, .bool sbc, .bool soi, .bool soo, .bool snl, .int .i64 srd, .slice a sps.length c]] W fun e w' => ∃ fa fc, e = .returned (.slice fa ft.length fc) ∧ InS w' fa ft ∧ Below W.heap.size W w') := Lib.hid (fun W => (HFl.out W).mono fun e w' ⟨v, h1, h2⟩ => by
            obtain ⟨fa, fc, rfl, -, -, -, h3⟩ := h2.slice
            exact ⟨fa, fc, h1, h3, h2.bel⟩)
          have HFb : Hid (∀ W, Calls Tryz.prog 17 #[.agg #[.bool son, .bool sbc, .bool soi, .bool soo, .bool snl, .int .i64 srd, .slice a sps.length c]] W fun e w' => ∃ fa fc, e = .returned (.slice fa ft.length fc) ∧ InS w' fa ft ∧ Below W.heap.size W w') := Lib.hid (fun W => (HFq.out W).mono fun e w' ⟨v, h1, h2⟩ => by
            obtain ⟨fa, fc, rfl, -, -, -, h3⟩ := h2.slice
            exact ⟨fa, fc, h1, h3, h2.bel⟩)
          have HB0 := Lib.hid (Below.refl w9.heap.size w9)
          clear HFl HFq HFn
          go_upto_region 9 with fail
          go_region_held3 (fun W : World => W.cell? ⟨b1, 0, none⟩ = some (.bool son) ∧ W.cell? ⟨b1, 1, none⟩ = some (.bool sbc) ∧ W.cell? ⟨b1, 2, none⟩ = some (.bool soi) ∧ W.cell? ⟨b1, 3, none⟩ = some (.bool soo) ∧ W.cell? ⟨b1, 4, none⟩ = some (.bool snl) ∧ W.cell? ⟨b1, 5, none⟩ = some (.int .i64 srd) ∧ W.cell? ⟨b1, 6, none⟩ = some (.slice a sps.length c))
            (first | exact HS.out _ HB0.out | exact HS.out _ HB0.out.drew | exact HS.out _ k1 | exact HS.out _ k2 | exact HS.out _ k3 | exact HS.out _ k4 | exact HS.out _ k5 | exact HS.out _ k6 | exact HS.out _ k7 | exact HS.out _ k1.drew | exact HS.out _ k2.drew | exact HS.out _ k3.drew | exact HS.out _ k4.drew | exact HS.out _ k5.drew | exact HS.out _ k6.drew | exact HS.out _ k7.drew)
            (first
              | (go_at_call 11; with_reducible refine (HCa.out _ _).mono ?_; rintro e1 u1 ⟨rfl, hc1⟩; have k1 : Below w9.heap.size w9 u1 := (by first | exact bstep HB0.out hc1 | exact bstep HB0.out.drew hc1))
              | (go_at_call 12; with_reducible refine (HCr.out _ _).mono ?_; rintro e2 u2 ⟨rfl, hc2⟩; have k2 : Below w9.heap.size w9 u2 := (by first | exact bstep k1 hc2 | exact bstep k1.drew hc2))
              | (go_at_call 13; with_reducible refine (HTr.out _ _).mono ?_; rintro e3 u3 ⟨rfl, hc3⟩; have k3 : Below w9.heap.size w9 u3 := (by first | exact bstep k2 hc3 | exact bstep k2.drew hc3))
              | (go_at_call 14; with_reducible refine (HTq.out _ _).mono ?_; rintro e4 u4 ⟨rfl, hc4⟩; have k4 : Below w9.heap.size w9 u4 := (by first | exact bstep k3 hc4 | exact bstep k3.drew hc4))
              | (go_at_call 16; with_reducible refine (HFa.out _).mono ?_; rintro e5 u5 ⟨fa, fc, rfl, hf5, hc5⟩; have k5 : Below w9.heap.size w9 u5 := (by first | exact bstep k4 hc5 | exact bstep k4.drew hc5))
              | (go_at_call 17; with_reducible refine (HFb.out _).mono ?_; rintro e6 u6 ⟨fb, fd, rfl, hf6, hc6⟩; have k6 : Below w9.heap.size w9 u6 := (by first | exact bstep k5 hc6 | exact bstep k5.drew hc6); have hf7 : InS u6 fa ft := (by first | exact hf5.bel hc6 | exact (hf5.bel ((Below.refl _ _).drew)).bel hc6))
              | (go_at_call 15; with_reducible refine (HST.out _ fa fb fc fd hf7 hf6).mono ?_; rintro e7 u7 ⟨rfl, hc7⟩; have k7 : Below w9.heap.size w9 u7 := (by first | exact bstep k6 hc7 | exact bstep k6.drew hc7)))
          go_wp2_with fail
          go_ret
          exact ⟨by first | rfl | simp, bstep HB.out k7⟩
end Go.Proofs.YtjpbpdjomfkkeaaGreatDoor.Ma
