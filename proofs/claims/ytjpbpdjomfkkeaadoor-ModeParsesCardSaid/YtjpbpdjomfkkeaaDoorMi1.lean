/- ModeParses. No condition but those of its arguments' types. -/
import Derived.Test.YtjpbpdjomfkkeaaDoorMg1
import Derived.Test.YtjpbpdjomfkkeaaDoorMd5
namespace Go.Proofs.YtjpbpdjomfkkeaaDoor.Ma
set_option linter.unusedVariables false
set_option linter.unusedSimpArgs false
open Go.ChangeShapes Go.WideShapes Go.ChangeAt Go.RowKit
open Go.Proofs.YtjpbpdjomfkkeaaDoor.Sp (bstep bbox Hp Th cellsT rowT)
theorem right_len {m : Md} (h : RightM m) : m.ps.length ≤ 32 := by
  by_cases ho : m.on = true
  · unfold RightM at h
    rw [if_pos ho] at h
    exact h.2.2.1
  · have := off_zero h (by simpa using ho)
    rw [this]; simp [zero]
theorem endM_len (m : Md) : (endM m).1.ps.length ≤ 32 := by
  unfold endM
  split
  case isTrue h => exact right_len ((rightB_iff _).1 h)
  case isFalse => simp [zero]
theorem parse_len (ws : List BA) : (parseM ws).1.ps.length ≤ 32 := by
  rw [parse_read]
  split
  · simp [zero]
  · split
    · exact endM_len _
    · simp [zero]
theorem rowS_set {o w : World} {g n c : Nat} {l : List BA} (h : RowS o w (.slice (some ⟨g, 0, none⟩) n c) l) (y : BA) : RowS o (w.setCell ⟨g, 0, none⟩ (.string y)) (.slice (some ⟨g, 0, none⟩) n c) (l.set 0 y) := by
  have hn := h.form.1
  subst hn
  have h1 : Hp o w [rowT 9 1 (.slice (some ⟨g, 0, none⟩) l.length c) l.length (cellsS l)] := rowS_H h
  have h2 := h1.rowSet 0 (.string y)
  have e : cellsS (l.set 0 y) = (cellsS l).set 0 (.string y) := by unfold cellsS; rw [List.map_set]
  have h3 : Hp o (w.setCell ⟨g, 0, none⟩ (.string y)) [rowST (.slice (some ⟨g, 0, none⟩) l.length c) (l.set 0 y)] := by
    unfold rowST
    rw [e, List.length_set]
    exact h2
  exact rowS_of' h3
theorem rowS_free {o w : World} {g n c : Nat} {l : List BA} (h : RowS o w (.slice (some ⟨g, 0, none⟩) n c) l) : w.frozen? ⟨g, 0, none⟩ = false := by
  have hn := h.form.1
  subst hn
  exact h.row.frozenAt 0
theorem rowS_lt {o w : World} {g n c : Nat} {l : List BA} (h : RowS o w (.slice (some ⟨g, 0, none⟩) n c) l) : o.heap.size ≤ g ∧ g < w.heap.size := by
  have hn := h.form.1
  subst hn
  exact h.row.lt g rfl
set_option maxHeartbeats 64000000 in
set_option maxRecDepth 100000 in
theorem modeParses (w : World) (hX : MCtx w) (a : Option Addr) (c n : Nat) (ws : List BA) (hn : n = ws.length) (hwc : n ≤ c) (hwb : c ≤ 9223372036854775807) (hwI : InS w a ws) (m : Md) (a' : Option Addr) (c' : Nat) (hlc : m.ps.length ≤ c') (hcb : c' ≤ 9223372036854775807) (hz : a' = none → c' = 0) (hI : InS w a' m.ps) :
    Calls Tryd.prog 4 #[.slice a n c, mV m a' c'] w fun e w' => e = .returned (.bool true) ∧ Below w.heap.size w w' := by
  have HX := Lib.hid hX
  have HZ := Lib.hid hz
  have HN := Lib.hid hn
  have HWI := Lib.hid (fun W (hW : Below w.heap.size w W) => hwI.bel hW)
  clear hX hz hn hwI
  have HA := Lib.hid (fun W (hW : Below w.heap.size w W) => alive_calls W (HX.out.below hW))
  obtain ⟨bg, hbg⟩ := some_b (Great m)
  have HG := Lib.hid (fun W (hW : Below w.heap.size w W) => great_calls W m a' c' (hI.bel hW) (by omega) bg hbg)
  have HGi := Lib.hid hbg
  have HIa := Lib.hid (fun W (hW : Below w.heap.size w W) => hI.bel hW)
  obtain ⟨br, hbr⟩ := some_b (RightM m)
  have HBr := Lib.hid hbr
  clear hbg hbr hI
  obtain ⟨on, bc, oi, oo, nl, rd, ps⟩ := m
  unfold mV at HG
  unfold mV
  simp only at HG HIa hlc ⊢
  have HD := Lib.hid (CellL.new w [.bool on, .bool bc, .bool oi, .bool oo, .bool nl, .int .i64 rd, .slice a' ps.length c'] 24)
  have HB := Lib.hid (bbox (w := w) (.cells #[.bool on, .bool bc, .bool oi, .bool oo, .bool nl, .int .i64 rd, .slice a' ps.length c'] 24))
  go_enter Tryd.func4, Tryd.ntmps4
  go_upto_region 1 with fail
  have HD : Hid (CellL (w.alloc (.cells #[.bool on, .bool bc, .bool oi, .bool oo, .bool nl, .int .i64 rd, .slice a' ps.length c'] 24)) w.heap.size [.bool on, .bool bc, .bool oi, .bool oo, .bool nl, .int .i64 rd, .slice a' ps.length c']) := HD
  generalize (w.alloc (.cells #[.bool on, .bool bc, .bool oi, .bool oo, .bool nl, .int .i64 rd, .slice a' ps.length c'] 24)) = w1 at *
  obtain ⟨b1, hb1⟩ : ∃ b1, w.heap.size = b1 := ⟨_, rfl⟩
  have HBB : Hid (Below w.heap.size w w1) := HB
  simp only [hb1] at HD ⊢
  have HB1 := Lib.hid hb1
  clear HB hb1
  go_wp2_with fail
  refine (HA.out _ HBB.out).mono ?_
  rintro e w2 ⟨rfl, hb2⟩
  have HDm := Lib.hid (HD.out.below hb2)
  have HB := Lib.hid (bstep HBB.out hb2)
  clear hb2 HA HD HBB
  by_cases h80 : 80 < n
  case pos =>
    have h80c : (80 : Int) < (n : Int) := by omega
    go_wp2_with fail
    go_ret
    exact ⟨by first | rfl | simp, HB.out⟩
  have h80c : ¬ (80 : Int) < (n : Int) := by omega
  have x0 := HDm.out.at 0 rfl
  have x1 := HDm.out.at 1 rfl
  have x2 := HDm.out.at 2 rfl
  have x3 := HDm.out.at 3 rfl
  have x4 := HDm.out.at 4 rfl
  have x5 := HDm.out.at 5 rfl
  have x6 := HDm.out.at 6 rfl
  go_wp2_with fail
  refine (HG.out _ HB.out).mono ?_
  rintro e w3 ⟨rfl, hb⟩
  have HDm := Lib.hid (HDm.out.below hb)
  have HB := Lib.hid (bstep HB.out hb)
  clear hb HG x0 x1 x2 x3 x4 x5 x6
  cases bg with
  | true =>
    go_wp2_with fail
    go_ret
    exact ⟨by first | rfl | simp, HB.out⟩
  | false =>
    have hng : ¬ Great (⟨on, bc, oi, oo, nl, rd, ps⟩ : Md) := fun h => by have := HGi.out.2 h; cases this
    have hps : ps.length ≤ 50 := Nat.le_of_not_lt fun k => hng (.inl k)
    have HSz : Hid (∀ i (hi : i < ps.length), ps[i].size ≤ 600) := Lib.hid (fun i hi => Nat.le_of_not_lt fun k => hng (.inr ⟨i, hi, k⟩))
    clear hng
    go_wp2_with fail
    go_loopg [6, 23] (n + 1) (fun g _ s23 wr => ∃ j : Nat, s23 = .int .i64 j ∧ j ≤ n ∧ n - j ≤ g ∧ wr = w3 ∧ Hid (∀ i (hi : i < ws.length), i < j → ws[i].size ≤ 600))
    case atStart => exact ⟨0, rfl, by omega, by omega, rfl, Lib.hid (fun _ _ h => absurd h (Nat.not_lt_zero _))⟩
    case round =>
      obtain ⟨j, rfl, hj, hg, rfl, HK⟩ := hrel
      by_cases hjl : j < n
      case pos =>
        have hjc : (j : Int) < (n : Int) := by omega
        have hjw : j < ws.length := by have := HN.out; omega
        obtain ⟨B, o, rfl, -, hc⟩ := HWI.out _ HB.out (by omega)
        have c0 := hc j hjw
        clear hc
        by_cases hs : 600 < ws[j].size
        · generalize ws[j] = q at *
          have hsc : (600 : Int) < (q.size : Int) := by omega
          go_wp2_with fail
          go_ret
          exact ⟨by first | rfl | simp, HB.out⟩
        · have HKn : Hid (∀ i (hi : i < ws.length), i < j + 1 → ws[i].size ≤ 600) := Lib.hid (fun i hi hij => by
            by_cases e : i = j
            · subst e; omega
            · exact HK.out i hi (by omega))
          generalize ws[j] = q at *
          have hsc : ¬ (600 : Int) < (q.size : Int) := by omega
          go_wp2_with fail
          go_roundg (gk - 1)
          case measure => omega
          case rel => exact ⟨j + 1, by go_num, by omega, by omega, rfl, HKn⟩
      case neg =>
        have hjc : ¬ (j : Int) < (n : Int) := by omega
        have HSw : Hid (∀ x ∈ ws, x.size ≤ 1000000) := Lib.hid (fun x hx => by
          obtain ⟨i, hi, rfl⟩ := List.mem_iff_getElem.1 hx
          have := HK.out i hi (by have := HN.out; omega)
          omega)
        obtain ⟨p, k, hpk⟩ : ∃ p k, parseM ws = (p, k) := ⟨_, _, rfl⟩
        have hpl : p.ps.length ≤ 32 := by have := parse_len ws; rw [hpk] at this; exact this
        have HPK := Lib.hid hpk
        clear HK hpk
        obtain ⟨pon, pbc, poi, poo, pnl, prd, pps⟩ := p
        have hpl : pps.length ≤ 32 := hpl
        have HP1 := Lib.hid (parse_calls _ a n c ws (HX.out.below HB.out) (HWI.out _ HB.out) HN.out hwc hwb (by omega) HSw.out ⟨pon, pbc, poi, poo, pnl, prd, pps⟩ k HPK.out)
        go_wp2_with fail
        refine HP1.out.mono ?_
        rintro e w4 ⟨v, rfl, hR⟩
        obtain ⟨r1, q1, rfl, -, -, -, hI⟩ := hR.slice
        have HI1 := Lib.hid hI
        have hb := hR.bel
        have HDm := Lib.hid (HDm.out.below hb)
        have HB := Lib.hid (bstep HB.out hb)
        clear hb hR hI HP1
        simp only [mVv]
        go_upto_region 12 with fail
        have hb := bbox (w := w4) (.cells #[.bool pon, .bool pbc, .bool poi, .bool poo, .bool pnl, .int .i64 prd, .slice r1 pps.length q1] 24)
        have HD1 : Hid (CellL (w4.alloc (.cells #[.bool pon, .bool pbc, .bool poi, .bool poo, .bool pnl, .int .i64 prd, .slice r1 pps.length q1] 24)) w4.heap.size [.bool pon, .bool pbc, .bool poi, .bool poo, .bool pnl, .int .i64 prd, .slice r1 pps.length q1]) := Lib.hid (CellL.new w4 [.bool pon, .bool pbc, .bool poi, .bool poo, .bool pnl, .int .i64 prd, .slice r1 pps.length q1] 24)
        have HDm := Lib.hid (HDm.out.below hb)
        have HB := Lib.hid (bstep HB.out hb)
        have HI1 := Lib.hid (HI1.out.bel hb)
        clear hb
        generalize (w4.alloc (.cells #[.bool pon, .bool pbc, .bool poi, .bool poo, .bool pnl, .int .i64 prd, .slice r1 pps.length q1] 24)) = w5 at *
        generalize w4.heap.size = b7 at *
        have HP2 := Lib.hid (refP_calls w5 a n c ws (HWI.out _ HB.out) HN.out (by omega) HSw.out ⟨pon, pbc, poi, poo, pnl, prd, pps⟩ k HPK.out)
        go_wp2_with fail
        refine HP2.out.mono ?_
        rintro e w6 ⟨v, rfl, hR⟩
        obtain ⟨r2, q2, rfl, -, -, -, hI⟩ := hR.slice
        have HI2 := Lib.hid hI
        have hb := hR.bel
        have HDm := Lib.hid (HDm.out.below hb)
        have HD1 := Lib.hid (HD1.out.below hb)
        have HB := Lib.hid (bstep HB.out hb)
        have HI1 := Lib.hid (HI1.out.bel hb)
        clear hb hR hI HP2
        simp only [mVv]
        go_upto_region 13 with fail
        have hb := bbox (w := w6) (.cells #[.bool pon, .bool pbc, .bool poi, .bool poo, .bool pnl, .int .i64 prd, .slice r2 pps.length q2] 24)
        have HD2 : Hid (CellL (w6.alloc (.cells #[.bool pon, .bool pbc, .bool poi, .bool poo, .bool pnl, .int .i64 prd, .slice r2 pps.length q2] 24)) w6.heap.size [.bool pon, .bool pbc, .bool poi, .bool poo, .bool pnl, .int .i64 prd, .slice r2 pps.length q2]) := Lib.hid (CellL.new w6 [.bool pon, .bool pbc, .bool poi, .bool poo, .bool pnl, .int .i64 prd, .slice r2 pps.length q2] 24)
        have HDm := Lib.hid (HDm.out.below hb)
        have HD1 := Lib.hid (HD1.out.below hb)
        have HB := Lib.hid (bstep HB.out hb)
        have HI1 := Lib.hid (HI1.out.bel hb)
        have HI2 := Lib.hid (HI2.out.bel hb)
        clear hb
        generalize (w6.alloc (.cells #[.bool pon, .bool pbc, .bool poi, .bool poo, .bool pnl, .int .i64 prd, .slice r2 pps.length q2] 24)) = w7 at *
        generalize w6.heap.size = b9 at *
        have hb17 : b1 < w7.heap.size := HDm.out.lt
        have HCp : Hid (Calls Tryd.prog 14 #[.agg #[.bool on, .bool bc, .bool oi, .bool oo, .bool nl, .int .i64 rd, .slice a' ps.length c']] w7 fun e w' => ∃ v, e = .returned (mVv ⟨on, bc, oi, oo, nl, rd, ps⟩ v) ∧ RowS w7 w' v (⟨on, bc, oi, oo, nl, rd, ps⟩ : Md).ps) := Lib.hid (copy_calls w7 ⟨on, bc, oi, oo, nl, rd, ps⟩ a' c' HZ.out (HIa.out _ HB.out) (by simp only; omega))
        have x0 := HDm.out.at 0 rfl
        have x1 := HDm.out.at 1 rfl
        have x2 := HDm.out.at 2 rfl
        have x3 := HDm.out.at 3 rfl
        have x4 := HDm.out.at 4 rfl
        have x5 := HDm.out.at 5 rfl
        have x6 := HDm.out.at 6 rfl
        go_wp2_with fail
        refine HCp.out.mono ?_
        rintro e w8 ⟨v3, rfl, hR⟩
        obtain ⟨r3, q3, rfl, hq31, hq32, -, -⟩ := hR.slice
        have HR3 : Hid (RowS w7 w8 (.slice r3 ps.length q3) ps) := Lib.hid hR
        have hb := hR.bel
        have HDm := Lib.hid (HDm.out.below hb)
        have HD1 := Lib.hid (HD1.out.below hb)
        have HD2 := Lib.hid (HD2.out.below hb)
        have HB7 := Lib.hid HB.out
        have HB := Lib.hid (bstep HB.out hb)
        have HI1 := Lib.hid (HI1.out.bel hb)
        have HI2 := Lib.hid (HI2.out.bel hb)
        clear hb hR HCp x0 x1 x2 x3 x4 x5 x6
        simp only [mVv]
        go_upto_region 14 with fail
        have hb := bbox (w := w8) (.cells #[.bool on, .bool bc, .bool oi, .bool oo, .bool nl, .int .i64 rd, .slice r3 ps.length q3] 24)
        have HD3 : Hid (CellL (w8.alloc (.cells #[.bool on, .bool bc, .bool oi, .bool oo, .bool nl, .int .i64 rd, .slice r3 ps.length q3] 24)) w8.heap.size [.bool on, .bool bc, .bool oi, .bool oo, .bool nl, .int .i64 rd, .slice r3 ps.length q3]) := Lib.hid (CellL.new w8 [.bool on, .bool bc, .bool oi, .bool oo, .bool nl, .int .i64 rd, .slice r3 ps.length q3] 24)
        have HG11 : Hid (∀ g, r3 = some ⟨g, 0, none⟩ → g < w8.heap.size ∧ w7.heap.size ≤ g) := Lib.hid (fun g e => by subst e; exact (rowS_lt HR3.out).symm)
        have HDm := Lib.hid (HDm.out.below hb)
        have HD1 := Lib.hid (HD1.out.below hb)
        have HD2 := Lib.hid (HD2.out.below hb)
        have HB := Lib.hid (bstep HB.out hb)
        have HI1 := Lib.hid (HI1.out.bel hb)
        have HI2 := Lib.hid (HI2.out.bel hb)
        have HR3 := Lib.hid (HR3.out.below hb)
        clear hb
        generalize (w8.alloc (.cells #[.bool on, .bool bc, .bool oi, .bool oo, .bool nl, .int .i64 rd, .slice r3 ps.length q3] 24)) = w9 at *
        generalize w8.heap.size = b11 at *
        obtain ⟨F, F1, F2, F3⟩ := Sp.ovr w9
        have HF3 := Lib.hid F3
        have HDmF := Lib.hid (fun x => HDm.out.below (F1 x))
        have HD1F := Lib.hid (fun x => HD1.out.below (F1 x))
        have HD2F := Lib.hid (fun x => HD2.out.below (F1 x))
        have HD3F := Lib.hid (fun x => HD3.out.below (F1 x))
        have HBF := Lib.hid (fun x => bstep HB.out (F1 x))
        have HR3F := Lib.hid (fun x => HR3.out.below (F1 x))
        have HI1F := Lib.hid (fun x => HI1.out.bel (F1 x))
        have HI2F := Lib.hid (fun x => HI2.out.bel (F1 x))
        have HI3F : Hid (∀ x, InS (F x) r3 ps) := Lib.hid (fun x => by
          obtain ⟨y, z, e, -, -, -, h⟩ := (HR3F.out x).slice
          injection e with e1 e2 e3
          rw [e1]; exact h)
        have HS1 : Hid (∀ x, Calls Tryd.prog 15 #[.agg #[.bool pon, .bool pbc, .bool poi, .bool poo, .bool pnl, .int .i64 prd, .slice r1 pps.length q1], .agg #[.bool pon, .bool pbc, .bool poi, .bool poo, .bool pnl, .int .i64 prd, .slice r2 pps.length q2]] (F x) fun e w' => e = .returned (.bool true) ∧ Below (F x).heap.size (F x) w') := Lib.hid (fun x => refSame_calls (F x) ⟨pon, pbc, poi, poo, pnl, prd, pps⟩ ⟨pon, pbc, poi, poo, pnl, prd, pps⟩ r1 r2 q1 q2 (HI1F.out x) (HI2F.out x) (by simp only; omega) (by simp only; omega) true ⟨fun _ => rfl, fun _ => rfl⟩)
        have HS2 : Hid (∀ x, Calls Tryd.prog 15 #[.agg #[.bool on, .bool bc, .bool oi, .bool oo, .bool nl, .int .i64 rd, .slice r3 ps.length q3], .agg #[.bool on, .bool bc, .bool oi, .bool oo, .bool nl, .int .i64 rd, .slice a' ps.length c']] (F x) fun e w' => e = .returned (.bool true) ∧ Below (F x).heap.size (F x) w') := Lib.hid (fun x => refSame_calls (F x) ⟨on, bc, oi, oo, nl, rd, ps⟩ ⟨on, bc, oi, oo, nl, rd, ps⟩ r3 a' q3 c' (HI3F.out x) (HIa.out _ (HBF.out x)) (by simp only; omega) (by simp only; omega) true ⟨fun _ => rfl, fun _ => rfl⟩)
        have HRt : Hid (∀ x, Calls Tryd.prog 16 #[.agg #[.bool on, .bool bc, .bool oi, .bool oo, .bool nl, .int .i64 rd, .slice a' ps.length c']] (F x) fun e w' => e = .returned (.bool br) ∧ Below (F x).heap.size (F x) w') := Lib.hid (fun x => right_calls (F x) ⟨on, bc, oi, oo, nl, rd, ps⟩ a' c' (HIa.out _ (HBF.out x)) (by simp only; omega) br HBr.out)
        have HRr : Hid (∀ x, Calls Tryd.prog 17 #[.agg #[.bool on, .bool bc, .bool oi, .bool oo, .bool nl, .int .i64 rd, .slice a' ps.length c']] (F x) fun e w' => e = .returned (.bool br) ∧ Below (F x).heap.size (F x) w') := Lib.hid (fun x => refRight_calls (F x) ⟨on, bc, oi, oo, nl, rd, ps⟩ a' c' (HIa.out _ (HBF.out x)) (by simp only; omega) (by simp only; omega) br HBr.out)
        have x0 := fun x => (HDmF.out x).at 0 rfl
        have x1 := fun x => (HDmF.out x).at 1 rfl
        have x2 := fun x => (HDmF.out x).at 2 rfl
        have x3 := fun x => (HDmF.out x).at 3 rfl
        have x4 := fun x => (HDmF.out x).at 4 rfl
        have x5 := fun x => (HDmF.out x).at 5 rfl
        have x6 := fun x => (HDmF.out x).at 6 rfl
        have y0 := fun x => (HD1F.out x).at 0 rfl
        have y1 := fun x => (HD1F.out x).at 1 rfl
        have y2 := fun x => (HD1F.out x).at 2 rfl
        have y3 := fun x => (HD1F.out x).at 3 rfl
        have y4 := fun x => (HD1F.out x).at 4 rfl
        have y5 := fun x => (HD1F.out x).at 5 rfl
        have y6 := fun x => (HD1F.out x).at 6 rfl
        have z0 := fun x => (HD2F.out x).at 0 rfl
        have z1 := fun x => (HD2F.out x).at 1 rfl
        have z2 := fun x => (HD2F.out x).at 2 rfl
        have z3 := fun x => (HD2F.out x).at 3 rfl
        have z4 := fun x => (HD2F.out x).at 4 rfl
        have z5 := fun x => (HD2F.out x).at 5 rfl
        have z6 := fun x => (HD2F.out x).at 6 rfl
        have u0 := fun x => (HD3F.out x).at 0 rfl
        have u1 := fun x => (HD3F.out x).at 1 rfl
        have u2 := fun x => (HD3F.out x).at 2 rfl
        have u3 := fun x => (HD3F.out x).at 3 rfl
        have u4 := fun x => (HD3F.out x).at 4 rfl
        have u5 := fun x => (HD3F.out x).at 5 rfl
        have u6 := fun x => (HD3F.out x).at 6 rfl
        clear F1 F3 HDm HD1 HD2 HD3 HB HR3 HI1 HI2
        have hkk : (k == k) = true := beq_self_eq_true _
        have hbb : (br == br) = true := beq_self_eq_true _
        refine Sp.wp_region_cls F (by kernel_rfl) (by kernel_rfl) F2 ?_
        repeat (go_big_quiet_step (first | (go_at_call 15; first | with_reducible exact Sp.q_ovr HF3.out (HS1.out _) | with_reducible exact Sp.q_ovr HF3.out (HS2.out _)) | (go_at_call 16; with_reducible exact Sp.q_ovr HF3.out (HRt.out _)) | (go_at_call 17; with_reducible exact Sp.q_ovr HF3.out (HRr.out _))))
        refine wpQuiet_nil ?_
        intro _ hw'
        obtain ⟨y, hy⟩ := hw'
        subst hy
        have HDm := Lib.hid (HDmF.out y)
        have HD3 := Lib.hid (HD3F.out y)
        have HB := Lib.hid (HBF.out y)
        have HR3 := Lib.hid (HR3F.out y)
        have HI3 := Lib.hid (HI3F.out y)
        clear HDmF HD1F HD2F HD3F HBF HR3F HI1F HI2F HI3F HS1 HS2 HRt HRr HF3 F2
        clear x0 x1 x2 x3 x4 x5 x6 y0 y1 y2 y3 y4 y5 y6 z0 z1 z2 z3 z4 z5 z6 u0 u1 u2 u3 u4 u5 u6
        generalize F y = w10 at *
        clear F y
        have HG12 := HG11
        by_cases hp : 0 < ps.length
        case neg =>
          have hpc : ¬ (0 : Int) < (ps.length : Int) := by omega
          have HSm : Hid (Calls Tryd.prog 18 #[.agg #[.bool on, .bool bc, .bool oi, .bool oo, .bool nl, .int .i64 rd, .slice r3 ps.length q3], .agg #[.bool on, .bool bc, .bool oi, .bool oo, .bool nl, .int .i64 rd, .slice a' ps.length c']] w10 fun e w' => e = .returned (.bool true) ∧ Below w10.heap.size w10 w') := Lib.hid (same_calls w10 ⟨on, bc, oi, oo, nl, rd, ps⟩ ⟨on, bc, oi, oo, nl, rd, ps⟩ r3 a' q3 c' HI3.out (HIa.out _ HB.out) (by simp only; omega) (by simp only; omega) true ⟨fun _ => rfl, fun _ => rfl⟩)
          have x0 := HDm.out.at 0 rfl
          have u0 := HD3.out.at 0 rfl
          have x1 := HDm.out.at 1 rfl
          have u1 := HD3.out.at 1 rfl
          have x2 := HDm.out.at 2 rfl
          have u2 := HD3.out.at 2 rfl
          have x3 := HDm.out.at 3 rfl
          have u3 := HD3.out.at 3 rfl
          have x4 := HDm.out.at 4 rfl
          have u4 := HD3.out.at 4 rfl
          have x5 := HDm.out.at 5 rfl
          have u5 := HD3.out.at 5 rfl
          have x6 := HDm.out.at 6 rfl
          have u6 := HD3.out.at 6 rfl
          go_wp2_with fail
          refine HSm.out.mono ?_
          rintro e w11 ⟨rfl, hb⟩
          have HB := Lib.hid (bstep HB.out hb)
          clear hb
          go_wp2_with fail
          go_ret
          exact ⟨by first | rfl | simp, HB.out⟩
        case pos =>
          have hpc : (0 : Int) < (ps.length : Int) := by omega
          obtain ⟨g, c3, e3⟩ := HR3.out.some' hp
          injection e3 with e31 e32 e33
          subst e31 e33
          clear e32
          obtain ⟨hg1, hg2⟩ := HG11.out g rfl
          have d0 := HR3.out.form.2.2.2 0 hp
          have f0 := rowS_free HR3.out
          have hsz := HSz.out 0 hp
          obtain ⟨q, hq⟩ : ∃ q, ps[0] = q := ⟨_, rfl⟩
          rw [hq] at d0 hsz
          have HQ := Lib.hid hq
          clear hq HG11 HG12
          have x0 := HDm.out.at 0 rfl
          have u0 := HD3.out.at 0 rfl
          have x1 := HDm.out.at 1 rfl
          have u1 := HD3.out.at 1 rfl
          have x2 := HDm.out.at 2 rfl
          have u2 := HD3.out.at 2 rfl
          have x3 := HDm.out.at 3 rfl
          have u3 := HD3.out.at 3 rfl
          have x4 := HDm.out.at 4 rfl
          have u4 := HD3.out.at 4 rfl
          have x5 := HDm.out.at 5 rfl
          have u5 := HD3.out.at 5 rfl
          have x6 := HDm.out.at 6 rfl
          have u6 := HD3.out.at 6 rfl
          go_upto_region 18 with fail
          clear x0 u0 x1 u1 x2 u2 x3 u3 x4 u4 x5 u5 x6 u6 d0 f0
          have HDm := Lib.hid (HDm.out.other (b' := g) (by omega) 0 (.string (q ++ ⟨#[120]⟩)))
          have HD3 := Lib.hid (HD3.out.other (b' := g) (by omega) 0 (.string (q ++ ⟨#[120]⟩)))
          have HR3 := Lib.hid (rowS_set HR3.out (q ++ ⟨#[120]⟩))
          have HB : Hid (Below w.heap.size w (w10.setCell ⟨g, 0, none⟩ (.string (q ++ ⟨#[120]⟩)))) := Lib.hid (HB.out.setCell (p := ⟨g, 0, none⟩) (by have := HB7.out.size; show w.heap.size ≤ g; omega) _)
          generalize (w10.setCell ⟨g, 0, none⟩ (.string (q ++ ⟨#[120]⟩))) = w11 at *
          have HSm : Hid (Calls Tryd.prog 18 #[.agg #[.bool on, .bool bc, .bool oi, .bool oo, .bool nl, .int .i64 rd, .slice (some ⟨g, 0, none⟩) ps.length q3], .agg #[.bool on, .bool bc, .bool oi, .bool oo, .bool nl, .int .i64 rd, .slice a' ps.length c']] w11 fun e w' => e = .returned (.bool false) ∧ Below w11.heap.size w11 w') := Lib.hid (by
            have h := same_calls w11 ⟨on, bc, oi, oo, nl, rd, ps.set 0 (q ++ ⟨#[120]⟩)⟩ ⟨on, bc, oi, oo, nl, rd, ps⟩ (some ⟨g, 0, none⟩) a' q3 c' (by
              obtain ⟨y, z, e, -, -, -, h⟩ := HR3.out.slice
              injection e with e1 e2 e3
              rw [e1]; exact h) (HIa.out _ HB.out) (by simp only [List.length_set]; omega) (by simp only; omega) false ⟨(fun h => by cases h), (fun h => by
              injection h with h0 h1 h2 h3 h4 h5 h6
              have h7 : (ps.set 0 (q ++ ⟨#[120]⟩))[0]'(by rw [List.length_set]; exact hp) = ps[0] := by simp only [h6]
              rw [List.getElem_set_self, HQ.out] at h7
              have h8 := congrArg ByteArray.size h7
              rw [ByteArray.size_append] at h8
              have h9 : (⟨#[120]⟩ : ByteArray).size = 1 := rfl
              omega)⟩
            unfold mV at h
            simp only [List.length_set] at h
            exact h)
          have x0 := HDm.out.at 0 rfl
          have u0 := HD3.out.at 0 rfl
          have x1 := HDm.out.at 1 rfl
          have u1 := HD3.out.at 1 rfl
          have x2 := HDm.out.at 2 rfl
          have u2 := HD3.out.at 2 rfl
          have x3 := HDm.out.at 3 rfl
          have u3 := HD3.out.at 3 rfl
          have x4 := HDm.out.at 4 rfl
          have u4 := HD3.out.at 4 rfl
          have x5 := HDm.out.at 5 rfl
          have u5 := HD3.out.at 5 rfl
          have x6 := HDm.out.at 6 rfl
          have u6 := HD3.out.at 6 rfl
          go_wp2_with fail
          refine HSm.out.mono ?_
          rintro e w12 ⟨rfl, hb⟩
          have HB := Lib.hid (bstep HB.out hb)
          clear hb
          go_wp2_with fail
          go_ret
          exact ⟨by first | rfl | simp, HB.out⟩
end Go.Proofs.YtjpbpdjomfkkeaaDoor.Ma
