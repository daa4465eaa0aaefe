/- The statements' great, the document's Same of layer 13. No condition but bounds. -/
import Derived.Test.YtjpbpdjomfkkeaaGreatDoorMb6
import Derived.Deep.QuietTactic
import Derived.BigQuiet
namespace Go.Proofs.YtjpbpdjomfkkeaaGreatDoor.Ma
set_option linter.unusedVariables false
set_option linter.unusedSimpArgs false
open Go.ChangeShapes Go.WideShapes Go.ChangeAt Go.RowKit
open Go.Proofs.YtjpbpdjomfkkeaaGreatDoor.Sp (bstep bbox)
/-- Is a mode too great to be looked at? -/
def Great (m : Md) : Prop := 50 < m.ps.length ∨ ∃ i, ∃ hi : i < m.ps.length, 600 < m.ps[i].size
set_option maxHeartbeats 8000000 in
set_option maxRecDepth 100000 in
theorem great_calls (w : World) (m : Md) (a : Option Addr) (c : Nat) (hI : InS w a m.ps) (hl : m.ps.length ≤ 9223372036854775807) (b0 : Bool) (hb0 : b0 = true ↔ Great m) :
    Calls Tryz.prog 5 #[mV m a c] w fun e w' => e = .returned (.bool b0) ∧ Below w.heap.size w w' := by
  have HI := Lib.hid hI
  have HB := Lib.hid hb0
  clear hI hb0
  obtain ⟨on, bc, oi, oo, nl, rd, ps⟩ := m
  unfold mV
  unfold Great at HB
  simp only at HI HB hl ⊢
  by_cases h0 : 50 < ps.length
  · have h0c : (50 : Int) < (ps.length : Int) := by omega
    obtain rfl := bt HB.out (.inl h0)
    go_enter Tryz.func5, Tryz.ntmps5
    go_wp2_with fail
    go_ret
    exact ⟨rfl, bbox _⟩
  · have h0c : ¬ (50 : Int) < (ps.length : Int) := by omega
    have HW1 := Lib.hid (fun O => bbox (w := w) O)
    go_enter Tryz.func5, Tryz.ntmps5
    go_wp2_with fail
    go_loopg [4, 12] (ps.length + 1) (fun g _ s12 wr => ∃ j : Nat, s12 = .int .i64 j ∧ j ≤ ps.length ∧ ps.length - j ≤ g ∧ Hid (∀ i (hi : i < ps.length), i < j → ps[i].size ≤ 600) ∧ Hid (Below w.heap.size w wr))
    case atStart => exact ⟨0, rfl, by omega, by omega, Lib.hid (fun _ _ h => absurd h (Nat.not_lt_zero _)), Lib.hid (bbox _)⟩
    case round =>
      obtain ⟨j, rfl, hj, hg, HK, HBl⟩ := hrel
      by_cases hjl : j < ps.length
      case neg =>
        have hjc : ¬ (j : Int) < (ps.length : Int) := by omega
        obtain rfl := bf HB.out (fun h => by
          rcases h with h | ⟨i, hi, h⟩
          · omega
          · have := HK.out i hi (by omega); omega)
        go_wp2_with fail
        go_ret
        exact ⟨rfl, HBl.out⟩
      case pos =>
        have hjc : (j : Int) < (ps.length : Int) := by omega
        obtain ⟨B, o, rfl, hlt, hc⟩ := HI.out (by omega)
        have c0 : wr.cell? ⟨B, o + j, none⟩ = some (.string ps[j]) := (HBl.out.cell (p := ⟨B, o + j, none⟩) hlt).trans (hc j hjl)
        by_cases hs : 600 < ps[j].size
        · obtain rfl := bt HB.out (.inr ⟨j, hjl, hs⟩)
          clear hc HK
          generalize ps[j] = q at *
          have hsc : (600 : Int) < (q.size : Int) := by omega
          go_wp2_with fail
          go_ret
          exact ⟨rfl, HBl.out⟩
        · have HKn : Hid (∀ i (hi : i < ps.length), i < j + 1 → ps[i].size ≤ 600) := Lib.hid (fun i hi hij => by
            by_cases e : i = j
            · subst e; omega
            · exact HK.out i hi (by omega))
          clear hc HK
          generalize ps[j] = q at *
          have hsc : ¬ (600 : Int) < (q.size : Int) := by omega
          go_wp2_with fail
          go_roundg (gk - 1)
          case measure => omega
          case rel => exact ⟨j + 1, by go_num, by omega, by omega, HKn, HBl⟩
set_option maxHeartbeats 8000000 in
set_option maxRecDepth 100000 in
theorem refSame_calls (w : World) (m n : Md) (a a' : Option Addr) (c c' : Nat) (hm : InS w a m.ps) (hn : InS w a' n.ps) (hl : m.ps.length ≤ 1000000) (hl' : n.ps.length ≤ 1000000) (b0 : Bool) (hb0 : b0 = true ↔ m = n) :
    Calls Tryz.prog 9 #[mV m a c, mV n a' c'] w fun e w' => e = .returned (.bool b0) ∧ Below w.heap.size w w' := by
  obtain ⟨on, bc, oi, oo, nl, rd, ps⟩ := m
  obtain ⟨on', bc', oi', oo', nl', rd', ps'⟩ := n
  unfold mV
  simp only at hm hn hl hl' ⊢
  have HM := Lib.hid hm
  have HN := Lib.hid hn
  have HB := Lib.hid hb0
  clear hm hn hb0
  by_cases h0 : on = on'
  case neg =>
    obtain rfl : b0 = false := by
      cases b0 with
      | false => rfl
      | true => have h := HB.out.1 rfl; injection h with e0 e1 e2 e3 e4 e5 e6; exact absurd e0 h0
    have h0c : (on == on') = false := beq_eq_false_iff_ne.2 h0
    have h0n : (!(on == on')) = true := by rw [h0c]; rfl
    clear HB
    go_enter Tryz.func9, Tryz.ntmps9
    go_wp2_with fail
    go_ret
    exact ⟨by first | rfl | simp, bstep (bbox _) (bbox _)⟩
  subst h0
  by_cases h1 : bc = bc'
  case neg =>
    obtain rfl : b0 = false := by
      cases b0 with
      | false => rfl
      | true => have h := HB.out.1 rfl; injection h with e0 e1 e2 e3 e4 e5 e6; exact absurd e1 h1
    have h1c : (bc == bc') = false := beq_eq_false_iff_ne.2 h1
    have h1n : (!(bc == bc')) = true := by rw [h1c]; rfl
    clear HB
    go_enter Tryz.func9, Tryz.ntmps9
    go_wp2_with fail
    go_ret
    exact ⟨by first | rfl | simp, bstep (bbox _) (bbox _)⟩
  subst h1
  by_cases h2 : oi = oi'
  case neg =>
    obtain rfl : b0 = false := by
      cases b0 with
      | false => rfl
      | true => have h := HB.out.1 rfl; injection h with e0 e1 e2 e3 e4 e5 e6; exact absurd e2 h2
    have h2c : (oi == oi') = false := beq_eq_false_iff_ne.2 h2
    have h2n : (!(oi == oi')) = true := by rw [h2c]; rfl
    clear HB
    go_enter Tryz.func9, Tryz.ntmps9
    go_wp2_with fail
    go_ret
    exact ⟨by first | rfl | simp, bstep (bbox _) (bbox _)⟩
  subst h2
  by_cases h3 : oo = oo'
  case neg =>
    obtain rfl : b0 = false := by
      cases b0 with
      | false => rfl
      | true => have h := HB.out.1 rfl; injection h with e0 e1 e2 e3 e4 e5 e6; exact absurd e3 h3
    have h3c : (oo == oo') = false := beq_eq_false_iff_ne.2 h3
    have h3n : (!(oo == oo')) = true := by rw [h3c]; rfl
    clear HB
    go_enter Tryz.func9, Tryz.ntmps9
    go_wp2_with fail
    go_ret
    exact ⟨by first | rfl | simp, bstep (bbox _) (bbox _)⟩
  subst h3
  by_cases h4 : nl = nl'
  case neg =>
    obtain rfl : b0 = false := by
      cases b0 with
      | false => rfl
      | true => have h := HB.out.1 rfl; injection h with e0 e1 e2 e3 e4 e5 e6; exact absurd e4 h4
    have h4c : (nl == nl') = false := beq_eq_false_iff_ne.2 h4
    have h4n : (!(nl == nl')) = true := by rw [h4c]; rfl
    clear HB
    go_enter Tryz.func9, Tryz.ntmps9
    go_wp2_with fail
    go_ret
    exact ⟨by first | rfl | simp, bstep (bbox _) (bbox _)⟩
  subst h4
  by_cases h5 : rd = rd'
  case neg =>
    obtain rfl : b0 = false := by
      cases b0 with
      | false => rfl
      | true => have h := HB.out.1 rfl; injection h with e0 e1 e2 e3 e4 e5 e6; exact absurd e5 h5
    have h5c : (rd == rd') = false := beq_eq_false_iff_ne.2 h5
    have h5n : (!(rd == rd')) = true := by rw [h5c]; rfl
    clear HB
    go_enter Tryz.func9, Tryz.ntmps9
    go_wp2_with fail
    go_ret
    exact ⟨by first | rfl | simp, bstep (bbox _) (bbox _)⟩
  subst h5
  by_cases h6 : ps.length = ps'.length
  case neg =>
    obtain rfl : b0 = false := by
      cases b0 with
      | false => rfl
      | true => have h := HB.out.1 rfl; injection h with e0 e1 e2 e3 e4 e5 e6; exact absurd (congrArg List.length e6) h6
    have h6c : ((ps.length : Int) == (ps'.length : Int)) = false := by rw [beq_eq_false_iff_ne]; omega
    have h6d : ¬ (ps.length : Int) = (ps'.length : Int) := by omega
    clear HB
    go_enter Tryz.func9, Tryz.ntmps9
    go_wp2_with fail
    go_ret
    exact ⟨by first | rfl | simp, bstep (bbox _) (bbox _)⟩
  have HBp : Hid (b0 = true ↔ ps = ps') := Lib.hid (HB.out.trans ⟨fun h => by injection h, fun h => by rw [h]⟩)
  have HL := Lib.hid h6
  obtain ⟨n, hn⟩ : ∃ n, ps.length = n := ⟨_, rfl⟩
  have hn' : ps'.length = n := by omega
  have HNn := Lib.hid hn
  have HNn' := Lib.hid hn'
  rw [hn, hn']
  rw [hn] at hl
  clear HB h6 hn hn' hl'
  have hnb : ((n : Int) == (n : Int)) = true := beq_self_eq_true _
  have HW : Hid (∀ O1 O2, Below w.heap.size w ((w.alloc O1).alloc O2)) := Lib.hid (fun _ _ => bstep (bbox _) (bbox _))
  go_enter Tryz.func9, Tryz.ntmps9
  go_upto_region 3 with fail
  have HX := Lib.hid ((CellL.new w [.bool on, .bool bc, .bool oi, .bool oo, .bool nl, .int .i64 rd, .slice a n c] 24).alloc (.cells #[.bool on, .bool bc, .bool oi, .bool oo, .bool nl, .int .i64 rd, .slice a' n c'] 24))
  have HY := Lib.hid (CellL.new2 (w.alloc (.cells #[.bool on, .bool bc, .bool oi, .bool oo, .bool nl, .int .i64 rd, .slice a n c] 24)) (w.heap.size + 1) (by simp) [.bool on, .bool bc, .bool oi, .bool oo, .bool nl, .int .i64 rd, .slice a' n c'] 24)
  have HW1 := Lib.hid (HW.out (.cells #[.bool on, .bool bc, .bool oi, .bool oo, .bool nl, .int .i64 rd, .slice a n c] 24) (.cells #[.bool on, .bool bc, .bool oi, .bool oo, .bool nl, .int .i64 rd, .slice a' n c'] 24))
  go_wp2_with fail
  generalize ((w.alloc (.cells #[.bool on, .bool bc, .bool oi, .bool oo, .bool nl, .int .i64 rd, .slice a n c] 24)).alloc (.cells #[.bool on, .bool bc, .bool oi, .bool oo, .bool nl, .int .i64 rd, .slice a' n c'] 24)) = w1 at *
  generalize hx : w.heap.size = x at *
  have HXS := Lib.hid hx
  clear hx HW
  go_loopg [5, 58] (n + 1) (fun g _ s58 wr => ∃ j : Nat, s58 = .int .i64 j ∧ j ≤ n ∧ n - j ≤ g ∧ Hid (∀ i (hi : i < ps.length) (hi' : i < ps'.length), i < j → ps[i] = ps'[i]) ∧ Hid (Below w1.heap.size w1 wr))
  case atStart => exact ⟨0, rfl, by omega, by omega, Lib.hid (fun _ _ _ h => absurd h (Nat.not_lt_zero _)), Lib.hid (Below.refl _ _)⟩
  case round =>
    obtain ⟨j, rfl, hj, hg, HK, HBl⟩ := hrel
    have HE : Hid (Below x w wr) := Lib.hid (by rw [← HXS.out] at HW1 ⊢; exact bstep HW1.out HBl.out)
    by_cases hjl : j < n
    case neg =>
      have hjc : ¬ (j : Int) < (n : Int) := by omega
      obtain rfl : b0 = true := bt HBp.out (List.ext_getElem HL.out fun i hi hi' => HK.out i hi hi' (by have := HNn.out; omega))
      go_wp2_with fail
      go_ret
      exact ⟨rfl, by rw [HXS.out]; exact HE.out⟩
    case pos =>
      have hjc : (j : Int) < (n : Int) := by omega
      have hj1 : j < ps.length := by have := HNn.out; omega
      have hj2 : j < ps'.length := by have := HNn'.out; omega
      obtain ⟨B, o, rfl, hlt, hc⟩ := HM.out (by omega)
      obtain ⟨B', o', rfl, hlt', hc'⟩ := HN.out (by omega)
      have c0 : wr.cell? ⟨B, o + j, none⟩ = some (.string ps[j]) := (HE.out.cell (p := ⟨B, o + j, none⟩) (by rw [← HXS.out]; exact hlt)).trans (hc j hj1)
      have c1 : wr.cell? ⟨B', o' + j, none⟩ = some (.string ps'[j]) := (HE.out.cell (p := ⟨B', o' + j, none⟩) (by rw [← HXS.out]; exact hlt')).trans (hc' j hj2)
      have x6 := (HX.out.below HBl.out).at 6 rfl
      have y6 := (HY.out.below HBl.out).at 6 rfl
      have HKn : Hid (ps[j] = ps'[j] → ∀ i (hi : i < ps.length) (hi' : i < ps'.length), i < j + 1 → ps[i] = ps'[i]) := Lib.hid (fun e i hi hi' hij => by
        by_cases h : i = j
        · subst h; exact e
        · exact HK.out i hi hi' (by omega))
      have HNo : Hid (ps[j] ≠ ps'[j] → b0 = false) := Lib.hid (fun h => bf HBp.out (fun e => h (by subst e; rfl)))
      clear hc hc' HK
      by_cases he : ps[j] = ps'[j]
      · have HK2 := Lib.hid (HKn.out he)
        rw [← he] at c1
        clear HKn HNo he
        generalize ps[j] = q at *
        have hq : (q.toList == q.toList) = true := beq_self_eq_true _
        go_wp2_with fail
        go_big_quiet (fail)
        go_wp2_with fail
        go_roundg (gk - 1)
        case measure => omega
        case rel => exact ⟨j + 1, by go_num, by omega, by omega, HK2, Lib.hid (HBl.out.trans ⟨rfl, rfl, rfl, Nat.le_refl _, fun _ _ => rfl⟩)⟩
      · obtain rfl := HNo.out he
        clear HKn HNo
        generalize ps[j] = q at *
        generalize ps'[j] = q' at *
        have hq : (q.toList == q'.toList) = false := beq_eq_false_iff_ne.2 fun e => he (Ia.ba_eq e)
        have hq2 : (!(q.toList == q'.toList)) = true := by rw [hq]; rfl
        go_wp2_with fail
        go_big_quiet (fail)
        go_wp2_with fail
        go_ret
        exact ⟨rfl, by rw [HXS.out]; exact HE.out.trans ⟨rfl, rfl, rfl, Nat.le_refl _, fun _ _ => rfl⟩⟩
end Go.Proofs.YtjpbpdjomfkkeaaGreatDoor.Ma
