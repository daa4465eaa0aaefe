/- Package mode: Same, Right, Copy. No condition but bounds. -/
import Derived.Test.YtjpbpdjomfkkeaaGreatDoorMb3
import Derived.Test.YtjpbpdjomfkkeaaGreatDoorMa4
namespace Go.Proofs.YtjpbpdjomfkkeaaGreatDoor.Ma
set_option linter.unusedVariables false
set_option linter.unusedSimpArgs false
open Go.ChangeShapes Go.WideShapes Go.ChangeAt Go.RowKit
open Go.Proofs.YtjpbpdjomfkkeaaGreatDoor.Sp (bstep bbox)
set_option maxHeartbeats 8000000 in
set_option maxRecDepth 100000 in
theorem same_calls (w : World) (m n : Md) (a a' : Option Addr) (c c' : Nat) (hm : InS w a m.ps) (hn : InS w a' n.ps) (hl : m.ps.length ≤ 1000000) (hl' : n.ps.length ≤ 1000000) (b0 : Bool) (hb0 : b0 = true ↔ m = n) :
    Calls Tryz.prog 10 #[mV m a c, mV n a' c'] w fun e w' => e = .returned (.bool b0) ∧ Below w.heap.size w w' := by
  obtain ⟨on, bc, oi, oo, nl, rd, ps⟩ := m
  obtain ⟨on', bc', oi', oo', nl', rd', ps'⟩ := n
  unfold mV
  simp only at hm hn hl hl' ⊢
  have HM := Lib.hid hm
  have HN := Lib.hid hn
  have HB := Lib.hid hb0
  clear hm hn hb0
  by_cases h0 : on = on'
  case neg =>
    obtain rfl : b0 = false := by
      cases b0 with
      | false => rfl
      | true => have h := HB.out.1 rfl; injection h with e0 e1 e2 e3 e4 e5 e6; exact absurd e0 h0
    have h0c : (on == on') = false := beq_eq_false_iff_ne.2 h0
    clear HB
    go_enter Tryz.func10, Tryz.ntmps10
    go_wp2_with fail
    go_ret
    exact ⟨by first | rfl | simp, bstep (bbox _) (bbox _)⟩
  subst h0
  by_cases h1 : bc = bc'
  case neg =>
    obtain rfl : b0 = false := by
      cases b0 with
      | false => rfl
      | true => have h := HB.out.1 rfl; injection h with e0 e1 e2 e3 e4 e5 e6; exact absurd e1 h1
    have h1c : (bc == bc') = false := beq_eq_false_iff_ne.2 h1
    clear HB
    go_enter Tryz.func10, Tryz.ntmps10
    go_wp2_with fail
    go_ret
    exact ⟨by first | rfl | simp, bstep (bbox _) (bbox _)⟩
  subst h1
  by_cases h2 : oi = oi'
  case neg =>
    obtain rfl : b0 = false := by
      cases b0 with
      | false => rfl
      | true => have h := HB.out.1 rfl; injection h with e0 e1 e2 e3 e4 e5 e6; exact absurd e2 h2
    have h2c : (oi == oi') = false := beq_eq_false_iff_ne.2 h2
    clear HB
    go_enter Tryz.func10, Tryz.ntmps10
    go_wp2_with fail
    go_ret
    exact ⟨by first | rfl | simp, bstep (bbox _) (bbox _)⟩
  subst h2
  by_cases h3 : oo = oo'
  case neg =>
    obtain rfl : b0 = false := by
      cases b0 with
      | false => rfl
      | true => have h := HB.out.1 rfl; injection h with e0 e1 e2 e3 e4 e5 e6; exact absurd e3 h3
    have h3c : (oo == oo') = false := beq_eq_false_iff_ne.2 h3
    clear HB
    go_enter Tryz.func10, Tryz.ntmps10
    go_wp2_with fail
    go_ret
    exact ⟨by first | rfl | simp, bstep (bbox _) (bbox _)⟩
  subst h3
  by_cases h4 : nl = nl'
  case neg =>
    obtain rfl : b0 = false := by
      cases b0 with
      | false => rfl
      | true => have h := HB.out.1 rfl; injection h with e0 e1 e2 e3 e4 e5 e6; exact absurd e4 h4
    have h4c : (nl == nl') = false := beq_eq_false_iff_ne.2 h4
    clear HB
    go_enter Tryz.func10, Tryz.ntmps10
    go_wp2_with fail
    go_ret
    exact ⟨by first | rfl | simp, bstep (bbox _) (bbox _)⟩
  subst h4
  by_cases h5 : rd = rd'
  case neg =>
    obtain rfl : b0 = false := by
      cases b0 with
      | false => rfl
      | true => have h := HB.out.1 rfl; injection h with e0 e1 e2 e3 e4 e5 e6; exact absurd e5 h5
    have h5c : (rd == rd') = false := beq_eq_false_iff_ne.2 h5
    clear HB
    go_enter Tryz.func10, Tryz.ntmps10
    go_wp2_with fail
    go_ret
    exact ⟨by first | rfl | simp, bstep (bbox _) (bbox _)⟩
  subst h5
  have HE : Hid (∀ W, Below w.heap.size w W → Calls Tryz.prog 23 #[.slice a ps.length c, .slice a' ps'.length c'] W fun e w' => e = .returned (.bool b0) ∧ ∃ q, w' = W.drewN q) := Lib.hid (fun W hW =>
    equal_calls W a a' c c' ps ps' (HM.out.bel hW) (HN.out.bel hW) hl hl' b0 (HB.out.trans ⟨fun h => by injection h, fun h => by rw [h]⟩))
  clear HB HM HN hl hl'
  go_enter Tryz.func10, Tryz.ntmps10
  go_wp2_with fail
  refine (HE.out _ (bstep (bbox _) (bbox _))).mono ?_
  rintro e w2 ⟨rfl, q, rfl⟩
  go_wp2_with fail
  go_ret
  exact ⟨by first | rfl | simp, bstep (bstep (bbox _) (bbox _)) (bdr _ _)⟩
set_option maxHeartbeats 8000000 in
set_option maxRecDepth 100000 in
theorem right_calls (w : World) (m : Md) (a : Option Addr) (c : Nat) (hm : InS w a m.ps) (hl : m.ps.length ≤ 1000000) (b0 : Bool) (hb0 : b0 = true ↔ RightM m) :
    Calls Tryz.prog 19 #[mV m a c] w fun e w' => e = .returned (.bool b0) ∧ Below w.heap.size w w' := by
  have HT := Lib.hid (fun W => together_calls W m a c _ rfl)
  have HA : Hid (∀ W, Below w.heap.size w W → ∀ b1, (b1 = true ↔ okPs m.ps) → Calls Tryz.prog 27 #[.slice a m.ps.length c] W fun e w' => e = .returned (.bool b1) ∧ Below W.heap.size W w') := Lib.hid (fun W hW b1 h1 => areRight_calls W a c _ m.ps rfl (hm.bel hW) b1 h1)
  have HS : Hid (∀ W, Below w.heap.size w W → ∀ b1, (b1 = true ↔ m = zero) → Calls Tryz.prog 10 #[mV m a c, mV zero none 0] W fun e w' => e = .returned (.bool b1) ∧ Below W.heap.size W w') := Lib.hid (fun W hW b1 h1 => same_calls W m zero a none c 0 (hm.bel hW) (InS.nil _ _) hl (by simp [zero]) b1 h1)
  have HB := Lib.hid hb0
  clear hm hb0
  cases hon : m.on with
  | false =>
    have HB2 : Hid (b0 = true ↔ m = zero) := Lib.hid (by have := HB.out; unfold RightM at this; rwa [hon, if_neg (by simp)] at this)
    have HS2 := Lib.hid (fun W hW => HS.out W hW b0 HB2.out)
    clear HB HB2 HS HA HT
    obtain ⟨on, bc, oi, oo, nl, rd, ps⟩ := m
    obtain rfl : on = false := hon
    unfold mV zero at HS2
    simp only at HS2
    unfold mV
    simp only
    go_enter Tryz.func19, Tryz.ntmps19
    go_wp2_with fail
    refine (HS2.out _ (bbox _)).mono ?_
    rintro e w2 ⟨rfl, hb⟩
    have HBL := Lib.hid (bstep (bbox _) hb)
    clear hb
    go_wp2_with fail
    go_ret
    exact ⟨rfl, HBL.out⟩
  | true =>
    have HB2 : Hid (b0 = true ↔ (0 ≤ m.rd ∧ m.rd ≤ 1000000000) ∧ (if m.bc then (m.oi = false ∧ m.oo = false) ∧ 0 < m.ps.length else ¬ (m.oi = true ∧ m.oo = true) ∧ m.ps.length = 0) ∧ okPs m.ps) := Lib.hid (by have := HB.out; unfold RightM at this; rwa [hon, if_pos rfl] at this)
    clear HB HS
    generalize hT : (if m.bc then !m.oi && !m.oo && decide (0 < m.ps.length) else !(m.oi && m.oo) && decide (m.ps.length = 0)) = tb at HT
    have hTi : tb = true ↔ (if m.bc then (m.oi = false ∧ m.oo = false) ∧ 0 < m.ps.length else ¬ (m.oi = true ∧ m.oo = true) ∧ m.ps.length = 0) := by
      rw [← hT]
      cases m.bc <;> cases m.oi <;> cases m.oo <;> simp
    rw [← hTi] at HB2
    clear hT hTi
    have HA1 := HA
    generalize okPs m.ps = K at HB2 HA
    clear HA1
    obtain ⟨on, bc, oi, oo, nl, rd, ps⟩ := m
    obtain rfl : on = true := hon
    unfold mV at HT ⊢
    simp only at HT HA HB2 ⊢
    by_cases h1 : 0 ≤ rd
    case neg =>
      obtain rfl := bf HB2.out (fun h => h1 h.1.1)
      go_enter Tryz.func19, Tryz.ntmps19
      go_wp2_with fail
      go_ret
      exact ⟨by first | rfl | simp, bbox _⟩
    by_cases h2 : rd ≤ 1000000000
    case neg =>
      obtain rfl := bf HB2.out (fun h => h2 h.1.2)
      go_enter Tryz.func19, Tryz.ntmps19
      go_wp2_with fail
      go_ret
      exact ⟨by first | rfl | simp, bbox _⟩
    cases tb with
    | false =>
      obtain rfl := bf HB2.out (fun h => by have := h.2.1; cases this)
      clear HB2 HA
      go_enter Tryz.func19, Tryz.ntmps19
      go_wp2_with fail
      refine (HT.out _).mono ?_
      rintro e w2 ⟨rfl, hb⟩
      have HBL := Lib.hid (bstep (bbox _) hb)
      clear hb
      go_wp2_with fail
      go_ret
      exact ⟨by first | rfl | simp, HBL.out⟩
    | true =>
      have HA2 := Lib.hid (fun W hW => HA.out W hW b0 (HB2.out.trans ⟨fun h => h.2.2, fun h => ⟨⟨h1, h2⟩, rfl, h⟩⟩))
      clear HB2 HA
      go_enter Tryz.func19, Tryz.ntmps19
      go_wp2_with fail
      refine (HT.out _).mono ?_
      rintro e w2 ⟨rfl, hb⟩
      have HBL := Lib.hid (bstep (bbox _) hb)
      have c6 : w2.cell? ⟨w.heap.size, 6, none⟩ = some (.slice a ps.length c) := (hb.cell (p := ⟨w.heap.size, 6, none⟩) (by simp)).trans (by rw [World.cell?_alloc_new]; rfl)
      clear hb
      go_wp2_with fail
      refine (HA2.out _ HBL.out).mono ?_
      rintro e w3 ⟨rfl, hb3⟩
      have HBL3 := Lib.hid (bstep HBL.out hb3)
      clear hb3
      go_wp2_with fail
      go_ret
      exact ⟨by first | rfl | simp, HBL3.out⟩
end Go.Proofs.YtjpbpdjomfkkeaaGreatDoor.Ma
