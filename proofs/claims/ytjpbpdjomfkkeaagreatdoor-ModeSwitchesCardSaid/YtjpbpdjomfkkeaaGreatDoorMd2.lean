/- The document's Right of layer 13. No condition but bounds. -/
import Derived.Test.YtjpbpdjomfkkeaaGreatDoorMd1
namespace Go.Proofs.YtjpbpdjomfkkeaaGreatDoor.Ma
set_option linter.unusedVariables false
set_option linter.unusedSimpArgs false
open Go.ChangeShapes Go.WideShapes Go.ChangeAt Go.RowKit
open Go.Proofs.YtjpbpdjomfkkeaaGreatDoor.Sp (bstep bbox)
set_option maxHeartbeats 16000000 in
set_option maxRecDepth 100000 in
theorem refRight_calls (w : World) (m : Md) (a : Option Addr) (c : Nat) (hm : InS w a m.ps) (hlc : m.ps.length ≤ c) (hl : m.ps.length ≤ 1000000) (b0 : Bool) (hb0 : b0 = true ↔ RightM m) :
    Calls Tryz.prog 6 #[mV m a c] w fun e w' => e = .returned (.bool b0) ∧ Below w.heap.size w w' := by
  have HS : Hid (∀ W, Below w.heap.size w W → ∀ b1, (b1 = true ↔ m = zero) → Calls Tryz.prog 9 #[mV m a c, mV zero none 0] W fun e w' => e = .returned (.bool b1) ∧ Below W.heap.size W w') := Lib.hid (fun W hW b1 h1 => refSame_calls W m zero a none c 0 (hm.bel hW) (InS.nil _ _) hl (by simp [zero]) b1 h1)
  have HI := Lib.hid hm
  have HB := Lib.hid hb0
  clear hm hb0
  cases hon : m.on with
  | false =>
    have HB2 : Hid (b0 = true ↔ m = zero) := Lib.hid (by have := HB.out; unfold RightM at this; rwa [hon, if_neg (by simp)] at this)
    have HS2 := Lib.hid (fun W hW => HS.out W hW b0 HB2.out)
    clear HB HB2 HS
    obtain ⟨on, bc, oi, oo, nl, rd, ps⟩ := m
    obtain rfl : on = false := hon
    unfold mV zero at HS2
    simp only at HS2
    unfold mV
    simp only
    go_enter Tryz.func6, Tryz.ntmps6
    go_wp2_with fail
    refine (HS2.out _ (bbox _)).mono ?_
    rintro e w2 ⟨rfl, hb⟩
    have HBL := Lib.hid (bstep (bbox _) hb)
    clear hb
    go_wp2_with fail
    go_ret
    exact ⟨rfl, HBL.out⟩
  | true =>
    have HB2 : Hid (b0 = true ↔ (0 ≤ m.rd ∧ m.rd ≤ 1000000000) ∧ (if m.bc then (m.oi = false ∧ m.oo = false) ∧ 0 < m.ps.length else ¬ (m.oi = true ∧ m.oo = true) ∧ m.ps.length = 0) ∧ okPs m.ps) := Lib.hid (by have := HB.out; unfold RightM at this; rwa [hon, if_pos rfl] at this)
    clear HB HS
    obtain ⟨on, bc, oi, oo, nl, rd, ps⟩ := m
    obtain rfl : on = true := hon
    unfold mV
    simp only at HB2 HI hl hlc ⊢
    by_cases h1 : rd < 0
    case pos =>
      obtain rfl := bf HB2.out (fun h => by have := h.1.1; omega)
      go_enter Tryz.func6, Tryz.ntmps6
      go_wp2_with fail
      go_ret
      exact ⟨by first | rfl | simp, bbox _⟩
    by_cases h2 : 1000000000 < rd
    case pos =>
      obtain rfl := bf HB2.out (fun h => by have := h.1.2; omega)
      go_enter Tryz.func6, Tryz.ntmps6
      go_wp2_with fail
      go_ret
      exact ⟨by first | rfl | simp, bbox _⟩
    have h12 : 0 ≤ rd ∧ rd ≤ 1000000000 := ⟨by omega, by omega⟩
    cases bc with
    | false =>
      cases oi with
      | false =>
        have HB3 : Hid (b0 = true ↔ ps.length = 0) := Lib.hid (HB2.out.trans ⟨fun h => by have := h.2.1; simpa using this, fun h => ⟨h12, by simpa using h, by have e := List.length_eq_zero_iff.1 h; subst e; exact ⟨by simp, fun i hi => absurd hi (by simp)⟩⟩⟩)
        clear HB2
        cases oo <;>
        · go_enter Tryz.func6, Tryz.ntmps6
          go_wp2_with fail
          go_ret
          have e : ((ps.length : Int) == 0) = b0 := by
            rw [Bool.eq_iff_iff, HB3.out, beq_iff_eq]
            omega
          exact ⟨by rw [← e]; rfl, bbox _⟩
      | true =>
        cases oo with
        | false =>
          have HB3 : Hid (b0 = true ↔ ps.length = 0) := Lib.hid (HB2.out.trans ⟨fun h => by have := h.2.1; simpa using this, fun h => ⟨h12, by simpa using h, by have e := List.length_eq_zero_iff.1 h; subst e; exact ⟨by simp, fun i hi => absurd hi (by simp)⟩⟩⟩)
          clear HB2
          go_enter Tryz.func6, Tryz.ntmps6
          go_wp2_with fail
          go_ret
          have e : ((ps.length : Int) == 0) = b0 := by
            rw [Bool.eq_iff_iff, HB3.out, beq_iff_eq]
            omega
          exact ⟨by rw [← e]; rfl, bbox _⟩
        | true =>
          obtain rfl := bf HB2.out (fun h => by have := h.2.1; simp at this)
          go_enter Tryz.func6, Tryz.ntmps6
          go_wp2_with fail
          go_ret
          exact ⟨by first | rfl | simp, bbox _⟩
    | true =>
      cases oi with
      | true =>
        obtain rfl := bf HB2.out (fun h => by have := h.2.1; simp at this)
        cases oo <;>
        · go_enter Tryz.func6, Tryz.ntmps6
          go_wp2_with fail
          go_ret
          exact ⟨by first | rfl | simp, bbox _⟩
      | false =>
        cases oo with
        | true =>
          obtain rfl := bf HB2.out (fun h => by have := h.2.1; simp at this)
          go_enter Tryz.func6, Tryz.ntmps6
          go_wp2_with fail
          go_ret
          exact ⟨by first | rfl | simp, bbox _⟩
        | false =>
          have HB3 : Hid (b0 = true ↔ 0 < ps.length ∧ okAll ps) := Lib.hid (HB2.out.trans ⟨fun h => ⟨by have := h.2.1; simp only [if_true] at this; exact this.2, (okAll_iff _).2 h.2.2⟩, fun h => ⟨h12, by simpa using h.1, (okAll_iff _).1 h.2⟩⟩)
          clear HB2
          obtain ⟨n, hn⟩ : ∃ n, ps.length = n := ⟨_, rfl⟩
          have HN := Lib.hid hn
          rw [hn]
          rw [hn] at hl hlc
          clear hn
          go_enter Tryz.func6, Tryz.ntmps6
          go_wp2_with fail
          have HX := Lib.hid (CellL.new w [.bool true, .bool true, .bool false, .bool false, .bool nl, .int .i64 rd, .slice a n c] 24)
          have HW := Lib.hid (bbox (w := w) (.cells #[.bool true, .bool true, .bool false, .bool false, .bool nl, .int .i64 rd, .slice a n c] 24))
          generalize (w.alloc (.cells #[.bool true, .bool true, .bool false, .bool false, .bool nl, .int .i64 rd, .slice a n c] 24)) = w1 at *
          have x6 := HX.out.at 6 rfl
          go_loopg [3, 4, 6, 55] (n + 1) (fun g _ _ _ s55 wr => ∃ i : Nat, s55 = .int .i64 i ∧ i ≤ n ∧ n - i ≤ g ∧ wr = w1 ∧ Hid (∀ k (hk : k < ps.length), k < i → ps[k].size ≤ 512 ∧ ∀ j (hj : j < k), Fol (ps[j]'(by omega)) ps[k]))
          case atStart => exact ⟨0, rfl, by omega, by omega, rfl, Lib.hid (fun _ _ h => absurd h (Nat.not_lt_zero _))⟩
          case round =>
            obtain ⟨i, rfl, hi, hg, rfl, HK⟩ := hrel
            obtain ⟨gO, hgO⟩ : ∃ g, gk = g := ⟨_, rfl⟩
            by_cases hil : i < n
            case neg =>
              have hic : ¬ (i : Int) < (n : Int) := by omega
              by_cases hn0 : 0 < n
              · have hn0c : (0 : Int) < (n : Int) := by omega
                by_cases hn32 : n ≤ 32
                · have hn32c : (n : Int) ≤ 32 := by omega
                  obtain rfl := bt HB3.out ⟨by rw [HN.out]; exact hn0, by rw [HN.out]; exact hn32, fun k hk => HK.out k hk (by have := HN.out; omega)⟩
                  go_wp2_with fail
                  go_ret
                  exact ⟨by first | rfl | simp, HW.out⟩
                · have hn32c : ¬ (n : Int) ≤ 32 := by omega
                  obtain rfl := bf HB3.out (fun h => by have := h.2.1; rw [HN.out] at this; omega)
                  go_wp2_with fail
                  go_ret
                  exact ⟨by first | rfl | simp, HW.out⟩
              · have hn0c : ¬ (0 : Int) < (n : Int) := by omega
                obtain rfl := bf HB3.out (fun h => by have := h.1; have := HN.out; omega)
                go_wp2_with fail
                go_ret
                exact ⟨by first | rfl | simp, HW.out⟩
            case pos =>
              have hic : (i : Int) < (n : Int) := by omega
              have hi1 : i < ps.length := by have := HN.out; omega
              have hin : (i : Int) ≤ (c : Int) := by omega
              obtain ⟨B, o, rfl, hlt, hc⟩ := HI.out (by have := HN.out; omega)
              have HC : Hid (∀ k (hk : k < ps.length), wr.cell? ⟨B, o + k, none⟩ = some (.string ps[k])) := Lib.hid (fun k hk => (HW.out.cell (p := ⟨B, o + k, none⟩) hlt).trans (hc k hk))
              have c0 := HC.out i hi1
              clear hc
              by_cases hs : 512 < ps[i].size
              case pos =>
                obtain rfl := bf HB3.out (fun h => by have := (h.2.2 i hi1).1; omega)
                generalize ps[i] = q at *
                have hsc : (512 : Int) < (q.size : Int) := by omega
                go_wp2_with fail
                go_ret
                exact ⟨rfl, HW.out⟩
              have hsc : ¬ (512 : Int) < (ps[i].size : Int) := by omega
              have HKn : Hid ((∀ j (hj : j < i), Fol (ps[j]'(by omega)) ps[i]) → ∀ k (hk : k < ps.length), k < i + 1 → ps[k].size ≤ 512 ∧ ∀ j (hj : j < k), Fol (ps[j]'(by omega)) ps[k]) := Lib.hid (fun h k hk hki => by
                by_cases e : k = i
                · subst e; exact ⟨by omega, h⟩
                · exact HK.out k hk (by omega))
              have HNo : Hid (∀ j (hj : j < i), ¬ Fol (ps[j]'(by omega)) ps[i] → b0 = false) := Lib.hid (fun j hj h => bf HB3.out (fun hh => h ((hh.2.2 i hi1).2 j hj)))
              have HQ : Hid (∀ j (hj : j < i) (x : BA), x = ps[j]'(by omega) → wr.cell? ⟨B, o + j, none⟩ = some (.string x)) := Lib.hid (fun j hj x hx => by subst hx; exact HC.out j _)
              clear HK HC hs
              obtain ⟨p, hp⟩ : ∃ p, ps[i] = p := ⟨_, rfl⟩
              rw [hp] at c0 hsc HKn HNo
              clear hp
              have hii : (0 : Int) ≤ (i : Int) := by omega
              go_wp2_with fail
              go_loopg [6, 68] (i + 1) (fun g _ s68 wr2 => ∃ j : Nat, s68 = .int .i64 j ∧ j ≤ i ∧ i - j ≤ g ∧ wr2 = wr ∧ Hid (∀ k (hk : k < i), k < j → Fol (ps[k]'(by omega)) p))
              case atStart => exact ⟨0, rfl, by omega, by omega, rfl, Lib.hid (fun _ _ h => absurd h (Nat.not_lt_zero _))⟩
              case round =>
                obtain ⟨j, rfl, hj, hg2, rfl, HF⟩ := hrel
                by_cases hji : j < i
                case neg =>
                  have hjc : ¬ (j : Int) < (i : Int) := by omega
                  have HK2 := Lib.hid (HKn.out (fun k hk => HF.out k hk (by omega)))
                  clear HKn HNo HF
                  go_wp2_with fail
                  go_roundg (gO - 1)
                  case measure => omega
                  case rel => exact ⟨i + 1, by go_num, by omega, by omega, rfl, HK2⟩
                case pos =>
                  have hjc : (j : Int) < (i : Int) := by omega
                  have HFn : Hid (Fol (ps[j]'(by omega)) p → ∀ k (hk : k < i), k < j + 1 → Fol (ps[k]'(by omega)) p) := Lib.hid (fun h k hk hkj => by
                    by_cases e : k = j
                    · subst e; exact h
                    · exact HF.out k hk (by omega))
                  have HN1 := Lib.hid (HNo.out j hji)
                  obtain ⟨q, hq⟩ : ∃ q, ps[j]'(by omega) = q := ⟨_, rfl⟩
                  have c1 := HQ.out j hji q hq.symm
                  rw [hq] at HFn HN1
                  clear hq HF
                  cases hlt2 : Op.bytesLess q.toList p.toList with
                  | false =>
                    obtain rfl := HN1.out (fun h => by have := h.1; unfold Ia.lt at this; rw [hlt2] at this; cases this)
                    clear HFn HN1 HKn HNo
                    go_wp2_with fail
                    go_ret
                    exact ⟨rfl, HW.out⟩
                  | true =>
                    by_cases hsz : q.size ≤ p.size
                    case neg =>
                      have hszc : ¬ (q.size : Int) ≤ (p.size : Int) := by omega
                      have HF2 := Lib.hid (HFn.out ⟨hlt2, fun h => by have := h.length_le; rw [tl_len, tl_len] at this; omega⟩)
                      clear HFn HN1
                      go_wp2_with fail
                      go_roundg (gk - 1)
                      case measure => omega
                      case rel => exact ⟨j + 1, by go_num, by omega, by omega, rfl, HF2⟩
                    case pos =>
                      have hszc : (q.size : Int) ≤ (p.size : Int) := by omega
                      have HP := Lib.hid (pre_take hsz)
                      generalize hx : p.extract 0 q.size = x at HP
                      cases hxe : (x.toList == q.toList) with
                      | true =>
                        rw [hxe] at HP
                        obtain rfl := HN1.out (fun h => h.2 (HP.out.1 rfl))
                        clear HFn HN1 HKn HNo HP
                        go_wp2_with fail
                        go_ret
                        exact ⟨rfl, HW.out⟩
                      | false =>
                        rw [hxe] at HP
                        have HF2 := Lib.hid (HFn.out ⟨hlt2, fun h => by have := HP.out.2 h; cases this⟩)
                        clear HFn HN1 HP
                        go_wp2_with fail
                        go_roundg (gk - 1)
                        case measure => omega
                        case rel => exact ⟨j + 1, by go_num, by omega, by omega, rfl, HF2⟩
end Go.Proofs.YtjpbpdjomfkkeaaGreatDoor.Ma
