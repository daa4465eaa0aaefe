/- The checking package's Same of layer 7. No condition but bounds. -/
import Derived.Test.YtjfcdkmnccafaaaPa4
import Derived.Laws.StructEq
import Derived.Deep.QuietTactic
namespace Go.Proofs.Ytjfcdkmnccafaaa.Pa
open Go.ChangeShapes Go.WideShapes Go.ChangeAt Go.RowKit
theorem neqM (w : World) (x y : ByteArray) (z t : Int) : (binOp .neq 45 (.agg #[.string x, .int .i64 z]) (.agg #[.string y, .int .i64 t])).run Try.prog w = .ok (.bool (!((x.toList == y.toList) && (z == t)))) w := by
  have hS : Try.prog.underlying 45 = some (.struct (Try.prog.fieldsOf 45)) := by kernel_rfl
  have hp : Try.prog.stoodInHeld 45 = false := by kernel_rfl
  rw [run_neq_struct, show (10000 : Nat) = 9999 + 1 from rfl, run_equalIn_agg w 9999 45 _ _ hS hp]
  have u1 : Try.prog.underlying 9 = some .string := by kernel_rfl
  have u2 : Try.prog.underlying 2 = some (.int .i64) := by kernel_rfl
  have uM := Try.underlying45
  simp only [Program.fieldsOf, uM]
  go_simp
  by_cases h1 : x.toList = y.toList <;> by_cases h2 : z = t <;> simp [h1, h2]
theorem same_take {l r : List Mk} {j : Nat} (hl : j < l.length) (hr : j < r.length) (h : l.take j = r.take j) (he : l[j] = r[j]) : l.take (j + 1) = r.take (j + 1) := by
  rw [← List.take_append_getElem hl, ← List.take_append_getElem hr, h, he]
theorem same_not {l r : List Mk} {j : Nat} (hl : j < l.length) (hr : j < r.length) (he : l[j] ≠ r[j]) : l ≠ r := fun h => he (by subst h; rfl)
theorem beq_toListBytes_eq {x y : ByteArray} (h : x.toList = y.toList) : x = y := by
  rw [ByteArray.toList_eq, ByteArray.toList_eq] at h
  obtain ⟨x⟩ := x
  obtain ⟨y⟩ := y
  exact congrArg ByteArray.mk (Array.toList_inj.1 h)
theorem mk_eq {x y : ByteArray} {z t : Int} (h : ((x.toList == y.toList) && (z == t)) = true) : (x, z) = (y, t) := by
  simp only [Bool.and_eq_true, beq_iff_eq] at h
  rw [← beq_toListBytes_eq h.1, h.2]
theorem mk_ne {x y : ByteArray} {z t : Int} (h : ((x.toList == y.toList) && (z == t)) = false) : (x, z) ≠ (y, t) := by
  rintro ⟨⟩
  simp at h
set_option maxHeartbeats 4000000 in
set_option maxRecDepth 100000 in
theorem refSame_calls (w : World) (a b : Option Addr) (c d n m : Nat) (l r : List Mk) (hl : l.length = n) (hr : r.length = m) (hn : n ≤ 1000000) (hm : m ≤ 1000000) (hI : InM w a l) (hJ : InM w b r) :
    Calls Try.prog 18 #[.slice a n c, .slice b m d] w fun e w' => e = .returned (.bool (decide (l = r))) ∧ Below w.heap.size w w' := by
  have HI := Lib.hid hI
  have HJ := Lib.hid hJ
  have HL := Lib.hid hl
  have HR := Lib.hid hr
  clear hI hJ hl hr
  go_enter Try.func18, Try.ntmps18
  by_cases hL : n = m
  case neg =>
    have h2 : ((n : Int) == (m : Int)) = false := by rw [beq_eq_false_iff_ne]; omega
    have h3 : ((n : Int) != (m : Int)) = true := by rw [bne_iff_ne]; omega
    have HX : Hid (l ≠ r) := Lib.hid (fun h => hL (by rw [← HL.out, ← HR.out, h]))
    clear hL
    go_wp2_with fail
    go_ret
    exact ⟨by rw [decide_eq_false HX.out]; rfl, Below.refl _ _⟩
  case pos =>
    subst hL
    go_wp2_with fail
    go_loopg [5, 13] (n + 1) (fun g _ vi wr => ∃ j : Nat, vi = .int .i64 j ∧ j ≤ n ∧ n - j ≤ g ∧ Hid (Below w.heap.size w wr) ∧ Hid (l.take j = r.take j))
    case atStart => exact ⟨0, rfl, by omega, by omega, Lib.hid (Below.refl _ _), Lib.hid rfl⟩
    case round =>
      obtain ⟨j, rfl, hj, hg, HB, HE⟩ := hrel
      by_cases hjl : j < n
      case neg =>
        obtain rfl : j = n := by omega
        have HZ : Hid (l = r) := Lib.hid (by have h := HE.out; rwa [List.take_of_length_le (Nat.le_of_eq HL.out), List.take_of_length_le (Nat.le_of_eq HR.out)] at h)
        go_wp2_with fail
        go_ret
        exact ⟨by rw [decide_eq_true HZ.out]; rfl, HB.out⟩
      case pos =>
        have HT : Hid (∀ he : l[j]'(by rw [HL.out]; exact hjl) = r[j]'(by rw [HR.out]; exact hjl), l.take (j + 1) = r.take (j + 1)) := Lib.hid (fun he => same_take _ _ HE.out he)
        have HNO : Hid (∀ he : l[j]'(by rw [HL.out]; exact hjl) ≠ r[j]'(by rw [HR.out]; exact hjl), l ≠ r) := Lib.hid (fun he => same_not _ _ he)
        obtain ⟨g, rfl, h1, h2⟩ := (HI.out.below HB.out) j (by rw [HL.out]; exact hjl)
        obtain ⟨g2, rfl, h3, h4⟩ := (HJ.out.below HB.out) j (by rw [HR.out]; exact hjl)
        generalize l[j]'(by rw [HL.out]; exact hjl) = q at *
        generalize r[j]'(by rw [HR.out]; exact hjl) = p at *
        obtain ⟨x, z⟩ := q
        obtain ⟨y, t⟩ := p
        have h1 : wr.cell? ⟨g, j * 2, none⟩ = some (.string x) := h1
        have h2 : wr.cell? ⟨g, j * 2 + 1, none⟩ = some (.int .i64 z) := h2
        have h3 : wr.cell? ⟨g2, j * 2, none⟩ = some (.string y) := h3
        have h4 : wr.cell? ⟨g2, j * 2 + 1, none⟩ = some (.int .i64 t) := h4
        have hjc : (j : Int) < (n : Int) := by omega
        have hgt : Try.prog.eqGuardType Try.prog.depth 45 = false := by kernel_rfl
        have hnq := fun w2 => neqM w2 x y z t
        cases he : ((x.toList == y.toList) && (z == t))
        case true =>
          simp only [he, Bool.not_true] at hnq
          have HT2 := Lib.hid (HT.out (mk_eq he))
          clear he
          go_wp2_with fail
          go_quiet (fail)
          go_wp2_with fail
          go_roundg (gk - 1)
          case measure => omega
          case rel => exact ⟨j + 1, by go_num, by omega, by omega, Lib.hid (HB.out.trans ⟨rfl, rfl, rfl, Nat.le_refl _, fun _ _ => rfl⟩), HT2⟩
        case false =>
          simp only [he, Bool.not_false] at hnq
          have HN2 := Lib.hid (HNO.out (mk_ne he))
          clear he
          go_wp2_with fail
          go_quiet (fail)
          go_wp2_with fail
          go_ret
          exact ⟨by rw [decide_eq_false HN2.out]; rfl, HB.out.trans ⟨rfl, rfl, rfl, Nat.le_refl _, fun _ _ => rfl⟩⟩
end Go.Proofs.Ytjfcdkmnccafaaa.Pa
