/- Items held against each other: item.Same, the checking package's Same. No condition. -/
import Derived.Test.YtjjphpklifbipaaDoorIb1
import Derived.Laws.StructEq
import Derived.BigQuiet
namespace Go.Proofs.YtjjphpklifbipaaDoor.Ia
open Go.ChangeShapes Go.WideShapes Go.ChangeAt Go.RowKit
theorem neqF (w : World) (x y z t : ByteArray) : (binOp .neq 30 (.agg #[.string x, .string y]) (.agg #[.string z, .string t])).run Tryd.prog w = .ok (.bool (!((x.toList == z.toList) && (y.toList == t.toList)))) w := by
  have hS : Tryd.prog.underlying 30 = some (.struct (Tryd.prog.fieldsOf 30)) := by kernel_rfl
  have hp : Tryd.prog.stoodInHeld 30 = false := by kernel_rfl
  rw [run_neq_struct, show (10000 : Nat) = 9999 + 1 from rfl, run_equalIn_agg w 9999 30 _ _ hS hp]
  have u1 : Tryd.prog.underlying 9 = some .string := by kernel_rfl
  have uM := Tryd.underlying30
  simp only [Program.fieldsOf, uM]
  go_simp
  by_cases h1 : x.toList = z.toList <;> by_cases h2 : y.toList = t.toList <;> simp [h1, h2]
theorem same_take {l r : List Fd} {j : Nat} (hl : j < l.length) (hr : j < r.length) (h : l.take j = r.take j) (he : l[j] = r[j]) : l.take (j + 1) = r.take (j + 1) := by
  rw [← List.take_append_getElem hl, ← List.take_append_getElem hr, h, he]
theorem same_not {l r : List Fd} {j : Nat} (hl : j < l.length) (hr : j < r.length) (he : l[j] ≠ r[j]) : l ≠ r := fun h => he (by subst h; rfl)
theorem fd_eq {x y z t : ByteArray} (h : ((x.toList == z.toList) && (y.toList == t.toList)) = true) : (x, y) = (z, t) := by
  simp only [Bool.and_eq_true, beq_iff_eq] at h
  rw [ba_eq h.1, ba_eq h.2]
theorem fd_ne {x y z t : ByteArray} (h : ((x.toList == z.toList) && (y.toList == t.toList)) = false) : (x, y) ≠ (z, t) := by
  rintro ⟨⟩
  simp at h
set_option maxHeartbeats 4000000 in
set_option maxRecDepth 100000 in
theorem equal_calls (w : World) (a b : Option Addr) (c d n m : Nat) (l r : List Fd) (hl : l.length = n) (hr : r.length = m) (hn : n ≤ 9223372036854775807) (hm : m ≤ 9223372036854775807) (hI : InF w a l) (hJ : InF w b r) (b0 : Bool) (hb0 : b0 = true ↔ l = r) :
    Calls Tryd.prog 29 #[.slice a n c, .slice b m d] w fun e w' => e = .returned (.bool b0) ∧ Below w.heap.size w w' := by
  have HI := Lib.hid hI
  have HJ := Lib.hid hJ
  have HL := Lib.hid hl
  have HR := Lib.hid hr
  have HB0 := Lib.hid hb0
  clear hI hJ hl hr hb0
  by_cases hL : n = m
  case neg =>
    have h2 : ((n : Int) == (m : Int)) = false := by rw [beq_eq_false_iff_ne]; omega
    have h3 : ((n : Int) != (m : Int)) = true := by rw [bne_iff_ne]; omega
    obtain rfl : b0 = false := by
      cases b0 with
      | false => rfl
      | true => exact absurd (HB0.out.1 rfl) (fun h => hL (by rw [← HL.out, ← HR.out, h]))
    clear hL
    go_enter Tryd.func29, Tryd.ntmps29
    go_wp2_with fail
    go_ret
    exact ⟨rfl, Below.refl _ _⟩
  case pos =>
    subst hL
    go_enter Tryd.func29, Tryd.ntmps29
    go_wp2_with fail
    go_loopg [5, 13] (n + 1) (fun g _ vi wr => ∃ j : Nat, vi = .int .i64 j ∧ j ≤ n ∧ n - j ≤ g ∧ Hid (Below w.heap.size w wr) ∧ Hid (l.take j = r.take j))
    case atStart => exact ⟨0, rfl, by omega, by omega, Lib.hid (Below.refl _ _), Lib.hid rfl⟩
    case round =>
      obtain ⟨j, rfl, hj, hg, HB, HE⟩ := hrel
      by_cases hjl : j < n
      case neg =>
        obtain rfl : j = n := by omega
        obtain rfl : b0 = true := HB0.out.2 (by have h := HE.out; rwa [List.take_of_length_le (Nat.le_of_eq HL.out), List.take_of_length_le (Nat.le_of_eq HR.out)] at h)
        go_wp2_with fail
        go_ret
        exact ⟨rfl, HB.out⟩
      case pos =>
        have HT : Hid (∀ he : l[j]'(by rw [HL.out]; exact hjl) = r[j]'(by rw [HR.out]; exact hjl), l.take (j + 1) = r.take (j + 1)) := Lib.hid (fun he => same_take _ _ HE.out he)
        have HNO : Hid (∀ he : l[j]'(by rw [HL.out]; exact hjl) ≠ r[j]'(by rw [HR.out]; exact hjl), l ≠ r) := Lib.hid (fun he => same_not _ _ he)
        obtain ⟨g, o, rfl, -, hc⟩ := (HI.out.below (Nat.le_refl _) HB.out) (by rw [HL.out]; omega)
        obtain ⟨h1, h2⟩ := hc j (by rw [HL.out]; exact hjl)
        obtain ⟨g2, o2, rfl, -, hc2⟩ := (HJ.out.below (Nat.le_refl _) HB.out) (by rw [HR.out]; omega)
        obtain ⟨h3, h4⟩ := hc2 j (by rw [HR.out]; exact hjl)
        clear hc hc2
        generalize l[j]'(by rw [HL.out]; exact hjl) = q at *
        generalize r[j]'(by rw [HR.out]; exact hjl) = p at *
        obtain ⟨x, z⟩ := q
        obtain ⟨y, t⟩ := p
        have h1 : wr.cell? ⟨g, o + j * 2, none⟩ = some (.string x) := h1
        have h2 : wr.cell? ⟨g, o + j * 2 + 1, none⟩ = some (.string z) := h2
        have h3 : wr.cell? ⟨g2, o2 + j * 2, none⟩ = some (.string y) := h3
        have h4 : wr.cell? ⟨g2, o2 + j * 2 + 1, none⟩ = some (.string t) := h4
        have hjc : (j : Int) < (n : Int) := by omega
        have hgt : Tryd.prog.eqGuardType Tryd.prog.depth 30 = false := by kernel_rfl
        have hnq := fun w2 => neqF w2 x z y t
        cases he : ((x.toList == y.toList) && (z.toList == t.toList))
        case true =>
          simp only [he, Bool.not_true] at hnq
          have HT2 := Lib.hid (HT.out (fd_eq he))
          clear he
          go_wp2_with fail
          go_quiet (fail)
          go_wp2_with fail
          go_roundg (gk - 1)
          case measure => omega
          case rel => exact ⟨j + 1, by go_num, by omega, by omega, Lib.hid (HB.out.trans ⟨rfl, rfl, rfl, Nat.le_refl _, fun _ _ => rfl⟩), HT2⟩
        case false =>
          simp only [he, Bool.not_false] at hnq
          have HN2 := Lib.hid (HNO.out (fd_ne he))
          obtain rfl : b0 = false := by
            cases b0 with
            | false => rfl
            | true => exact absurd (HB0.out.1 rfl) HN2.out
          clear he
          go_wp2_with fail
          go_quiet (fail)
          go_wp2_with fail
          go_ret
          exact ⟨rfl, HB.out.trans ⟨rfl, rfl, rfl, Nat.le_refl _, fun _ _ => rfl⟩⟩
end Go.Proofs.YtjjphpklifbipaaDoor.Ia
