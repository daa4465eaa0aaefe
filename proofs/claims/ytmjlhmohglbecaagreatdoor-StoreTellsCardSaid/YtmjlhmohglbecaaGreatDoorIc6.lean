/- item.Same, the checking package's Same, at any two items. No condition but bounds. -/
import Derived.Test.YtmjlhmohglbecaaGreatDoorIc4
namespace Go.Proofs.YtmjlhmohglbecaaGreatDoor.Ia
open Go.ChangeShapes Go.WideShapes Go.ChangeAt Go.RowKit
theorem bfI {b : Bool} {P : Prop} (h : b = true ↔ P) (k : ¬ P) : b = false := by
  cases b with
  | false => rfl
  | true => exact absurd (h.1 rfl) k
theorem some_bI (P : Prop) : ∃ b : Bool, b = true ↔ P := by
  by_cases h : P
  · exact ⟨true, ⟨fun _ => h, fun _ => rfl⟩⟩
  · exact ⟨false, ⟨fun k => (by cases k), fun k => absurd k h⟩⟩
theorem drew_belowI {w w2 : World} (h : Below w.heap.size w w2) (n : Nat) : Below w.heap.size w (w2.drewN n) := h.trans ⟨rfl, rfl, rfl, Nat.le_refl _, fun _ _ => rfl⟩
theorem Cell3.drawn {w : World} {b : Nat} {v0 v1 v2 : Value} (h : Cell3 w b v0 v1 v2) (n : Nat) : Cell3 (w.drewN n) b v0 v1 v2 := h.below ⟨rfl, rfl, rfl, Nat.le_refl _, fun _ _ => rfl⟩
set_option maxHeartbeats 8000000 in
set_option maxRecDepth 100000 in
theorem refSame_calls (w : World) (k1 k2 : Int) (t1 t2 : ByteArray) (a b : Option Addr) (c d n m : Nat) (l r : List Fd) (hl : l.length = n) (hr : r.length = m) (hn : n ≤ 9223372036854775807) (hm : m ≤ 9223372036854775807) (hI : InF w a l) (hJ : InF w b r) (b0 : Bool) (hb0 : b0 = true ↔ (k1 = k2 ∧ t1 = t2 ∧ l = r)) :
    Calls Tryz.prog 21 #[.agg #[.int .i64 k1, .string t1, .slice a n c], .agg #[.int .i64 k2, .string t2, .slice b m d]] w fun e w' => e = .returned (.bool b0) ∧ Below w.heap.size w w' := by
  have HI := Lib.hid hI
  have HJ := Lib.hid hJ
  have HL := Lib.hid hl
  have HR := Lib.hid hr
  have HB0 := Lib.hid hb0
  have HC1 := Lib.hid (fun O => (Cell3.new w (.int .i64 k1) (.string t1) (.slice a n c) 31).alloc O)
  have HC2 := Lib.hid (fun O => Cell3.new2 (w.alloc O) (w.heap.size + 1) (by simp) (.int .i64 k2) (.string t2) (.slice b m d) 31)
  clear hI hJ hl hr hb0
  by_cases hk : k1 = k2
  case neg =>
    have hkb : (k1 != k2) = true := by rw [bne_iff_ne]; exact hk
    obtain rfl := bfI HB0.out (fun h => hk h.1)
    clear hk HB0
    go_enter Tryz.func21, Tryz.ntmps21
    go_wp2_with fail
    go_ret
    exact ⟨rfl, bstep (bbox _) (bbox _)⟩
  case pos =>
  have hkb : (k1 != k2) = false := by rw [hk]; simp
  cases ht0 : (t1.toList == t2.toList)
  case false =>
    have ht : (!(t1.toList == t2.toList)) = true := by rw [ht0]; rfl
    obtain rfl := bfI HB0.out (fun h => by rw [h.2.1] at ht0; simp at ht0)
    clear hk HB0
    go_enter Tryz.func21, Tryz.ntmps21
    go_wp2_with fail
    go_ret
    exact ⟨rfl, bstep (bbox _) (bbox _)⟩
  case true =>
  have ht : (!(t1.toList == t2.toList)) = false := by rw [ht0]; rfl
  have HK : Hid (k1 = k2 ∧ t1 = t2) := Lib.hid ⟨hk, ba_eq (eq_of_beq ht0)⟩
  clear hk ht0
  by_cases hL : n = m
  case neg =>
    have h3 : ((n : Int) != (m : Int)) = true := by rw [bne_iff_ne]; omega
    obtain rfl := bfI HB0.out (fun h => hL (by rw [← HL.out, ← HR.out, h.2.2]))
    clear hL
    go_enter Tryz.func21, Tryz.ntmps21
    go_wp2_with fail
    go_ret
    exact ⟨rfl, bstep (bbox _) (bbox _)⟩
  case pos =>
    subst hL
    go_enter Tryz.func21, Tryz.ntmps21
    go_wp2_with fail
    go_loopg [5, 30] (n + 1) (fun g _ vi wr => ∃ j : Nat, vi = .int .i64 j ∧ j ≤ n ∧ n - j ≤ g ∧ Hid (Below w.heap.size w wr) ∧ Hid (l.take j = r.take j) ∧ Hid (Cell3 wr w.heap.size (.int .i64 k1) (.string t1) (.slice a n c)) ∧ Hid (Cell3 wr (w.heap.size + 1) (.int .i64 k2) (.string t2) (.slice b n d)))
    case atStart => exact ⟨0, rfl, by omega, by omega, Lib.hid (bstep (bbox _) (bbox _)), Lib.hid rfl, Lib.hid (HC1.out _), Lib.hid (HC2.out _)⟩
    case round =>
      obtain ⟨j, rfl, hj, hg, HB, HE, H1, H2⟩ := hrel
      clear HC1 HC2
      by_cases hjl : j < n
      case neg =>
        obtain rfl : j = n := by omega
        obtain rfl : b0 = true := HB0.out.2 ⟨HK.out.1, HK.out.2, by have h := HE.out; rwa [List.take_of_length_le (Nat.le_of_eq HL.out), List.take_of_length_le (Nat.le_of_eq HR.out)] at h⟩
        go_wp2_with fail
        go_ret
        exact ⟨rfl, HB.out⟩
      case pos =>
        have HT : Hid (∀ he : l[j]'(by rw [HL.out]; exact hjl) = r[j]'(by rw [HR.out]; exact hjl), l.take (j + 1) = r.take (j + 1)) := Lib.hid (fun he => same_take _ _ HE.out he)
        have HNO : Hid (∀ he : l[j]'(by rw [HL.out]; exact hjl) ≠ r[j]'(by rw [HR.out]; exact hjl), l ≠ r) := Lib.hid (fun he => same_not _ _ he)
        obtain ⟨g, o, rfl, -, hc⟩ := (HI.out.below (Nat.le_refl _) HB.out) (by rw [HL.out]; omega)
        obtain ⟨h1, h2⟩ := hc j (by rw [HL.out]; exact hjl)
        obtain ⟨g2, o2, rfl, -, hc2⟩ := (HJ.out.below (Nat.le_refl _) HB.out) (by rw [HR.out]; omega)
        obtain ⟨h3, h4⟩ := hc2 j (by rw [HR.out]; exact hjl)
        have q1 := H1.out.c2
        have q2 := H2.out.c2
        have HB2 := Lib.hid (fun n => drew_belowI HB.out n)
        have H1d := Lib.hid (fun n => H1.out.drawn n)
        have H2d := Lib.hid (fun n => H2.out.drawn n)
        clear hc hc2
        generalize l[j]'(by rw [HL.out]; exact hjl) = q at *
        generalize r[j]'(by rw [HR.out]; exact hjl) = p at *
        obtain ⟨x, z⟩ := q
        obtain ⟨y, t⟩ := p
        have h1 : wr.cell? ⟨g, o + j * 2, none⟩ = some (.string x) := h1
        have h2 : wr.cell? ⟨g, o + j * 2 + 1, none⟩ = some (.string z) := h2
        have h3 : wr.cell? ⟨g2, o2 + j * 2, none⟩ = some (.string y) := h3
        have h4 : wr.cell? ⟨g2, o2 + j * 2 + 1, none⟩ = some (.string t) := h4
        have hjc : (j : Int) < (n : Int) := by omega
        have hgt : Tryz.prog.eqGuardType Tryz.prog.depth 69 = false := by kernel_rfl
        have hnq := fun w2 => neqF w2 x z y t
        cases he : ((x.toList == y.toList) && (z.toList == t.toList))
        case true =>
          simp only [he, Bool.not_true] at hnq
          have HT2 := Lib.hid (HT.out (fd_eq he))
          clear he
          go_wp2_with fail
          go_quiet (fail)
          go_wp2_with fail
          go_roundg (gk - 1)
          case measure => omega
          case rel => exact ⟨j + 1, by go_num, by omega, by omega, Lib.hid (HB2.out _), HT2, Lib.hid (H1d.out _), Lib.hid (H2d.out _)⟩
        case false =>
          simp only [he, Bool.not_false] at hnq
          have HN2 := Lib.hid (HNO.out (fd_ne he))
          obtain rfl := bfI HB0.out (fun h => HN2.out h.2.2)
          clear he
          go_wp2_with fail
          go_quiet (fail)
          go_wp2_with fail
          go_ret
          exact ⟨rfl, HB2.out _⟩
end Go.Proofs.YtmjlhmohglbecaaGreatDoor.Ia
