/- The statements' great. No condition. -/
import Derived.Test.YtmjlhmohglbecaaGreatDoorIb1
import Derived.BigQuiet
namespace Go.Proofs.YtmjlhmohglbecaaGreatDoor.Ia
open Go.ChangeShapes Go.WideShapes Go.ChangeAt Go.RowKit
/-- An item that is looked at. -/
def okI (i : It) : Prop := i.l.length ≤ 300 ∧ i.t.size ≤ 5000 ∧ ∀ j (h : j < i.l.length), i.l[j].1.size ≤ 600 ∧ i.l[j].2.size ≤ 5000
end Go.Proofs.YtmjlhmohglbecaaGreatDoor.Ia
/- Package item's areRight and Right. No condition. -/
namespace Go.Proofs.YtmjlhmohglbecaaGreatDoor.Ia
open Go.ChangeShapes Go.WideShapes Go.ChangeAt Go.RowKit
/-- A field that may stand where it stands. -/
def okR (l : List Fd) (i : Nat) (hi : i < l.length) : Prop := l[i].1.size ≤ 512 ∧ l[i].2.size ≤ 4096 ∧ ∀ p (hp : p < l.length), p + 1 = i → lt l[p].1 l[i].1 = true
def AllR (l : List Fd) : Prop := 0 < l.length ∧ l.length ≤ 256 ∧ ∀ i (hi : i < l.length), okR l i hi
theorem AllR.up {l : List Fd} (h : AllR l) : Up l := by
  have key : ∀ d i (hi : i < l.length) (hj : i + (d + 1) < l.length), lt l[i].1 l[i + (d + 1)].1 = true := by
    intro d
    induction d with
    | zero => intro i hi hj; exact (h.2.2 (i + 1) hj).2.2 i hi rfl
    | succ d ih => intro i hi hj; exact lt_trans (ih i hi (by omega)) ((h.2.2 (i + (d + 1 + 1)) hj).2.2 (i + (d + 1)) (by omega) rfl)
  unfold Up
  rw [List.pairwise_iff_getElem]
  intro i j hi hj hij
  have h1 := key (j - i - 1) i hi (by omega)
  have e : i + (j - i - 1 + 1) = j := by omega
  simp only [e] at h1
  exact h1
def RightP (i : It) : Prop := (i.k = 1 ∧ i.t.size ≤ 4096 ∧ i.l.length = 0) ∨ (i.k = 2 ∧ (i.t.toList == []) = true ∧ AllR i.l)
theorem bf {b : Bool} {P : Prop} (h : b = true ↔ P) (k : ¬ P) : b = false := by
  cases b with
  | false => rfl
  | true => exact absurd (h.1 rfl) k
theorem bt {b : Bool} {P : Prop} (h : b = true ↔ P) (k : P) : b = true := h.2 k
theorem some_b (P : Prop) : ∃ b : Bool, b = true ↔ P := by
  by_cases h : P
  · exact ⟨true, ⟨fun _ => h, fun _ => rfl⟩⟩
  · exact ⟨false, ⟨fun k => (by cases k), fun k => absurd k h⟩⟩
theorem bdraw {w wr : World} (h : Below w.heap.size w wr) (O : Obj) (n : Nat) : Below w.heap.size w ((wr.alloc O).drewN n) := (bstep h (bbox (w := wr) O)).trans ⟨rfl, rfl, rfl, Nat.le_refl _, fun _ _ => rfl⟩
set_option maxHeartbeats 8000000 in
set_option maxRecDepth 100000 in
theorem areRight_calls (w : World) (a : Option Addr) (c len : Nat) (l : List Fd) (hlen : len = l.length) (hI : InF w a l) (b0 : Bool) (hb0 : b0 = true ↔ AllR l) :
    Calls Tryz.prog 73 #[.slice a len c] w fun e w' => e = .returned (.bool b0) ∧ Below w.heap.size w w' := by
  subst hlen
  have HI := Lib.hid hI
  have HB0 := Lib.hid hb0
  clear hI hb0
  by_cases h0 : l.length = 0
  · have h0c : ((l.length : Int) == 0) = true := by rw [h0]; rfl
    obtain rfl := bf HB0.out (fun h => by have := h.1; omega)
    clear h0
    go_enter Tryz.func73, Tryz.ntmps73
    go_wp2_with fail
    go_ret
    exact ⟨rfl, Below.refl _ _⟩
  · have h0c : ((l.length : Int) == 0) = false := by rw [beq_eq_false_iff_ne]; omega
    by_cases hl : 256 < l.length
    · have hlc : (256 : Int) < (l.length : Int) := by omega
      obtain rfl := bf HB0.out (fun h => by have := h.2.1; omega)
      go_enter Tryz.func73, Tryz.ntmps73
      go_wp2_with fail
      go_ret
      exact ⟨rfl, Below.refl _ _⟩
    · have hlc : ¬ (256 : Int) < (l.length : Int) := by omega
      go_enter Tryz.func73, Tryz.ntmps73
      go_wp2_with fail
      go_loopg [3, 4, 15] (l.length + 1) (fun g _ _ vi wr => ∃ i : Nat, vi = .int .i64 i ∧ i ≤ l.length ∧ l.length - i ≤ g ∧ Hid (∀ j (h : j < l.length), j < i → okR l j h) ∧ Hid (Below w.heap.size w wr))
      case atStart => exact ⟨0, rfl, by omega, by omega, Lib.hid (fun _ _ h => absurd h (Nat.not_lt_zero _)), Lib.hid (Below.refl _ _)⟩
      case round =>
        obtain ⟨i, rfl, hi, hg, HK, HB⟩ := hrel
        by_cases hil : i < l.length
        case neg =>
          have hic : ¬ ((i : Int) < (l.length : Int)) := by omega
          obtain rfl := bt HB0.out ⟨by omega, by omega, (fun j hj => HK.out j hj (by omega))⟩
          go_wp2_with fail
          go_ret
          exact ⟨rfl, HB.out⟩
        case pos =>
          have hic : (i : Int) < (l.length : Int) := by omega
          obtain ⟨b, o, rfl, hlt, hc⟩ := HI.out (by omega)
          have e : ∀ j, wr.cell? ⟨b, j, none⟩ = w.cell? ⟨b, j, none⟩ := fun j => HB.out.cell (p := ⟨b, j, none⟩) hlt
          have HB2 := Lib.hid (fun O n => bdraw HB.out O n)
          have HKn : Hid (okR l i hil → ∀ j (h : j < l.length), j < i + 1 → okR l j h) := Lib.hid (fun k1 j h hj => by
            by_cases hji : j = i
            · subst hji; exact k1
            · exact HK.out j h (by omega))
          have HNo : Hid (¬ okR l i hil → b0 = false) := Lib.hid (fun h1 => bf HB0.out (fun h2 => h1 (h2.2.2 i hil)))
          have HY := Lib.hid (fun W => (ifits_calls W l[i].1 l[i].2 _ rfl).mono fun _ _ h => (⟨h.1, h.2.symm⟩ : _ ∧ _))
          cases i with
          | zero =>
            obtain ⟨c0, c1⟩ := hc 0 hil
            rw [← e] at c0 c1
            by_cases hs : l[0].1.size ≤ 512 ∧ l[0].2.size ≤ 4096
            · have HK2 := Lib.hid (HKn.out ⟨hs.1, hs.2, (fun p hp hq => by omega)⟩)
              rw [decide_eq_true hs] at HY
              clear HKn HNo hc e hlt HK hs
              generalize l[0] = q at *
              obtain ⟨x, y⟩ := q
              have c0 : wr.cell? ⟨b, o, none⟩ = some (.string x) := c0
              have c1 : wr.cell? ⟨b, o + 1, none⟩ = some (.string y) := by have h := c1; rw [Nat.zero_mul, Nat.add_zero] at h; exact h
              have HY : Hid (∀ W, Calls Tryz.prog 105 #[.string x, .string y] W fun e w' => e = .returned (.bool true) ∧ w' = W) := HY
              go_wp2_with fail
              go_quiet ((go_at_call 105; with_reducible exact Calls.quiet_of_same (HY.out _)))
              go_wp2_with fail
              go_roundg (gk - 1)
              case measure => omega
              case rel => exact ⟨1, by go_num, by omega, by omega, HK2, Lib.hid (HB2.out _ _)⟩
            · obtain rfl := HNo.out (fun h => hs ⟨h.1, h.2.1⟩)
              rw [decide_eq_false hs] at HY
              clear HKn HNo hc e hlt HK hs
              generalize l[0] = q at *
              obtain ⟨x, y⟩ := q
              have c0 : wr.cell? ⟨b, o, none⟩ = some (.string x) := c0
              have c1 : wr.cell? ⟨b, o + 1, none⟩ = some (.string y) := by have h := c1; rw [Nat.zero_mul, Nat.add_zero] at h; exact h
              have HY : Hid (∀ W, Calls Tryz.prog 105 #[.string x, .string y] W fun e w' => e = .returned (.bool false) ∧ w' = W) := HY
              go_wp2_with fail
              go_quiet ((go_at_call 105; with_reducible exact Calls.quiet_of_same (HY.out _)))
              go_wp2_with fail
              go_ret
              exact ⟨rfl, HB2.out _ _⟩
          | succ p =>
            obtain ⟨c0, c1⟩ := hc (p + 1) hil
            obtain ⟨d0, d1⟩ := hc p (by omega)
            rw [← e] at c0 c1 d0 d1
            have hwr : IntKind.i64.wrap (p : Int) = (p : Int) := by rw [IntKind.wrap_i64]; omega
            have hp1 : 0 ≤ (p : Int) ∧ (p : Int) < (l.length : Int) := by omega
            have hp0 : (0 : Int) < (p : Int) + 1 := by omega
            have HOk : Hid (l[p + 1].1.size ≤ 512 ∧ l[p + 1].2.size ≤ 4096 → Op.bytesLess l[p].1.toList l[p + 1].1.toList = true → okR l (p + 1) hil) := Lib.hid (fun h1 h2 => ⟨h1.1, h1.2, (fun q hq hq2 => by
              obtain rfl : q = p := by omega
              exact h2)⟩)
            have HNk : Hid (okR l (p + 1) hil → Op.bytesLess l[p].1.toList l[p + 1].1.toList = true) := Lib.hid (fun h => h.2.2 p (by omega) rfl)
            by_cases hs : l[p + 1].1.size ≤ 512 ∧ l[p + 1].2.size ≤ 4096
            · rw [decide_eq_true hs] at HY
              cases hbl : Op.bytesLess l[p].1.toList l[p + 1].1.toList with
              | true =>
                have HK2 := Lib.hid (HKn.out (HOk.out hs hbl))
                have d0a := fun O => ((bbox (w := wr) O).cell (p := ⟨b, o + p * 2, none⟩) (World.block_lt_of_cell? wr _ d0)).trans d0
                clear HKn HNo hc e hlt HK hs HOk HNk
                generalize l[p + 1] = q at *
                generalize l[p] = r at *
                obtain ⟨x, y⟩ := q
                obtain ⟨u, z⟩ := r
                have c0 : wr.cell? ⟨b, o + (p + 1) * 2, none⟩ = some (.string x) := c0
                have c1 : wr.cell? ⟨b, o + (p + 1) * 2 + 1, none⟩ = some (.string y) := c1
                have d0a : ∀ O, (wr.alloc O).cell? ⟨b, o + p * 2, none⟩ = some (.string u) := d0a
                have hbl : (!Op.bytesLess u.toList x.toList) = false := by have h : Op.bytesLess u.toList x.toList = true := hbl; rw [h]; rfl
                have HY : Hid (∀ W, Calls Tryz.prog 105 #[.string x, .string y] W fun e w' => e = .returned (.bool true) ∧ w' = W) := HY
                go_wp2_with fail
                go_quiet ((go_at_call 105; with_reducible exact Calls.quiet_of_same (HY.out _)))
                go_wp2_with fail
                go_roundg (gk - 1)
                case measure => omega
                case rel => exact ⟨p + 2, by go_num, by omega, by omega, HK2, Lib.hid (HB2.out _ _)⟩
              | false =>
                obtain rfl := HNo.out (fun h => by have := HNk.out h; rw [hbl] at this; cases this)
                have d0a := fun O => ((bbox (w := wr) O).cell (p := ⟨b, o + p * 2, none⟩) (World.block_lt_of_cell? wr _ d0)).trans d0
                clear HKn HNo hc e hlt HK hs HOk HNk
                generalize l[p + 1] = q at *
                generalize l[p] = r at *
                obtain ⟨x, y⟩ := q
                obtain ⟨u, z⟩ := r
                have c0 : wr.cell? ⟨b, o + (p + 1) * 2, none⟩ = some (.string x) := c0
                have c1 : wr.cell? ⟨b, o + (p + 1) * 2 + 1, none⟩ = some (.string y) := c1
                have d0a : ∀ O, (wr.alloc O).cell? ⟨b, o + p * 2, none⟩ = some (.string u) := d0a
                have hbl : (!Op.bytesLess u.toList x.toList) = true := by have h : Op.bytesLess u.toList x.toList = false := hbl; rw [h]; rfl
                have HY : Hid (∀ W, Calls Tryz.prog 105 #[.string x, .string y] W fun e w' => e = .returned (.bool true) ∧ w' = W) := HY
                go_wp2_with fail
                go_quiet ((go_at_call 105; with_reducible exact Calls.quiet_of_same (HY.out _)))
                go_wp2_with fail
                go_ret
                exact ⟨rfl, HB2.out _ _⟩
            · obtain rfl := HNo.out (fun h => hs ⟨h.1, h.2.1⟩)
              rw [decide_eq_false hs] at HY
              clear HKn HNo hc e hlt HK hs HOk HNk
              generalize l[p + 1] = q at *
              generalize l[p] = r at *
              obtain ⟨x, y⟩ := q
              obtain ⟨u, z⟩ := r
              have c0 : wr.cell? ⟨b, o + (p + 1) * 2, none⟩ = some (.string x) := c0
              have c1 : wr.cell? ⟨b, o + (p + 1) * 2 + 1, none⟩ = some (.string y) := c1
              have HY : Hid (∀ W, Calls Tryz.prog 105 #[.string x, .string y] W fun e w' => e = .returned (.bool false) ∧ w' = W) := HY
              go_wp2_with fail
              go_quiet ((go_at_call 105; with_reducible exact Calls.quiet_of_same (HY.out _)))
              go_wp2_with fail
              go_ret
              exact ⟨rfl, HB2.out _ _⟩
end Go.Proofs.YtmjlhmohglbecaaGreatDoor.Ia
/- item.Right and the checking package's Right; the statements' fits. No condition. -/
namespace Go.Proofs.YtmjlhmohglbecaaGreatDoor.Ia
open Go.ChangeShapes Go.WideShapes Go.ChangeAt Go.RowKit
theorem empty_iff {t : ByteArray} : (t.toList == []) = true ↔ t = ⟨#[]⟩ := by
  rw [beq_iff_eq]
  constructor
  · intro h; exact ba_eq (by rw [h, ByteArray.toList_eq])
  · rintro rfl; rw [ByteArray.toList_eq]
set_option maxHeartbeats 8000000 in
set_option maxRecDepth 100000 in
theorem right_calls (w : World) (k : Int) (t : ByteArray) (a : Option Addr) (c len : Nat) (l : List Fd) (hlen : len = l.length) (hI : InF w a l) (b0 : Bool) (hb0 : b0 = true ↔ RightP ⟨k, t, l⟩) :
    Calls Tryz.prog 47 #[.agg #[.int .i64 k, .string t, .slice a len c]] w fun e w' => e = .returned (.bool b0) ∧ Below w.heap.size w w' := by
  subst hlen
  have HB0 := Lib.hid hb0
  obtain ⟨b1, hb1⟩ := some_b (AllR l)
  have HA := Lib.hid (fun W (h : Below w.heap.size w W) => areRight_calls W a c _ l rfl (hI.below (Nat.le_refl _) h) b1 hb1)
  clear hI hb0
  by_cases h1 : k = 1
  · subst h1
    by_cases ht : t.size ≤ 4096
    · have htc : (t.size : Int) ≤ 4096 := by omega
      by_cases hl : l.length = 0
      · have hlc : ((l.length : Int) == 0) = true := by rw [hl]; rfl
        obtain rfl := bt HB0.out (.inl ⟨rfl, ht, hl⟩)
        clear hl
        go_enter Tryz.func47, Tryz.ntmps47
        go_wp2_with fail
        go_ret
        exact ⟨rfl, bbox _⟩
      · have hlc : ((l.length : Int) == 0) = false := by rw [beq_eq_false_iff_ne]; omega
        obtain rfl := bf HB0.out (fun h => by rcases h with h | h; exact hl h.2.2; have := h.1; cases this)
        clear hl
        go_enter Tryz.func47, Tryz.ntmps47
        go_wp2_with fail
        go_ret
        exact ⟨rfl, bbox _⟩
    · have htc : ¬ (t.size : Int) ≤ 4096 := by omega
      obtain rfl := bf HB0.out (fun h => by rcases h with h | h; exact ht h.2.1; have := h.1; cases this)
      go_enter Tryz.func47, Tryz.ntmps47
      go_wp2_with fail
      go_ret
      exact ⟨rfl, bbox _⟩
  · have h1b : (k == 1) = false := by rw [beq_eq_false_iff_ne]; exact h1
    by_cases h2 : k = 2
    · subst h2
      cases ht : (t.toList == []) with
      | true =>
        obtain rfl : b0 = b1 := by
          cases hb : b1 with
          | true => exact bt HB0.out (.inr ⟨rfl, ht, hb1.1 hb⟩)
          | false => exact bf HB0.out (fun h => by
              rcases h with h | h
              · exact h1 h.1
              · have := hb1.2 h.2.2; rw [hb] at this; cases this)
        have ht2 : ([] == t.toList) = true := by rw [beq_iff_eq] at ht ⊢; exact ht.symm
        clear hb1 HB0
        go_enter Tryz.func47, Tryz.ntmps47
        go_wp2_with fail
        refine (HA.out _ (bbox _)).mono ?_
        rintro e w2 ⟨rfl, hb2⟩
        have HB2 := Lib.hid (bstep (bbox _) hb2)
        clear hb2
        go_wp2_with fail
        go_ret
        exact ⟨rfl, HB2.out⟩
      | false =>
        obtain rfl := bf HB0.out (fun h => by
              rcases h with h | h
              · exact h1 h.1
              · have := h.2.1; rw [ht] at this; cases this)
        have ht2 : ([] == t.toList) = false := by rw [beq_eq_false_iff_ne] at ht ⊢; exact fun h => ht h.symm
        clear hb1 HB0
        go_enter Tryz.func47, Tryz.ntmps47
        go_wp2_with fail
        go_ret
        exact ⟨rfl, bbox _⟩
    · have h2b : (k == 2) = false := by rw [beq_eq_false_iff_ne]; exact h2
      obtain rfl := bf HB0.out (fun h => by rcases h with h | h; exact h1 h.1; exact h2 h.1)
      go_enter Tryz.func47, Tryz.ntmps47
      go_wp2_with fail
      go_ret
      exact ⟨rfl, bbox _⟩
end Go.Proofs.YtmjlhmohglbecaaGreatDoor.Ia
