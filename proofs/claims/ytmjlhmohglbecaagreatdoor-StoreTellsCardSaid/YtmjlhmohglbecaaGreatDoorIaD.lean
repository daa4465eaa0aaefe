/- The checking package's Right. No condition. -/
import Derived.Test.YtmjlhmohglbecaaGreatDoorIaC
namespace Go.Proofs.YtmjlhmohglbecaaGreatDoor.Ia
open Go.ChangeShapes Go.WideShapes Go.ChangeAt Go.RowKit
theorem Cell3.draw {w : World} {b : Nat} {v0 v1 v2 : Value} (h : Cell3 w b v0 v1 v2) (O : Obj) (n : Nat) : Cell3 ((w.alloc O).drewN n) b v0 v1 v2 := (h.alloc O).below ⟨rfl, rfl, rfl, Nat.le_refl _, fun _ _ => rfl⟩
theorem isE (l : List UInt8) : (l == []) = l.isEmpty := by cases l <;> rfl
set_option maxHeartbeats 8000000 in
set_option maxRecDepth 100000 in
theorem refRight_hash (w : World) (t : ByteArray) (a : Option Addr) (c : Nat) (l : List Fd) (hI : InF w a l) (b0 : Bool) (hb0 : b0 = true ↔ RightP ⟨2, t, l⟩) (ht : (t.toList == []) = true) (hl0 : 0 < l.length) (hl1 : l.length ≤ 256) :
    Calls Tryz.prog 59 #[.agg #[.int .i64 2, .string t, .slice a l.length c]] w fun e w' => e = .returned (.bool b0) ∧ Below w.heap.size w w' := by
  have HB0 := Lib.hid hb0
  have HI := Lib.hid hI
  have HC0 := Lib.hid (fun T => Cell3.new w (.int .i64 2) (.string t) (.slice a l.length c) T)
  clear hI hb0
  have ht2 : (!t.toList.isEmpty) = false := by rw [isE] at ht; rw [ht]; rfl
  have h0c : ((l.length : Int) == 0) = false := by rw [beq_eq_false_iff_ne]; omega
  have hlc : ¬ (256 : Int) < (l.length : Int) := by omega
  have HT := Lib.hid ht
  clear ht
  go_enter Tryz.func59, Tryz.ntmps59
  go_wp2_with fail
  go_loopg [3, 4, 41] (l.length + 1) (fun g _ _ vi wr => ∃ i : Nat, vi = .int .i64 i ∧ i ≤ l.length ∧ l.length - i ≤ g ∧ Hid (∀ j (h : j < l.length), j < i → okR l j h) ∧ Hid (Below w.heap.size w wr) ∧ Hid (Cell3 wr w.heap.size (.int .i64 2) (.string t) (.slice a l.length c)))
  case atStart => exact ⟨0, rfl, by omega, by omega, Lib.hid (fun _ _ h => absurd h (Nat.not_lt_zero _)), Lib.hid (bbox _), Lib.hid (HC0.out _)⟩
  case round =>
    obtain ⟨i, rfl, hi, hg, HK, HB, HC⟩ := hrel
    clear HC0
    by_cases hil : i < l.length
    case neg =>
      have hic : ¬ ((i : Int) < (l.length : Int)) := by omega
      obtain rfl := bt HB0.out (.inr ⟨rfl, HT.out, by omega, by omega, (fun j hj => HK.out j hj (by have : j < l.length := hj; omega))⟩)
      go_wp2_with fail
      go_ret
      exact ⟨rfl, HB.out⟩
    case pos =>
      have hic : (i : Int) < (l.length : Int) := by omega
      obtain ⟨b, o, rfl, hlt, hc⟩ := HI.out (by omega)
      have e : ∀ j, wr.cell? ⟨b, j, none⟩ = w.cell? ⟨b, j, none⟩ := fun j => HB.out.cell (p := ⟨b, j, none⟩) hlt
      have HB2 := Lib.hid (fun O n => bdraw HB.out O n)
      have HC3 := Lib.hid (fun O n => HC.out.draw O n)
      have q2 := HC.out.c2
      have q2a := fun O => (HC.out.alloc O).c2
      have HKn : Hid (okR l i hil → ∀ j (h : j < l.length), j < i + 1 → okR l j h) := Lib.hid (fun k1 j h hj => by
        by_cases hji : j = i
        · subst hji; exact k1
        · exact HK.out j h (by omega))
      have HNo : Hid (¬ okR l i hil → b0 = false) := Lib.hid (fun h1 => bf HB0.out (fun h2 => by
        rcases h2 with h2 | h2
        · have := h2.1; cases this
        · exact h1 (h2.2.2.2.2 i hil)))
      cases i with
      | zero =>
        obtain ⟨c0, c1⟩ := hc 0 hil
        rw [← e] at c0 c1
        by_cases hs : l[0].1.size ≤ 512 ∧ l[0].2.size ≤ 4096
        · have HK2 := Lib.hid (HKn.out ⟨hs.1, hs.2, (fun p hp hq => by omega)⟩)
          clear HKn HNo hc e hlt HK
          generalize l[0] = q at *
          obtain ⟨x, y⟩ := q
          have c0 : wr.cell? ⟨b, o, none⟩ = some (.string x) := c0
          have c1 : wr.cell? ⟨b, o + 1, none⟩ = some (.string y) := by have h := c1; rw [Nat.zero_mul, Nat.add_zero] at h; exact h
          have s1 : ¬ (512 : Int) < (x.size : Int) := by have : x.size ≤ 512 := hs.1; omega
          have s1d : decide ((512 : Int) < (x.size : Int)) = false := decide_eq_false s1
          have s2 : ¬ (4096 : Int) < (y.size : Int) := by have : y.size ≤ 4096 := hs.2; omega
          have s2d : decide ((4096 : Int) < (y.size : Int)) = false := decide_eq_false s2
          clear hs
          go_wp2_with fail
          go_big_quiet (fail)
          go_wp2_with fail
          go_roundg (gk - 1)
          case measure => omega
          case rel => exact ⟨1, by go_num, by omega, by omega, HK2, Lib.hid (HB2.out _ _), Lib.hid (HC3.out _ _)⟩
        · obtain rfl := HNo.out (fun h => hs ⟨h.1, h.2.1⟩)
          clear HKn HNo hc e hlt HK
          generalize l[0] = q at *
          obtain ⟨x, y⟩ := q
          have c0 : wr.cell? ⟨b, o, none⟩ = some (.string x) := c0
          have c1 : wr.cell? ⟨b, o + 1, none⟩ = some (.string y) := by have h := c1; rw [Nat.zero_mul, Nat.add_zero] at h; exact h
          have s1 : (512 : Int) < (x.size : Int) ∨ ¬ (512 : Int) < (x.size : Int) ∧ (4096 : Int) < (y.size : Int) := by
            have h : ¬ (x.size ≤ 512 ∧ y.size ≤ 4096) := hs
            omega
          clear hs
          rcases s1 with s1 | ⟨s1, s2⟩
          · have s1d : decide ((512 : Int) < (x.size : Int)) = true := decide_eq_true s1
            go_wp2_with fail
            go_big_quiet (fail)
            go_wp2_with fail
            go_ret
            exact ⟨rfl, HB2.out _ _⟩
          · have s1d : decide ((512 : Int) < (x.size : Int)) = false := decide_eq_false s1
            have s2d : decide ((4096 : Int) < (y.size : Int)) = true := decide_eq_true s2
            go_wp2_with fail
            go_big_quiet (fail)
            go_wp2_with fail
            go_ret
            exact ⟨rfl, HB2.out _ _⟩
      | succ p =>
        obtain ⟨c0, c1⟩ := hc (p + 1) hil
        obtain ⟨d0, d1⟩ := hc p (by omega)
        rw [← e] at c0 c1 d0 d1
        have d0a := fun O => ((bbox (w := wr) O).cell (p := ⟨b, o + p * 2, none⟩) (World.block_lt_of_cell? wr _ d0)).trans d0
        have hwr : IntKind.i64.wrap (p : Int) = (p : Int) := by rw [IntKind.wrap_i64]; omega
        have hp1 : 0 ≤ (p : Int) ∧ (p : Int) < (l.length : Int) := by omega
        have hp0 : (0 : Int) < (p : Int) + 1 := by omega
        have HOk : Hid (l[p + 1].1.size ≤ 512 ∧ l[p + 1].2.size ≤ 4096 → Op.bytesLess l[p].1.toList l[p + 1].1.toList = true → okR l (p + 1) hil) := Lib.hid (fun h1 h2 => ⟨h1.1, h1.2, (fun q hq hq2 => by
          obtain rfl : q = p := by omega
          exact h2)⟩)
        have HNk : Hid (okR l (p + 1) hil → Op.bytesLess l[p].1.toList l[p + 1].1.toList = true) := Lib.hid (fun h => h.2.2 p (by omega) rfl)
        by_cases hs : l[p + 1].1.size ≤ 512 ∧ l[p + 1].2.size ≤ 4096
        · cases hbl : Op.bytesLess l[p].1.toList l[p + 1].1.toList with
          | true =>
            have HK2 := Lib.hid (HKn.out (HOk.out hs hbl))
            clear HKn HNo hc e hlt HK HOk HNk
            generalize l[p + 1] = q at *
            generalize l[p] = r at *
            obtain ⟨x, y⟩ := q
            obtain ⟨u, z⟩ := r
            have c0 : wr.cell? ⟨b, o + (p + 1) * 2, none⟩ = some (.string x) := c0
            have c1 : wr.cell? ⟨b, o + (p + 1) * 2 + 1, none⟩ = some (.string y) := c1
            have d0a : ∀ O, (wr.alloc O).cell? ⟨b, o + p * 2, none⟩ = some (.string u) := d0a
            have hbl : (!Op.bytesLess u.toList x.toList) = false := by have h : Op.bytesLess u.toList x.toList = true := hbl; rw [h]; rfl
            have s1 : ¬ (512 : Int) < (x.size : Int) := by have : x.size ≤ 512 := hs.1; omega
            have s1d : decide ((512 : Int) < (x.size : Int)) = false := decide_eq_false s1
            have s2 : ¬ (4096 : Int) < (y.size : Int) := by have : y.size ≤ 4096 := hs.2; omega
            have s2d : decide ((4096 : Int) < (y.size : Int)) = false := decide_eq_false s2
            clear hs d0 d1
            go_wp2_with fail
            go_big_quiet (fail)
            go_wp2_with fail
            go_roundg (gk - 1)
            case measure => omega
            case rel => exact ⟨p + 2, by go_num, by omega, by omega, HK2, Lib.hid (HB2.out _ _), Lib.hid (HC3.out _ _)⟩
          | false =>
            obtain rfl := HNo.out (fun h => by have := HNk.out h; rw [hbl] at this; cases this)
            clear HKn HNo hc e hlt HK HOk HNk
            generalize l[p + 1] = q at *
            generalize l[p] = r at *
            obtain ⟨x, y⟩ := q
            obtain ⟨u, z⟩ := r
            have c0 : wr.cell? ⟨b, o + (p + 1) * 2, none⟩ = some (.string x) := c0
            have c1 : wr.cell? ⟨b, o + (p + 1) * 2 + 1, none⟩ = some (.string y) := c1
            have d0a : ∀ O, (wr.alloc O).cell? ⟨b, o + p * 2, none⟩ = some (.string u) := d0a
            have hbl : (!Op.bytesLess u.toList x.toList) = true := by have h : Op.bytesLess u.toList x.toList = false := hbl; rw [h]; rfl
            have s1 : ¬ (512 : Int) < (x.size : Int) := by have : x.size ≤ 512 := hs.1; omega
            have s1d : decide ((512 : Int) < (x.size : Int)) = false := decide_eq_false s1
            have s2 : ¬ (4096 : Int) < (y.size : Int) := by have : y.size ≤ 4096 := hs.2; omega
            have s2d : decide ((4096 : Int) < (y.size : Int)) = false := decide_eq_false s2
            clear hs d0 d1
            go_wp2_with fail
            go_big_quiet (fail)
            go_wp2_with fail
            go_ret
            exact ⟨rfl, HB2.out _ _⟩
        · obtain rfl := HNo.out (fun h => hs ⟨h.1, h.2.1⟩)
          clear HKn HNo hc e hlt HK HOk HNk d0a
          generalize l[p + 1] = q at *
          generalize l[p] = r at *
          obtain ⟨x, y⟩ := q
          obtain ⟨u, z⟩ := r
          have c0 : wr.cell? ⟨b, o + (p + 1) * 2, none⟩ = some (.string x) := c0
          have c1 : wr.cell? ⟨b, o + (p + 1) * 2 + 1, none⟩ = some (.string y) := c1
          have s1 : (512 : Int) < (x.size : Int) ∨ ¬ (512 : Int) < (x.size : Int) ∧ (4096 : Int) < (y.size : Int) := by
            have h : ¬ (x.size ≤ 512 ∧ y.size ≤ 4096) := hs
            omega
          clear hs d0 d1
          rcases s1 with s1 | ⟨s1, s2⟩
          · have s1d : decide ((512 : Int) < (x.size : Int)) = true := decide_eq_true s1
            go_wp2_with fail
            go_big_quiet (fail)
            go_wp2_with fail
            go_ret
            exact ⟨rfl, HB2.out _ _⟩
          · have s1d : decide ((512 : Int) < (x.size : Int)) = false := decide_eq_false s1
            have s2d : decide ((4096 : Int) < (y.size : Int)) = true := decide_eq_true s2
            go_wp2_with fail
            go_big_quiet (fail)
            go_wp2_with fail
            go_ret
            exact ⟨rfl, HB2.out _ _⟩
end Go.Proofs.YtmjlhmohglbecaaGreatDoor.Ia
/- The checking package's Right, at any item; the statements' fits. No condition. -/
namespace Go.Proofs.YtmjlhmohglbecaaGreatDoor.Ia
open Go.ChangeShapes Go.WideShapes Go.ChangeAt Go.RowKit
set_option maxHeartbeats 8000000 in
set_option maxRecDepth 100000 in
theorem refRight_calls (w : World) (k : Int) (t : ByteArray) (a : Option Addr) (c len : Nat) (l : List Fd) (hlen : len = l.length) (hI : InF w a l) (b0 : Bool) (hb0 : b0 = true ↔ RightP ⟨k, t, l⟩) :
    Calls Tryz.prog 59 #[.agg #[.int .i64 k, .string t, .slice a len c]] w fun e w' => e = .returned (.bool b0) ∧ Below w.heap.size w w' := by
  subst hlen
  have HB0 := Lib.hid hb0
  have HI := Lib.hid hI
  clear hI hb0
  by_cases h1 : k = 1
  · subst h1
    by_cases ht : t.size ≤ 4096
    · have htc : (t.size : Int) ≤ 4096 := by omega
      by_cases hl : l.length = 0
      · have hlc : ((l.length : Int) == 0) = true := by rw [hl]; rfl
        obtain rfl := bt HB0.out (.inl ⟨rfl, ht, hl⟩)
        clear hl
        go_enter Tryz.func59, Tryz.ntmps59
        go_wp2_with fail
        go_ret
        exact ⟨rfl, bbox _⟩
      · have hlc : ((l.length : Int) == 0) = false := by rw [beq_eq_false_iff_ne]; omega
        obtain rfl := bf HB0.out (fun h => by rcases h with h | h; exact hl h.2.2; have := h.1; cases this)
        clear hl
        go_enter Tryz.func59, Tryz.ntmps59
        go_wp2_with fail
        go_ret
        exact ⟨rfl, bbox _⟩
    · have htc : ¬ (t.size : Int) ≤ 4096 := by omega
      obtain rfl := bf HB0.out (fun h => by rcases h with h | h; exact ht h.2.1; have := h.1; cases this)
      go_enter Tryz.func59, Tryz.ntmps59
      go_wp2_with fail
      go_ret
      exact ⟨rfl, bbox _⟩
  · have h1b : (k == 1) = false := by rw [beq_eq_false_iff_ne]; exact h1
    by_cases hp : ¬ (k = 2 ∧ (t.toList == []) = true ∧ 0 < l.length ∧ l.length ≤ 256)
    · obtain rfl := bf HB0.out (fun h => by
            rcases h with h | h
            · exact h1 h.1
            · exact hp ⟨h.1, h.2.1, h.2.2.1, h.2.2.2.1⟩)
      have h2c : ∃ b2, (k != 2) = b2 := ⟨_, rfl⟩
      obtain ⟨b2, h2c⟩ := h2c
      have h3c : ∃ b3, (!t.toList.isEmpty) = b3 := ⟨_, rfl⟩
      obtain ⟨b3, h3c⟩ := h3c
      have h4c : ∃ b4, ((l.length : Int) == 0) = b4 := ⟨_, rfl⟩
      obtain ⟨b4, h4c⟩ := h4c
      have hq : b2 = true ∨ b3 = true ∨ b4 = true ∨ (b2 = false ∧ b3 = false ∧ b4 = false ∧ (256 : Int) < (l.length : Int)) := by
        cases b2 with
        | true => exact .inl rfl
        | false =>
          cases b3 with
          | true => exact .inr (.inl rfl)
          | false =>
            cases b4 with
            | true => exact .inr (.inr (.inl rfl))
            | false =>
              refine .inr (.inr (.inr ⟨rfl, rfl, rfl, ?_⟩))
              have e2 : k = 2 := by simpa using h2c
              have e3 : (t.toList == []) = true := by rw [isE]; simpa using h3c
              have e4 : l.length ≠ 0 := by intro h; rw [h] at h4c; cases h4c
              have : ¬ l.length ≤ 256 := fun h => hp ⟨e2, e3, by omega, h⟩
              omega
      clear hp
      rcases hq with rfl | rfl | rfl | ⟨rfl, rfl, rfl, hlc⟩
      · go_enter Tryz.func59, Tryz.ntmps59
        go_wp2_with fail
        go_ret
        exact ⟨rfl, bbox _⟩
      · cases b2
        all_goals
          go_enter Tryz.func59, Tryz.ntmps59
          go_wp2_with fail
          go_ret
          exact ⟨rfl, bbox _⟩
      · cases b2 <;> cases b3
        all_goals
          go_enter Tryz.func59, Tryz.ntmps59
          go_wp2_with fail
          go_ret
          exact ⟨rfl, bbox _⟩
      · go_enter Tryz.func59, Tryz.ntmps59
        go_wp2_with fail
        go_ret
        exact ⟨rfl, bbox _⟩
    · obtain ⟨rfl, ht, hl0, hl1⟩ := Classical.not_not.1 hp
      exact refRight_hash w t a c l HI.out b0 HB0.out ht hl0 hl1
end Go.Proofs.YtmjlhmohglbecaaGreatDoor.Ia
