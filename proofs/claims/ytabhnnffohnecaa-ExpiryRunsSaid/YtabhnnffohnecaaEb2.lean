/- Package container/heap: down. Conditions: bounds. -/
import Derived.Test.YtabhnnffohnecaaEb1
namespace Go.Proofs.Ytabhnnffohnecaa.Ea
open Go.ChangeShapes Go.WideShapes Go.ChangeAt Go.RowKit
section
variable {α : Type} {l : List α} {n i j : Nat}
theorem par_left (i : Nat) : par (2 * i + 1) = i := by unfold par; omega
theorem par_right (i : Nat) : par (2 * i + 2) = i := by unfold par; omega
/-- The lesser child, where there is but one. -/
theorem least_one {lt : α → α → Bool} (o : Ord (leB lt)) (h2 : ¬ 2 * i + 2 < n) : ∀ k, 0 < k → k < n → par k = i → leA (leB lt) l (2 * i + 1) k := fun k k0 hk e => by
  rcases kids k0 e with h | h
  · rw [h]; exact leA_refl o _
  · omega
theorem least_left {lt : α → α → Bool} (o : Ord (leB lt)) (h1 : 2 * i + 1 < l.length) (h2 : 2 * i + 2 < l.length) (h : lt l[2 * i + 2] l[2 * i + 1] = false) : ∀ k, 0 < k → k < n → par k = i → leA (leB lt) l (2 * i + 1) k := fun k k0 _ e => by
  rcases kids k0 e with h' | h'
  · rw [h']; exact leA_refl o _
  · rw [h']; exact leA_leB h1 h2 h
theorem least_right {lt : α → α → Bool} (o : Ord (leB lt)) (h1 : 2 * i + 1 < l.length) (h2 : 2 * i + 2 < l.length) (h : lt l[2 * i + 2] l[2 * i + 1] = true) : ∀ k, 0 < k → k < n → par k = i → leA (leB lt) l (2 * i + 2) k := fun k k0 _ e => by
  rcases kids k0 e with h' | h'
  · rw [h']; exact leA_lt o h2 h1 h
  · rw [h']; exact leA_refl o _
end
/-- What going down keeps: it is at i, and behind its start all is in order but there. -/
def Dw {α : Type} (lt : α → α → Bool) (l m : List α) (n i0 i : Nat) : Prop := Sh l m n ∧ Dn (leB lt) m n i ∧ i0 ≤ i ∧ (i = i0 ∨ leA (leB lt) m (par i) i ∧ 0 < i)
section
variable {α : Type} {lt : α → α → Bool} {l m : List α} {n i0 i j : Nat}
theorem Dw.step (h : Dw lt l m n i0 i) (o : Ord (leB lt)) (hn : n ≤ l.length) (hj : j < n) (h0 : 0 < j) (hp : par j = i) (hm : ∀ k, 0 < k → k < n → par k = i → leA (leB lt) m j k) (hjm : j < m.length) (him : i < m.length) (hl : lt m[j] m[i] = true) : Dw lt l (swp m i j) n i0 j := by
  have hlt := par_lt h0
  have hml := h.1.len
  obtain ⟨h1, h2⟩ := h.2.1.step (by omega) hj h0 hp hm (leA_lt o hjm him hl)
  refine ⟨h.1.trans (Sh.swp (by omega) hj (by omega)), h1, ?_, .inr ⟨by rw [hp]; exact h2, h0⟩⟩
  have := h.2.2.1
  omega
/-- At the end. -/
theorem Dw.stop (h : Dw lt l m n i0 i) (hc : ∀ k, 0 < k → k < n → par k = i → leA (leB lt) m i k) : Sh l m n ∧ if i0 < i then Hp (leB lt) m n else Up (leB lt) m n i0 := by
  refine ⟨h.1, ?_⟩
  have hu := h.2.1.done hc
  split
  · rcases h.2.2.2 with e | e
    · omega
    · exact hu.done (.inr e.1)
  · have := h.2.2.1
    have e : i = i0 := by omega
    rw [← e]; exact hu
end
set_option maxHeartbeats 8000000 in
set_option maxRecDepth 100000 in
theorem down_calls {α : Type} {P : List α → World → Prop} {lt : α → α → Bool} {T : TypeId} {v : Value} (hI : Iface P lt T v) (o : Ord (leB lt)) (w : World) (l : List α) (n i0 : Nat) (hn : n ≤ l.length) (hl : l.length ≤ 1000000000) (hi0 : i0 ≤ n) (hP : P l w) (hD : Dn (leB lt) l n i0) :
    Calls Try.prog 27 #[.iface T v, .int .i64 i0, .int .i64 n] w fun e w' => ∃ b : Bool, e = .returned (.bool b) ∧ ∃ l', P l' w' ∧ Sh l l' n ∧ if b = true then Hp (leB lt) l' n else Up (leB lt) l' n i0 := by
  have HI := Lib.hid hI
  have HO := Lib.hid o
  have H0 : Hid (P l w ∧ Dw lt l l n i0 i0) := Lib.hid ⟨hP, Sh.refl l n, hD, Nat.le_refl _, .inl rfl⟩
  clear hI o hP hD
  go_enter Try.func27, Try.ntmps27
  go_wp2_with fail
  go_loopg [7] (n - i0 + 1) (fun g a wr => ∃ i : Nat, a = .int .i64 i ∧ i ≤ n ∧ n - i ≤ g ∧ ∃ m, Hid (P m wr ∧ Dw lt l m n i0 i))
  case atStart => exact ⟨i0, rfl, hi0, by omega, l, H0⟩
  case round =>
    obtain ⟨i, rfl, hi, hg, m, HM⟩ := hrel
    clear H0
    have hml : m.length = l.length := HM.out.2.1.len
    by_cases h1 : 2 * i + 1 < n
    case neg =>
      have hc : (n : Int) ≤ 2 * (i : Int) + 1 := by omega
      have HZ := Lib.hid (HM.out.2.stop fun k k0 hk e => by rcases kids k0 e with h | h <;> omega)
      have HP := Lib.hid HM.out.1
      clear HM
      by_cases hii : i0 < i
      case pos =>
        have hii' : (i0 : Int) < (i : Int) := by omega
        have HY := HZ.out.2
        rw [if_pos hii] at HY
        go_wp2_with fail
        go_ret
        exact ⟨true, rfl, m, HP.out, HZ.out.1, HY⟩
      case neg =>
        have hii' : ¬ (i0 : Int) < (i : Int) := by omega
        have HY := HZ.out.2
        rw [if_neg hii] at HY
        go_wp2_with fail
        go_ret
        exact Or.inl ⟨rfl, m, HP.out, HZ.out.1, HY⟩
    case pos =>
      have hc : ¬ (n : Int) ≤ 2 * (i : Int) + 1 := by omega
      have hc2 : ¬ 2 * (i : Int) + 1 < 0 := by omega
      have HE : Hid (((2 * i + 1 : Nat) : Int) = 2 * (i : Int) + 1 ∧ ((2 * i + 2 : Nat) : Int) = 2 * (i : Int) + 1 + 1) := Lib.hid (by omega)
      have him : i < m.length := by omega
      have h1m : 2 * i + 1 < m.length := by omega
      have HP := Lib.hid HM.out.1
      have HM := Lib.hid HM.out.2
      by_cases h2 : 2 * i + 2 < n
      case neg =>
        have hc3 : ¬ 2 * (i : Int) + 1 + 1 < (n : Int) := by omega
        have HL := Lib.hid (least_one (l := m) (n := n) HO.out h2)
        obtain ⟨f, rv, hm, hcf, HC⟩ := HI.out.less m wr (2 * i + 1) i h1m him HP.out
        have HC := Lib.hid HC
        cases hb : lt m[2 * i + 1] m[i] with
        | false =>
          rw [hb] at HC
          have HZ := Lib.hid (HM.out.stop fun k k0 hk e => by
            have h1' : leA (leB lt) m i (2 * i + 1) := leA_leB him h1m hb
            exact leA_trans HO.out h1m h1' (HL.out k k0 hk e))
          clear hb HM
          simp only [HE.out.1] at hcf HC
          go_wp2_with fail
          refine HC.out.mono ?_; rintro en w1 ⟨rfl, hP1⟩
          have HP1 := Lib.hid hP1
          clear hP1
          clear hm hcf HC
          by_cases hii : i0 < i
          case pos =>
            have hii' : (i0 : Int) < (i : Int) := by omega
            have HY := HZ.out.2
            rw [if_pos hii] at HY
            go_wp2_with fail
            go_ret
            exact ⟨true, rfl, m, HP1.out, HZ.out.1, HY⟩
          case neg =>
            have hii' : ¬ (i0 : Int) < (i : Int) := by omega
            have HY := HZ.out.2
            rw [if_neg hii] at HY
            go_wp2_with fail
            go_ret
            exact ⟨false, rfl, m, HP1.out, HZ.out.1, HY⟩
        | true =>
          rw [hb] at HC
          have HD : Hid (Dw lt l (swp m i (2 * i + 1)) n i0 (2 * i + 1)) := Lib.hid (HM.out.step HO.out hn (by omega) (by omega) (par_left i) HL.out h1m him hb)
          clear hb HM
          simp only [HE.out.1] at hcf HC
          go_wp2_with fail
          refine HC.out.mono ?_; rintro en w1 ⟨rfl, hP1⟩
          clear hm hcf HC
          obtain ⟨f2, rv2, hm2, hc2, HC2⟩ := HI.out.swap m w1 i (2 * i + 1) him h1m hP1
          have HC2 := Lib.hid HC2
          clear hP1
          simp only [HE.out.1] at hc2 HC2
          go_wp2_with fail
          refine HC2.out.mono ?_; rintro en w2 ⟨rfl, hP2⟩
          have H2 := Lib.hid hP2
          clear hP2
          go_wp2_with fail
          go_roundg (gk - 1)
          case measure => omega
          case rel => exact ⟨2 * i + 1, by rw [HE.out.1], by omega, by omega, _, ⟨H2.out, HD.out⟩⟩
      case pos =>
        have hc3 : 2 * (i : Int) + 1 + 1 < (n : Int) := by omega
        have h2m : 2 * i + 2 < m.length := by omega
        obtain ⟨f0, rv0, hm0, hcf0, HC0⟩ := HI.out.less m wr (2 * i + 2) (2 * i + 1) h2m h1m HP.out
        have HC0 := Lib.hid HC0
        cases hb0 : lt m[2 * i + 2] m[2 * i + 1] with
        | false =>
          rw [hb0] at HC0
          have HL := Lib.hid (least_left (n := n) HO.out h1m h2m hb0)
          clear hb0
          simp only [HE.out.1, HE.out.2] at hcf0 HC0
          go_wp2_with fail
          refine HC0.out.mono ?_; rintro en w0 ⟨rfl, hP0⟩
          have HP0 := Lib.hid hP0
          clear hP0 hm0 hcf0 HC0
          obtain ⟨f, rv, hm, hcf, HC⟩ := HI.out.less m w0 (2 * i + 1) i h1m him HP0.out
          have HC := Lib.hid HC
          cases hb : lt m[2 * i + 1] m[i] with
          | false =>
            rw [hb] at HC
            have HZ := Lib.hid (HM.out.stop fun k k0 hk e => by
              have h1' : leA (leB lt) m i (2 * i + 1) := leA_leB him h1m hb
              exact leA_trans HO.out h1m h1' (HL.out k k0 hk e))
            clear hb HM
            simp only [HE.out.1] at hcf HC
            go_wp2_with fail
            refine HC.out.mono ?_; rintro en w1 ⟨rfl, hP1⟩
            have HP1 := Lib.hid hP1
            clear hP1
            clear hm hcf HC
            by_cases hii : i0 < i
            case pos =>
              have hii' : (i0 : Int) < (i : Int) := by omega
              have HY := HZ.out.2
              rw [if_pos hii] at HY
              go_wp2_with fail
              go_ret
              exact ⟨true, rfl, m, HP1.out, HZ.out.1, HY⟩
            case neg =>
              have hii' : ¬ (i0 : Int) < (i : Int) := by omega
              have HY := HZ.out.2
              rw [if_neg hii] at HY
              go_wp2_with fail
              go_ret
              exact ⟨false, rfl, m, HP1.out, HZ.out.1, HY⟩
          | true =>
            rw [hb] at HC
            have HD : Hid (Dw lt l (swp m i (2 * i + 1)) n i0 (2 * i + 1)) := Lib.hid (HM.out.step HO.out hn (by omega) (by omega) (par_left i) HL.out h1m him hb)
            clear hb HM
            simp only [HE.out.1] at hcf HC
            go_wp2_with fail
            refine HC.out.mono ?_; rintro en w1 ⟨rfl, hP1⟩
            clear hm hcf HC
            obtain ⟨f2, rv2, hm2, hc2, HC2⟩ := HI.out.swap m w1 i (2 * i + 1) him h1m hP1
            have HC2 := Lib.hid HC2
            clear hP1
            simp only [HE.out.1] at hc2 HC2
            go_wp2_with fail
            refine HC2.out.mono ?_; rintro en w2 ⟨rfl, hP2⟩
            have H2 := Lib.hid hP2
            clear hP2
            go_wp2_with fail
            go_roundg (gk - 1)
            case measure => omega
            case rel => exact ⟨2 * i + 1, by rw [HE.out.1], by omega, by omega, _, ⟨H2.out, HD.out⟩⟩
        | true =>
          rw [hb0] at HC0
          have HL := Lib.hid (least_right (n := n) HO.out h1m h2m hb0)
          clear hb0
          simp only [HE.out.1, HE.out.2] at hcf0 HC0
          go_wp2_with fail
          refine HC0.out.mono ?_; rintro en w0 ⟨rfl, hP0⟩
          have HP0 := Lib.hid hP0
          clear hP0 hm0 hcf0 HC0
          obtain ⟨f, rv, hm, hcf, HC⟩ := HI.out.less m w0 (2 * i + 2) i h2m him HP0.out
          have HC := Lib.hid HC
          cases hb : lt m[2 * i + 2] m[i] with
          | false =>
            rw [hb] at HC
            have HZ := Lib.hid (HM.out.stop fun k k0 hk e => by
              have h1' : leA (leB lt) m i (2 * i + 2) := leA_leB him h2m hb
              exact leA_trans HO.out h2m h1' (HL.out k k0 hk e))
            clear hb HM
            simp only [HE.out.2] at hcf HC
            go_wp2_with fail
            refine HC.out.mono ?_; rintro en w1 ⟨rfl, hP1⟩
            have HP1 := Lib.hid hP1
            clear hP1
            clear hm hcf HC
            by_cases hii : i0 < i
            case pos =>
              have hii' : (i0 : Int) < (i : Int) := by omega
              have HY := HZ.out.2
              rw [if_pos hii] at HY
              go_wp2_with fail
              go_ret
              exact ⟨true, rfl, m, HP1.out, HZ.out.1, HY⟩
            case neg =>
              have hii' : ¬ (i0 : Int) < (i : Int) := by omega
              have HY := HZ.out.2
              rw [if_neg hii] at HY
              go_wp2_with fail
              go_ret
              exact ⟨false, rfl, m, HP1.out, HZ.out.1, HY⟩
          | true =>
            rw [hb] at HC
            have HD : Hid (Dw lt l (swp m i (2 * i + 2)) n i0 (2 * i + 2)) := Lib.hid (HM.out.step HO.out hn (by omega) (by omega) (par_right i) HL.out h2m him hb)
            clear hb HM
            simp only [HE.out.2] at hcf HC
            go_wp2_with fail
            refine HC.out.mono ?_; rintro en w1 ⟨rfl, hP1⟩
            clear hm hcf HC
            obtain ⟨f2, rv2, hm2, hc2, HC2⟩ := HI.out.swap m w1 i (2 * i + 2) him h2m hP1
            have HC2 := Lib.hid HC2
            clear hP1
            simp only [HE.out.2] at hc2 HC2
            go_wp2_with fail
            refine HC2.out.mono ?_; rintro en w2 ⟨rfl, hP2⟩
            have H2 := Lib.hid hP2
            clear hP2
            go_wp2_with fail
            go_roundg (gk - 1)
            case measure => omega
            case rel => exact ⟨2 * i + 2, by rw [HE.out.2], by omega, by omega, _, ⟨H2.out, HD.out⟩⟩
end Go.Proofs.Ytabhnnffohnecaa.Ea
