/- Package container/heap: up, down, over any value of its interface whose methods keep a list (Iface). Conditions: bounds. (347 in the template: the fuel of a method search, the number of the types in the seat and 100: fill.py writes it.) -/
import Derived.Test.YtmjlhmohglbecaaGreatDoorEa1
import Derived.Test.YtmjlhmohglbecaaGreatDoorRows
import Derived.WalkKit
import Derived.ProofKit
import Derived.OpenShut
import Derived.WalkSmall
import Derived.WalkSpells
import Derived.WalkLawsBesides
import Derived.Outline
import Derived.Lib.Hide
import Derived.Deep.RegionWith
import Derived.Deep.LoopGhost
import Derived.OwnWalk
import Derived.IntWalk
import Derived.Laws.AppendOwn
import Derived.Laws.IdiomStrings
import Derived.Lib.Strings
import Derived.Maps.OwnSet
import Derived.Deep.QuietTactic
import Derived.BigQuiet
import Derived.BigRegion
namespace Go.Proofs.YtmjlhmohglbecaaGreatDoor.Ea
open Go.ChangeShapes Go.WideShapes Go.ChangeAt Go.RowKit
/-- A method m of the value v of type T: found, entered, and what it answers. -/
def Inv (w : World) (T : TypeId) (v : Value) (m : String) (args : Value → Array Value) (Q : Ending → World → Prop) : Prop :=
  ∃ f rv, (method 347 T v m).run Tryz.prog w = .ok (f, rv) w ∧ (callFunc f (args rv)).run Tryz.prog w = .ok (.enter f (args rv)) w ∧ Calls Tryz.prog f (args rv) w Q
theorem Inv.mono {w : World} {T : TypeId} {v : Value} {m : String} {args : Value → Array Value} {Q Q' : Ending → World → Prop} (h : Inv w T v m args Q) (hQ : ∀ e w', Q e w' → Q' e w') : Inv w T v m args Q' := by
  obtain ⟨f, rv, h1, h2, h3⟩ := h
  exact ⟨f, rv, h1, h2, h3.mono hQ⟩
/-- A value of the interface whose first three methods keep the list that P says. -/
structure Iface {α : Type} (P : List α → World → Prop) (lt : α → α → Bool) (T : TypeId) (v : Value) : Prop where
  len : ∀ l w, P l w → Inv w T v "Len" (fun r => #[r]) fun e w' => e = .returned (.int .i64 l.length) ∧ P l w'
  less : ∀ l w (i j : Nat) (hi : i < l.length) (hj : j < l.length), P l w → Inv w T v "Less" (fun r => #[r, .int .i64 i, .int .i64 j]) fun e w' => e = .returned (.bool (lt l[i] l[j])) ∧ P l w'
  swap : ∀ l w (i j : Nat), i < l.length → j < l.length → P l w → Inv w T v "Swap" (fun r => #[r, .int .i64 i, .int .i64 j]) fun e w' => e = .returned (.tuple #[]) ∧ P (swp l i j) w'
def leB {α : Type} (lt : α → α → Bool) (a b : α) : Prop := lt b a = false
/-- l' is l but for the order of the first n. -/
structure Sh {α : Type} (l l' : List α) (n : Nat) : Prop where
  perm : List.Perm l' l
  rest : ∀ k, n ≤ k → l'[k]? = l[k]?
section
variable {α : Type} {l l' l'' : List α} {n i j : Nat}
theorem Sh.refl (l : List α) (n : Nat) : Sh l l n := ⟨.refl _, fun _ _ => rfl⟩
theorem Sh.trans (h : Sh l l' n) (k : Sh l' l'' n) : Sh l l'' n := ⟨k.perm.trans h.perm, fun m hm => (k.rest m hm).trans (h.rest m hm)⟩
theorem Sh.len (h : Sh l l' n) : l'.length = l.length := h.perm.length_eq
theorem Sh.swp (hi : i < n) (hj : j < n) (hn : n ≤ l.length) : Sh l (swp l i j) n := ⟨swp_perm, fun k hk => by
  rw [swp_get (by omega) (by omega), if_neg (by omega), if_neg (by omega)]⟩
theorem leA_leB {lt : α → α → Bool} (hi : i < l.length) (hj : j < l.length) (h : lt l[j] l[i] = false) : leA (leB lt) l i j := leA_of hi hj h
theorem leA_lt {lt : α → α → Bool} (o : Ord (leB lt)) (hi : i < l.length) (hj : j < l.length) (h : lt l[i] l[j] = true) : leA (leB lt) l i j := leA_of hi hj (by
  rcases o.total l[i] l[j] with h1 | h1
  · exact h1
  · unfold leB at h1; rw [h] at h1; cases h1)
theorem par_nat {j : Nat} (h : 0 < j) : ((j : Int) - 1).tdiv 2 = ((par j : Nat) : Int) := by
  unfold par
  rw [show (j : Int) - 1 = ((j - 1 : Nat) : Int) by omega]
  exact (Int.ofNat_tdiv _ _).symm
theorem kids {k i : Nat} (h : 0 < k) (e : par k = i) : k = 2 * i + 1 ∨ k = 2 * i + 2 := by unfold par at e; omega
end
set_option maxHeartbeats 4000000 in
set_option maxRecDepth 100000 in
theorem up_calls {α : Type} {P : List α → World → Prop} {lt : α → α → Bool} {T : TypeId} {v : Value} (hI : Iface P lt T v) (o : Ord (leB lt)) (w : World) (l : List α) (n j : Nat) (hn : n ≤ l.length) (hl : l.length ≤ 1000000000) (hj : j < n) (hP : P l w) (hU : Up (leB lt) l n j) :
    Calls Tryz.prog 110 #[.iface T v, .int .i64 j] w fun e w' => e = .returned (.tuple #[]) ∧ ∃ l', P l' w' ∧ Sh l l' n ∧ Hp (leB lt) l' n := by
  have HI := Lib.hid hI
  have HO := Lib.hid o
  have H0 : Hid (P l w ∧ Sh l l n ∧ Up (leB lt) l n j) := Lib.hid ⟨hP, Sh.refl l n, hU⟩
  clear hI o hP hU
  go_enter Tryz.func110, Tryz.ntmps110
  go_wp2_with fail
  go_loopg [1] (j + 1) (fun g a wr => ∃ i : Nat, a = .int .i64 i ∧ i < n ∧ i ≤ g ∧ ∃ m, Hid (P m wr ∧ Sh l m n ∧ Up (leB lt) m n i))
  case atStart => exact ⟨j, rfl, hj, by omega, l, H0⟩
  case round =>
    obtain ⟨i, rfl, hi, hg, m, HM⟩ := hrel
    clear H0
    by_cases i0 : i = 0
    case pos =>
      subst i0
      have HZ : Hid (Hp (leB lt) m n) := Lib.hid (HM.out.2.2.done (.inl rfl))
      go_wp2_with fail
      go_end0
      exact ⟨rfl, m, HM.out.1, HM.out.2.1, HZ.out⟩
    case neg =>
      have hml : m.length = l.length := HM.out.2.1.len
      have hp := par_lt (k := i) (by omega)
      have e := par_nat (j := i) (by omega)
      have hne : ¬ ((par i : Int) = (i : Int)) := by omega
      have him : i < m.length := by omega
      have hpm : par i < m.length := by omega
      obtain ⟨f, rv, hm, hc, HC⟩ := HI.out.less m wr i (par i) him hpm HM.out.1
      have HC := Lib.hid HC
      cases hb : lt m[i] m[par i] with
      | false =>
        rw [hb] at HC
        have HZ : Hid (Hp (leB lt) m n) := Lib.hid (HM.out.2.2.done (.inr (leA_leB hpm him hb)))
        have HS := Lib.hid HM.out.2.1
        clear hb HM
        dsimp only at hc
        go_wp2_with fail
        refine HC.out.mono ?_; rintro en w1 ⟨rfl, hP1⟩
        go_wp2_with fail
        go_end0
        exact ⟨rfl, m, hP1, HS.out, HZ.out⟩
      | true =>
        rw [hb] at HC
        have HU : Hid (Up (leB lt) (swp m (par i) i) n (par i)) := Lib.hid (HM.out.2.2.step HO.out (by omega) hi (by omega) (leA_lt HO.out him hpm hb))
        have HS : Hid (Sh l (swp m (par i) i) n) := Lib.hid (HM.out.2.1.trans (Sh.swp (by omega) hi (by omega)))
        clear hb HM
        dsimp only at hc
        go_wp2_with fail
        refine HC.out.mono ?_; rintro en w1 ⟨rfl, hP1⟩
        clear hm hc HC
        obtain ⟨f2, rv2, hm2, hc2, HC2⟩ := HI.out.swap m w1 (par i) i hpm him hP1
        have HC2 := Lib.hid HC2
        clear hP1
        dsimp only at hc2
        go_wp2_with fail
        refine HC2.out.mono ?_; rintro en w2 ⟨rfl, hP2⟩
        have H2 := Lib.hid hP2
        clear hP2
        go_wp2_with fail
        go_roundg (gk - 1)
        case measure => omega
        case rel => exact ⟨par i, rfl, by omega, by omega, _, ⟨H2.out, HS.out, HU.out⟩⟩
end Go.Proofs.YtmjlhmohglbecaaGreatDoor.Ea
/- Package container/heap: down. Conditions: bounds. -/
namespace Go.Proofs.YtmjlhmohglbecaaGreatDoor.Ea
open Go.ChangeShapes Go.WideShapes Go.ChangeAt Go.RowKit
section
variable {α : Type} {l : List α} {n i j : Nat}
theorem par_left (i : Nat) : par (2 * i + 1) = i := by unfold par; omega
theorem par_right (i : Nat) : par (2 * i + 2) = i := by unfold par; omega
/-- The lesser child, where there is but one. -/
theorem least_one {lt : α → α → Bool} (o : Ord (leB lt)) (h2 : ¬ 2 * i + 2 < n) : ∀ k, 0 < k → k < n → par k = i → leA (leB lt) l (2 * i + 1) k := fun k k0 hk e => by
  rcases kids k0 e with h | h
  · rw [h]; exact leA_refl o _
  · omega
theorem least_left {lt : α → α → Bool} (o : Ord (leB lt)) (h1 : 2 * i + 1 < l.length) (h2 : 2 * i + 2 < l.length) (h : lt l[2 * i + 2] l[2 * i + 1] = false) : ∀ k, 0 < k → k < n → par k = i → leA (leB lt) l (2 * i + 1) k := fun k k0 _ e => by
  rcases kids k0 e with h' | h'
  · rw [h']; exact leA_refl o _
  · rw [h']; exact leA_leB h1 h2 h
theorem least_right {lt : α → α → Bool} (o : Ord (leB lt)) (h1 : 2 * i + 1 < l.length) (h2 : 2 * i + 2 < l.length) (h : lt l[2 * i + 2] l[2 * i + 1] = true) : ∀ k, 0 < k → k < n → par k = i → leA (leB lt) l (2 * i + 2) k := fun k k0 _ e => by
  rcases kids k0 e with h' | h'
  · rw [h']; exact leA_lt o h2 h1 h
  · rw [h']; exact leA_refl o _
end
/-- What going down keeps: it is at i, and behind its start all is in order but there. -/
def Dw {α : Type} (lt : α → α → Bool) (l m : List α) (n i0 i : Nat) : Prop := Sh l m n ∧ Dn (leB lt) m n i ∧ i0 ≤ i ∧ (i = i0 ∨ leA (leB lt) m (par i) i ∧ 0 < i)
section
variable {α : Type} {lt : α → α → Bool} {l m : List α} {n i0 i j : Nat}
theorem Dw.step (h : Dw lt l m n i0 i) (o : Ord (leB lt)) (hn : n ≤ l.length) (hj : j < n) (h0 : 0 < j) (hp : par j = i) (hm : ∀ k, 0 < k → k < n → par k = i → leA (leB lt) m j k) (hjm : j < m.length) (him : i < m.length) (hl : lt m[j] m[i] = true) : Dw lt l (swp m i j) n i0 j := by
  have hlt := par_lt h0
  have hml := h.1.len
  obtain ⟨h1, h2⟩ := h.2.1.step (by omega) hj h0 hp hm (leA_lt o hjm him hl)
  refine ⟨h.1.trans (Sh.swp (by omega) hj (by omega)), h1, ?_, .inr ⟨by rw [hp]; exact h2, h0⟩⟩
  have := h.2.2.1
  omega
/-- At the end. -/
theorem Dw.stop (h : Dw lt l m n i0 i) (hc : ∀ k, 0 < k → k < n → par k = i → leA (leB lt) m i k) : Sh l m n ∧ if i0 < i then Hp (leB lt) m n else Up (leB lt) m n i0 := by
  refine ⟨h.1, ?_⟩
  have hu := h.2.1.done hc
  split
  · rcases h.2.2.2 with e | e
    · omega
    · exact hu.done (.inr e.1)
  · have := h.2.2.1
    have e : i = i0 := by omega
    rw [← e]; exact hu
end
set_option maxHeartbeats 8000000 in
set_option maxRecDepth 100000 in
theorem down_calls {α : Type} {P : List α → World → Prop} {lt : α → α → Bool} {T : TypeId} {v : Value} (hI : Iface P lt T v) (o : Ord (leB lt)) (w : World) (l : List α) (n i0 : Nat) (hn : n ≤ l.length) (hl : l.length ≤ 1000000000) (hi0 : i0 ≤ n) (hP : P l w) (hD : Dn (leB lt) l n i0) :
    Calls Tryz.prog 109 #[.iface T v, .int .i64 i0, .int .i64 n] w fun e w' => ∃ b : Bool, e = .returned (.bool b) ∧ ∃ l', P l' w' ∧ Sh l l' n ∧ if b = true then Hp (leB lt) l' n else Up (leB lt) l' n i0 := by
  have HI := Lib.hid hI
  have HO := Lib.hid o
  have H0 : Hid (P l w ∧ Dw lt l l n i0 i0) := Lib.hid ⟨hP, Sh.refl l n, hD, Nat.le_refl _, .inl rfl⟩
  clear hI o hP hD
  go_enter Tryz.func109, Tryz.ntmps109
  go_wp2_with fail
  go_loopg [7] (n - i0 + 1) (fun g a wr => ∃ i : Nat, a = .int .i64 i ∧ i ≤ n ∧ n - i ≤ g ∧ ∃ m, Hid (P m wr ∧ Dw lt l m n i0 i))
  case atStart => exact ⟨i0, rfl, hi0, by omega, l, H0⟩
  case round =>
    obtain ⟨i, rfl, hi, hg, m, HM⟩ := hrel
    clear H0
    have hml : m.length = l.length := HM.out.2.1.len
    by_cases h1 : 2 * i + 1 < n
    case neg =>
      have hc : (n : Int) ≤ 2 * (i : Int) + 1 := by omega
      have HZ := Lib.hid (HM.out.2.stop fun k k0 hk e => by rcases kids k0 e with h | h <;> omega)
      have HP := Lib.hid HM.out.1
      clear HM
      by_cases hii : i0 < i
      case pos =>
        have hii' : (i0 : Int) < (i : Int) := by omega
        have HY := HZ.out.2
        rw [if_pos hii] at HY
        go_wp2_with fail
        go_ret
        exact ⟨true, rfl, m, HP.out, HZ.out.1, HY⟩
      case neg =>
        have hii' : ¬ (i0 : Int) < (i : Int) := by omega
        have HY := HZ.out.2
        rw [if_neg hii] at HY
        go_wp2_with fail
        go_ret
        exact Or.inl ⟨rfl, m, HP.out, HZ.out.1, HY⟩
    case pos =>
      have hc : ¬ (n : Int) ≤ 2 * (i : Int) + 1 := by omega
      have hc2 : ¬ 2 * (i : Int) + 1 < 0 := by omega
      have HE : Hid (((2 * i + 1 : Nat) : Int) = 2 * (i : Int) + 1 ∧ ((2 * i + 2 : Nat) : Int) = 2 * (i : Int) + 1 + 1) := Lib.hid (by omega)
      have him : i < m.length := by omega
      have h1m : 2 * i + 1 < m.length := by omega
      have HP := Lib.hid HM.out.1
      have HM := Lib.hid HM.out.2
      by_cases h2 : 2 * i + 2 < n
      case neg =>
        have hc3 : ¬ 2 * (i : Int) + 1 + 1 < (n : Int) := by omega
        have HL := Lib.hid (least_one (l := m) (n := n) HO.out h2)
        obtain ⟨f, rv, hm, hcf, HC⟩ := HI.out.less m wr (2 * i + 1) i h1m him HP.out
        have HC := Lib.hid HC
        cases hb : lt m[2 * i + 1] m[i] with
        | false =>
          rw [hb] at HC
          have HZ := Lib.hid (HM.out.stop fun k k0 hk e => by
            have h1' : leA (leB lt) m i (2 * i + 1) := leA_leB him h1m hb
            exact leA_trans HO.out h1m h1' (HL.out k k0 hk e))
          clear hb HM
          simp only [HE.out.1] at hcf HC
          go_wp2_with fail
          refine HC.out.mono ?_; rintro en w1 ⟨rfl, hP1⟩
          have HP1 := Lib.hid hP1
          clear hP1
          clear hm hcf HC
          by_cases hii : i0 < i
          case pos =>
            have hii' : (i0 : Int) < (i : Int) := by omega
            have HY := HZ.out.2
            rw [if_pos hii] at HY
            go_wp2_with fail
            go_ret
            exact ⟨true, rfl, m, HP1.out, HZ.out.1, HY⟩
          case neg =>
            have hii' : ¬ (i0 : Int) < (i : Int) := by omega
            have HY := HZ.out.2
            rw [if_neg hii] at HY
            go_wp2_with fail
            go_ret
            exact ⟨false, rfl, m, HP1.out, HZ.out.1, HY⟩
        | true =>
          rw [hb] at HC
          have HD : Hid (Dw lt l (swp m i (2 * i + 1)) n i0 (2 * i + 1)) := Lib.hid (HM.out.step HO.out hn (by omega) (by omega) (par_left i) HL.out h1m him hb)
          clear hb HM
          simp only [HE.out.1] at hcf HC
          go_wp2_with fail
          refine HC.out.mono ?_; rintro en w1 ⟨rfl, hP1⟩
          clear hm hcf HC
          obtain ⟨f2, rv2, hm2, hc2, HC2⟩ := HI.out.swap m w1 i (2 * i + 1) him h1m hP1
          have HC2 := Lib.hid HC2
          clear hP1
          simp only [HE.out.1] at hc2 HC2
          go_wp2_with fail
          refine HC2.out.mono ?_; rintro en w2 ⟨rfl, hP2⟩
          have H2 := Lib.hid hP2
          clear hP2
          go_wp2_with fail
          go_roundg (gk - 1)
          case measure => omega
          case rel => exact ⟨2 * i + 1, by rw [HE.out.1], by omega, by omega, _, ⟨H2.out, HD.out⟩⟩
      case pos =>
        have hc3 : 2 * (i : Int) + 1 + 1 < (n : Int) := by omega
        have h2m : 2 * i + 2 < m.length := by omega
        obtain ⟨f0, rv0, hm0, hcf0, HC0⟩ := HI.out.less m wr (2 * i + 2) (2 * i + 1) h2m h1m HP.out
        have HC0 := Lib.hid HC0
        cases hb0 : lt m[2 * i + 2] m[2 * i + 1] with
        | false =>
          rw [hb0] at HC0
          have HL := Lib.hid (least_left (n := n) HO.out h1m h2m hb0)
          clear hb0
          simp only [HE.out.1, HE.out.2] at hcf0 HC0
          go_wp2_with fail
          refine HC0.out.mono ?_; rintro en w0 ⟨rfl, hP0⟩
          have HP0 := Lib.hid hP0
          clear hP0 hm0 hcf0 HC0
          obtain ⟨f, rv, hm, hcf, HC⟩ := HI.out.less m w0 (2 * i + 1) i h1m him HP0.out
          have HC := Lib.hid HC
          cases hb : lt m[2 * i + 1] m[i] with
          | false =>
            rw [hb] at HC
            have HZ := Lib.hid (HM.out.stop fun k k0 hk e => by
              have h1' : leA (leB lt) m i (2 * i + 1) := leA_leB him h1m hb
              exact leA_trans HO.out h1m h1' (HL.out k k0 hk e))
            clear hb HM
            simp only [HE.out.1] at hcf HC
            go_wp2_with fail
            refine HC.out.mono ?_; rintro en w1 ⟨rfl, hP1⟩
            have HP1 := Lib.hid hP1
            clear hP1
            clear hm hcf HC
            by_cases hii : i0 < i
            case pos =>
              have hii' : (i0 : Int) < (i : Int) := by omega
              have HY := HZ.out.2
              rw [if_pos hii] at HY
              go_wp2_with fail
              go_ret
              exact ⟨true, rfl, m, HP1.out, HZ.out.1, HY⟩
            case neg =>
              have hii' : ¬ (i0 : Int) < (i : Int) := by omega
              have HY := HZ.out.2
              rw [if_neg hii] at HY
              go_wp2_with fail
              go_ret
              exact ⟨false, rfl, m, HP1.out, HZ.out.1, HY⟩
          | true =>
            rw [hb] at HC
            have HD : Hid (Dw lt l (swp m i (2 * i + 1)) n i0 (2 * i + 1)) := Lib.hid (HM.out.step HO.out hn (by omega) (by omega) (par_left i) HL.out h1m him hb)
            clear hb HM
            simp only [HE.out.1] at hcf HC
            go_wp2_with fail
            refine HC.out.mono ?_; rintro en w1 ⟨rfl, hP1⟩
            clear hm hcf HC
            obtain ⟨f2, rv2, hm2, hc2, HC2⟩ := HI.out.swap m w1 i (2 * i + 1) him h1m hP1
            have HC2 := Lib.hid HC2
            clear hP1
            simp only [HE.out.1] at hc2 HC2
            go_wp2_with fail
            refine HC2.out.mono ?_; rintro en w2 ⟨rfl, hP2⟩
            have H2 := Lib.hid hP2
            clear hP2
            go_wp2_with fail
            go_roundg (gk - 1)
            case measure => omega
            case rel => exact ⟨2 * i + 1, by rw [HE.out.1], by omega, by omega, _, ⟨H2.out, HD.out⟩⟩
        | true =>
          rw [hb0] at HC0
          have HL := Lib.hid (least_right (n := n) HO.out h1m h2m hb0)
          clear hb0
          simp only [HE.out.1, HE.out.2] at hcf0 HC0
          go_wp2_with fail
          refine HC0.out.mono ?_; rintro en w0 ⟨rfl, hP0⟩
          have HP0 := Lib.hid hP0
          clear hP0 hm0 hcf0 HC0
          obtain ⟨f, rv, hm, hcf, HC⟩ := HI.out.less m w0 (2 * i + 2) i h2m him HP0.out
          have HC := Lib.hid HC
          cases hb : lt m[2 * i + 2] m[i] with
          | false =>
            rw [hb] at HC
            have HZ := Lib.hid (HM.out.stop fun k k0 hk e => by
              have h1' : leA (leB lt) m i (2 * i + 2) := leA_leB him h2m hb
              exact leA_trans HO.out h2m h1' (HL.out k k0 hk e))
            clear hb HM
            simp only [HE.out.2] at hcf HC
            go_wp2_with fail
            refine HC.out.mono ?_; rintro en w1 ⟨rfl, hP1⟩
            have HP1 := Lib.hid hP1
            clear hP1
            clear hm hcf HC
            by_cases hii : i0 < i
            case pos =>
              have hii' : (i0 : Int) < (i : Int) := by omega
              have HY := HZ.out.2
              rw [if_pos hii] at HY
              go_wp2_with fail
              go_ret
              exact ⟨true, rfl, m, HP1.out, HZ.out.1, HY⟩
            case neg =>
              have hii' : ¬ (i0 : Int) < (i : Int) := by omega
              have HY := HZ.out.2
              rw [if_neg hii] at HY
              go_wp2_with fail
              go_ret
              exact ⟨false, rfl, m, HP1.out, HZ.out.1, HY⟩
          | true =>
            rw [hb] at HC
            have HD : Hid (Dw lt l (swp m i (2 * i + 2)) n i0 (2 * i + 2)) := Lib.hid (HM.out.step HO.out hn (by omega) (by omega) (par_right i) HL.out h2m him hb)
            clear hb HM
            simp only [HE.out.2] at hcf HC
            go_wp2_with fail
            refine HC.out.mono ?_; rintro en w1 ⟨rfl, hP1⟩
            clear hm hcf HC
            obtain ⟨f2, rv2, hm2, hc2, HC2⟩ := HI.out.swap m w1 i (2 * i + 2) him h2m hP1
            have HC2 := Lib.hid HC2
            clear hP1
            simp only [HE.out.2] at hc2 HC2
            go_wp2_with fail
            refine HC2.out.mono ?_; rintro en w2 ⟨rfl, hP2⟩
            have H2 := Lib.hid hP2
            clear hP2
            go_wp2_with fail
            go_roundg (gk - 1)
            case measure => omega
            case rel => exact ⟨2 * i + 2, by rw [HE.out.2], by omega, by omega, _, ⟨H2.out, HD.out⟩⟩
end Go.Proofs.YtmjlhmohglbecaaGreatDoor.Ea
/- Package container/heap: Push, Pop, Fix, Remove. Conditions: bounds. -/
namespace Go.Proofs.YtmjlhmohglbecaaGreatDoor.Ea
open Go.ChangeShapes Go.WideShapes Go.ChangeAt Go.RowKit
section
variable {α : Type} {l l' : List α} {n : Nat}
theorem Sh.last (h : Sh l l' n) {a : α} (hl : l.length = n + 1) (ha : l[n]? = some a) : ∃ m, l' = m ++ [a] := by
  have h1 := h.rest n (Nat.le_refl _)
  rw [ha] at h1
  have h2 := h.len
  have hne : l' ≠ [] := fun e => by rw [e] at h2; simp at h2; omega
  refine ⟨l'.dropLast, ?_⟩
  have h3 := List.dropLast_concat_getLast hne
  rw [List.getLast_eq_getElem] at h3
  have hn : l'.length - 1 = n := by omega
  have h4 : l'[l'.length - 1]'(by omega) = a := by
    have := List.getElem?_eq_getElem (l := l') (i := l'.length - 1) (by omega)
    rw [← hn] at h1
    rw [h1] at this
    exact (Option.some.inj this).symm
  rw [h4] at h3
  exact h3.symm
theorem Hp.init {le : α → α → Prop} {a : α} (h : Hp le (l ++ [a]) n) (hn : n ≤ l.length) : Hp le l n := fun k h0 hk => by
  have := h k h0 hk
  have hp := par_lt h0
  unfold leA at this ⊢
  rw [List.getElem?_append_left (by omega), List.getElem?_append_left (by omega)] at this
  exact this
end
set_option maxHeartbeats 4000000 in
set_option maxRecDepth 100000 in
theorem fix_calls {α : Type} {P : List α → World → Prop} {lt : α → α → Bool} {T : TypeId} {v : Value} (hI : Iface P lt T v) (o : Ord (leB lt)) (w : World) (l : List α) (i : Nat) (hl : l.length ≤ 1000000000) (hi : i < l.length) (hP : P l w) (hD : Dn (leB lt) l l.length i) :
    Calls Tryz.prog 85 #[.iface T v, .int .i64 i] w fun e w' => e = .returned (.tuple #[]) ∧ ∃ l', P l' w' ∧ List.Perm l' l ∧ Hp (leB lt) l' l.length := by
  have HI := Lib.hid hI
  have HO := Lib.hid o
  have HD := Lib.hid hD
  obtain ⟨f, rv, hm, hcf, HC⟩ := hI.len l w hP
  have HC := Lib.hid HC
  clear hI o hP hD
  dsimp only at hcf
  go_enter Tryz.func85, Tryz.ntmps85
  go_wp2_with fail
  refine HC.out.mono ?_; rintro en w1 ⟨rfl, hP1⟩
  have H2 := Lib.hid (down_calls HI.out HO.out w1 l l.length i (Nat.le_refl _) hl (Nat.le_of_lt hi) hP1 HD.out)
  clear hm hcf HC hP1
  go_wp2_with fail
  refine H2.out.mono ?_; rintro en w2 ⟨b, rfl, l2, hP2, hS2, hb⟩
  have HS2 := Lib.hid hS2
  cases b with
  | true =>
    have HB : Hid (Hp (leB lt) l2 l.length) := Lib.hid hb
    have HP2 := Lib.hid hP2
    clear hb hP2 hS2 H2
    go_wp2_with fail
    go_end0
    exact ⟨rfl, l2, HP2.out, HS2.out.perm, HB.out⟩
  | false =>
    have hlen := hS2.len
    have H3 := Lib.hid (up_calls HI.out HO.out w2 l2 l.length i (by omega) (by omega) hi hP2 hb)
    clear hb hP2 hS2 H2
    go_wp2_with fail
    refine H3.out.mono ?_; rintro en w3 ⟨rfl, l3, hP3, hS3, hb3⟩
    have HZ := Lib.hid (And.intro hP3 (And.intro hS3 hb3))
    clear hP3 hS3 hb3 H3
    go_wp2_with fail
    go_end0
    exact ⟨rfl, l3, HZ.out.1, HZ.out.2.1.perm.trans HS2.out.perm, HZ.out.2.2⟩
set_option maxHeartbeats 4000000 in
set_option maxRecDepth 100000 in
theorem push_calls {α : Type} {P : List α → World → Prop} {lt : α → α → Bool} {T : TypeId} {v : Value} (hI : Iface P lt T v) (o : Ord (leB lt)) (w : World) (l : List α) (a : α) (x : Value) (hl : l.length < 1000000000)
    (hX : Inv w T v "Push" (fun r => #[r, x]) fun e w' => e = .returned (.tuple #[]) ∧ P (l ++ [a]) w') (hH : Hp (leB lt) l l.length) :
    Calls Tryz.prog 86 #[.iface T v, x] w fun e w' => e = .returned (.tuple #[]) ∧ ∃ l', P l' w' ∧ List.Perm l' (l ++ [a]) ∧ Hp (leB lt) l' (l.length + 1) := by
  have HI := Lib.hid hI
  have HO := Lib.hid o
  have HH := Lib.hid (hH.more a rfl)
  obtain ⟨f, rv, hm, hcf, HC⟩ := hX
  have HC := Lib.hid HC
  have hlen : (l ++ [a]).length = l.length + 1 := by simp
  clear hI o hH
  dsimp only at hcf
  generalize l ++ [a] = m at *
  go_enter Tryz.func86, Tryz.ntmps86
  go_wp2_with fail
  refine HC.out.mono ?_; rintro en w1 ⟨rfl, hP1⟩
  clear hm hcf HC
  obtain ⟨f2, rv2, hm2, hcf2, HC2⟩ := HI.out.len m w1 hP1
  have HC2 := Lib.hid HC2
  rw [hlen] at HC2
  clear hP1
  dsimp only at hcf2
  go_wp2_with fail
  refine HC2.out.mono ?_; rintro en w2 ⟨rfl, hP2⟩
  have H3 := Lib.hid (up_calls HI.out HO.out w2 m (l.length + 1) l.length (by omega) (by omega) (by omega) hP2 HH.out)
  have e1 : (((l.length + 1 : Nat) : Int) - 1) = (l.length : Int) := by omega
  clear hm2 hcf2 HC2 hP2
  go_wp2_with fail
  refine H3.out.mono ?_; rintro en w3 ⟨rfl, l3, hP3, hS3, hb3⟩
  have HZ := Lib.hid (And.intro hP3 (And.intro hS3 hb3))
  clear hP3 hS3 hb3 H3
  go_wp2_with fail
  go_end0
  exact ⟨rfl, l3, HZ.out.1, HZ.out.2.1.perm, HZ.out.2.2⟩
/-- What a removed one's Pop leaves. -/
def PopC {α : Type} (P : List α → World → Prop) (T : TypeId) (v : Value) (R : α → List α → Ending → World → Prop) : Prop := ∀ l a w, P (l ++ [a]) w → Inv w T v "Pop" (fun r => #[r]) (R a l)
theorem swp_last {α : Type} {l : List α} {n i : Nat} (hl : l.length = n + 1) (hi : i < n) : (swp l i n)[n]? = some (l[i]'(by omega)) := by
  rw [swp_get (by omega) (by omega), if_neg (by omega), if_pos rfl]
  exact List.getElem?_eq_getElem (by omega)
/-- A heap of n + 1 whose i-th and last have changed places: the first n are one but at i. -/
theorem Hp.cut {α : Type} {le : α → α → Prop} {l : List α} {n i : Nat} (h : Hp le l (n + 1)) (o : Ord le) (hl : l.length = n + 1) (hi : i < n) : Dn le (swp l i n) n i := by
  have h1 := h.mono (Nat.le_succ n)
  refine ⟨fun k h0 hk hne hpne => ?_, fun k h0 hk hi0 e => ?_⟩
  · have := par_lt h0
    rw [leA_swp (by omega) (by omega)]
    have t : ∀ x, x ≠ i → x < n → tr i n x = x := fun x a b => by unfold tr; rw [if_neg a, if_neg (by omega)]
    rw [t k hne hk, t _ hpne (by omega)]
    exact h1 k h0 hk
  · have := par_lt h0
    have := par_lt hi0
    rw [leA_swp (by omega) (by omega)]
    have t : ∀ x, x ≠ i → x < n → tr i n x = x := fun x a b => by unfold tr; rw [if_neg a, if_neg (by omega)]
    rw [t k (by omega) hk, t _ (by omega) (by omega)]
    have h2 := h1 k h0 hk
    rw [e] at h2
    exact leA_trans o (by omega) (h1 i hi0 hi) h2
set_option maxHeartbeats 4000000 in
set_option maxRecDepth 100000 in
theorem pop_calls {α : Type} {P : List α → World → Prop} {lt : α → α → Bool} {T : TypeId} {v : Value} {R : α → List α → Ending → World → Prop} {val : α → Value} (hI : Iface P lt T v) (o : Ord (leB lt)) (hX : PopC P T v R) (hR : ∀ a l e w', R a l e w' → e = .returned (val a)) (w : World) (l : List α) (n : Nat) (hl : l.length = n + 1) (hl2 : n < 1000000000) (hP : P l w) (hH : Hp (leB lt) l (n + 1)) :
    Calls Tryz.prog 112 #[.iface T v] w fun e w' => ∃ l', e = .returned (val (l[0]'(by omega))) ∧ R (l[0]'(by omega)) l' e w' ∧ List.Perm (l' ++ [l[0]'(by omega)]) l ∧ Hp (leB lt) l' n := by
  have HI := Lib.hid hI
  have HO := Lib.hid o
  have HX := Lib.hid hX
  have HR := Lib.hid hR
  have HD : Hid (Dn (leB lt) (swp l 0 n) n 0) := Lib.hid (by
    rcases Nat.eq_zero_or_pos n with h | h
    · subst h; exact ⟨fun k h0 hk _ _ => absurd hk (by omega), fun k _ hk _ _ => absurd hk (by omega)⟩
    · exact hH.cut o hl h)
  have HA : Hid ((swp l 0 n)[n]? = some (l[0]'(by omega))) := Lib.hid (by
    rcases Nat.eq_zero_or_pos n with h | h
    · subst h
      rw [swp_get (by omega) (by omega), if_pos rfl]
      exact List.getElem?_eq_getElem (by omega)
    · exact swp_last hl h)
  have HPm : Hid (List.Perm (swp l 0 n) l) := Lib.hid swp_perm
  have hsl : (swp l 0 n).length = n + 1 := by rw [swp_len]; exact hl
  obtain ⟨f, rv, hm, hcf, HC⟩ := hI.len l w hP
  have HC := Lib.hid HC
  rw [hl] at HC
  generalize l[0]'(by omega) = a at *
  clear hI o hP hX hR hH
  dsimp only at hcf
  go_enter Tryz.func112, Tryz.ntmps112
  go_wp2_with fail
  refine HC.out.mono ?_; rintro en w1 ⟨rfl, hP1⟩
  clear hm hcf HC
  have e1 : (((n + 1 : Nat) : Int) - 1) = (n : Int) := by omega
  have HS := Lib.hid (HI.out.swap l w1 0 n (by omega) (by omega) hP1)
  clear hP1
  obtain ⟨f2, rv2, hm2, hcf2, HC2⟩ := HS.out
  have HC2 := Lib.hid HC2
  clear HS
  dsimp only at hcf2
  rw [show ((0 : Nat) : Int) = 0 from rfl] at hcf2 HC2
  go_wp2_with fail
  refine HC2.out.mono ?_; rintro en w2 ⟨rfl, hP2⟩
  clear hm2 hcf2 HC2
  have H3 := Lib.hid (down_calls HI.out HO.out w2 (swp l 0 n) n 0 (by omega) (by omega) (Nat.zero_le _) hP2 HD.out)
  rw [show ((0 : Nat) : Int) = 0 from rfl] at H3
  clear hP2
  generalize swp l 0 n = s at *
  go_wp2_with fail
  refine H3.out.mono ?_; rintro en w3 ⟨b, rfl, l3, hP3, hS3, hb3⟩
  have hH3 : Hp (leB lt) l3 n := by
    cases b with
    | true => exact hb3
    | false => exact hb3.done (.inl rfl)
  obtain ⟨l4, rfl⟩ := hS3.last hsl HA.out
  have hn4 : l4.length = n := by have := hS3.len; simp at this; omega
  have HZ := Lib.hid (And.intro (hH3.init (by omega)) (hS3.perm.trans HPm.out))
  obtain ⟨f5, rv5, hm5, hcf5, HC5⟩ := HX.out l4 a w3 hP3
  have HC5 := Lib.hid HC5
  clear hP3 hS3 hb3 hH3 H3 HX
  dsimp only at hcf5
  go_wp2_with fail
  refine HC5.out.mono ?_; intro en w5 hR5
  obtain rfl := HR.out _ _ _ _ hR5
  have HR5 := Lib.hid hR5
  clear hR5 HC5 hm5 hcf5
  go_wp2_with fail
  go_ret
  exact ⟨l4, rfl, HR5.out, HZ.out.2, HZ.out.1⟩
set_option maxHeartbeats 4000000 in
set_option maxRecDepth 100000 in
theorem remove_calls {α : Type} {P : List α → World → Prop} {lt : α → α → Bool} {T : TypeId} {v : Value} {R : α → List α → Ending → World → Prop} {val : α → Value} (hI : Iface P lt T v) (o : Ord (leB lt)) (hX : PopC P T v R) (hR : ∀ a l e w', R a l e w' → e = .returned (val a)) (w : World) (l : List α) (n i : Nat) (hl : l.length = n + 1) (hl2 : n < 1000000000) (hi : i < l.length) (hP : P l w) (hH : Hp (leB lt) l (n + 1)) :
    Calls Tryz.prog 78 #[.iface T v, .int .i64 i] w fun e w' => ∃ l', e = .returned (val l[i]) ∧ R l[i] l' e w' ∧ List.Perm (l' ++ [l[i]]) l ∧ Hp (leB lt) l' n := by
  have HI := Lib.hid hI
  have HO := Lib.hid o
  have HX := Lib.hid hX
  have HR := Lib.hid hR
  obtain ⟨f, rv, hm, hcf, HC⟩ := hI.len l w hP
  have HC := Lib.hid HC
  rw [hl] at HC
  have HH := Lib.hid hH
  clear hI o hP hX hR hH
  dsimp only at hcf
  have e1 : (((n + 1 : Nat) : Int) - 1) = (n : Int) := by omega
  by_cases hin : i = n
  case pos =>
    subst hin
    have HA : Hid (l[i]? = some l[i]) := Lib.hid (List.getElem?_eq_getElem hi)
    generalize l[i] = a at *
    go_enter Tryz.func78, Tryz.ntmps78
    go_wp2_with fail
    refine HC.out.mono ?_; rintro en w1 ⟨rfl, hP1⟩
    clear hm hcf HC
    obtain ⟨l4, rfl⟩ := (Sh.refl l i).last hl HA.out
    have hn4 : l4.length = i := by simp at hl; omega
    have HZ := Lib.hid (And.intro ((HH.out.mono (Nat.le_succ i)).init (by omega)) (List.Perm.refl (l4 ++ [a])))
    obtain ⟨f5, rv5, hm5, hcf5, HC5⟩ := HX.out l4 a w1 hP1
    have HC5 := Lib.hid HC5
    clear hP1 HX
    dsimp only at hcf5
    go_wp2_with fail
    refine HC5.out.mono ?_; intro en w5 hR5
    obtain rfl := HR.out _ _ _ _ hR5
    have HR5 := Lib.hid hR5
    clear hR5 HC5 hm5 hcf5
    go_wp2_with fail
    go_ret
    exact ⟨l4, rfl, HR5.out, HZ.out.2, HZ.out.1⟩
  case neg =>
    have hil : i < n := by omega
    have hne : ((n : Int) == (i : Int)) = false := by simp; omega
    have HD : Hid (Dn (leB lt) (swp l i n) n i) := Lib.hid (HH.out.cut HO.out hl hil)
    have HA : Hid ((swp l i n)[n]? = some l[i]) := Lib.hid (swp_last hl hil)
    have HPm : Hid (List.Perm (swp l i n) l) := Lib.hid swp_perm
    have hsl : (swp l i n).length = n + 1 := by rw [swp_len]; exact hl
    generalize l[i] = a at *
    go_enter Tryz.func78, Tryz.ntmps78
    go_wp2_with fail
    refine HC.out.mono ?_; rintro en w1 ⟨rfl, hP1⟩
    clear hm hcf HC HH
    have HS := Lib.hid (HI.out.swap l w1 i n (by omega) (by omega) hP1)
    clear hP1
    obtain ⟨f2, rv2, hm2, hcf2, HC2⟩ := HS.out
    have HC2 := Lib.hid HC2
    clear HS
    dsimp only at hcf2
    go_wp2_with fail
    refine HC2.out.mono ?_; rintro en w2 ⟨rfl, hP2⟩
    clear hm2 hcf2 HC2
    have H3 := Lib.hid (down_calls HI.out HO.out w2 (swp l i n) n i (by omega) (by omega) (by omega) hP2 HD.out)
    clear hP2
    generalize swp l i n = s at *
    go_wp2_with fail
    refine H3.out.mono ?_; rintro en w3 ⟨b, rfl, l3, hP3, hS3, hb3⟩
    have HS3 := Lib.hid hS3
    have hl3 := hS3.len
    clear hS3 H3
    cases b with
    | true =>
      have hH3 : Hp (leB lt) l3 n := hb3
      clear hb3
      obtain ⟨l4, rfl⟩ := HS3.out.last hsl HA.out
      have hn4 : l4.length = n := by simp at hl3; omega
      have HZ := Lib.hid (And.intro (hH3.init (by omega)) (HS3.out.perm.trans HPm.out))
      obtain ⟨f5, rv5, hm5, hcf5, HC5⟩ := HX.out l4 a w3 hP3
      have HC5 := Lib.hid HC5
      clear hP3 hH3 HX hl3
      dsimp only at hcf5
      go_wp2_with fail
      refine HC5.out.mono ?_; intro en w5 hR5
      obtain rfl := HR.out _ _ _ _ hR5
      have HR5 := Lib.hid hR5
      clear hR5 HC5 hm5 hcf5
      go_wp2_with fail
      go_ret
      exact ⟨l4, rfl, HR5.out, HZ.out.2, HZ.out.1⟩
    | false =>
      have H4 := Lib.hid (up_calls HI.out HO.out w3 l3 n i (by omega) (by omega) hil hP3 hb3)
      clear hb3 hP3
      go_wp2_with fail
      refine H4.out.mono ?_; rintro en w4 ⟨rfl, l5, hP5, hS5, hH5⟩
      clear H4
      have hS6 := HS3.out.trans hS5
      obtain ⟨l4, rfl⟩ := hS6.last hsl HA.out
      have hn4 : l4.length = n := by have := hS6.len; simp at this; omega
      have HZ := Lib.hid (And.intro (hH5.init (by omega)) (hS6.perm.trans HPm.out))
      obtain ⟨f5, rv5, hm5, hcf5, HC5⟩ := HX.out l4 a w4 hP5
      have HC5 := Lib.hid HC5
      clear hP5 hS5 hH5 hS6 HX hl3
      dsimp only at hcf5
      go_wp2_with fail
      refine HC5.out.mono ?_; intro en w5 hR5
      obtain rfl := HR.out _ _ _ _ hR5
      have HR5 := Lib.hid hR5
      clear hR5 HC5 hm5 hcf5
      go_wp2_with fail
      go_ret
      exact ⟨l4, rfl, HR5.out, HZ.out.2, HZ.out.1⟩
end Go.Proofs.YtmjlhmohglbecaaGreatDoor.Ea
