/- Package container/heap: up, down, over any value of its interface whose methods keep a list (Iface). Conditions: bounds. (197: the fuel of a method's search, a number of the seat.) -/
import Derived.Test.YtabhnnffohnecaaEa1
import Derived.Test.YtabhnnffohnecaaRows
import Derived.WalkKit
import Derived.ProofKit
import Derived.OpenShut
import Derived.WalkSmall
import Derived.WalkSpells
import Derived.WalkLawsBesides
import Derived.Outline
import Derived.Lib.Hide
import Derived.Deep.RegionWith
import Derived.Deep.LoopGhost
import Derived.OwnWalk
import Derived.IntWalk
import Derived.Laws.AppendOwn
import Derived.Laws.IdiomStrings
import Derived.Lib.Strings
import Derived.Maps.OwnSet
import Derived.Deep.QuietTactic
import Derived.BigQuiet
import Derived.BigRegion
namespace Go.Proofs.Ytabhnnffohnecaa.Ea
open Go.ChangeShapes Go.WideShapes Go.ChangeAt Go.RowKit
/-- A method m of the value v of type T: found, entered, and what it answers. -/
def Inv (w : World) (T : TypeId) (v : Value) (m : String) (args : Value → Array Value) (Q : Ending → World → Prop) : Prop :=
  ∃ f rv, (method 197 T v m).run Try.prog w = .ok (f, rv) w ∧ (callFunc f (args rv)).run Try.prog w = .ok (.enter f (args rv)) w ∧ Calls Try.prog f (args rv) w Q
theorem Inv.mono {w : World} {T : TypeId} {v : Value} {m : String} {args : Value → Array Value} {Q Q' : Ending → World → Prop} (h : Inv w T v m args Q) (hQ : ∀ e w', Q e w' → Q' e w') : Inv w T v m args Q' := by
  obtain ⟨f, rv, h1, h2, h3⟩ := h
  exact ⟨f, rv, h1, h2, h3.mono hQ⟩
/-- A value of the interface whose first three methods keep the list that P says. -/
structure Iface {α : Type} (P : List α → World → Prop) (lt : α → α → Bool) (T : TypeId) (v : Value) : Prop where
  len : ∀ l w, P l w → Inv w T v "Len" (fun r => #[r]) fun e w' => e = .returned (.int .i64 l.length) ∧ P l w'
  less : ∀ l w (i j : Nat) (hi : i < l.length) (hj : j < l.length), P l w → Inv w T v "Less" (fun r => #[r, .int .i64 i, .int .i64 j]) fun e w' => e = .returned (.bool (lt l[i] l[j])) ∧ P l w'
  swap : ∀ l w (i j : Nat), i < l.length → j < l.length → P l w → Inv w T v "Swap" (fun r => #[r, .int .i64 i, .int .i64 j]) fun e w' => e = .returned (.tuple #[]) ∧ P (swp l i j) w'
def leB {α : Type} (lt : α → α → Bool) (a b : α) : Prop := lt b a = false
/-- l' is l but for the order of the first n. -/
structure Sh {α : Type} (l l' : List α) (n : Nat) : Prop where
  perm : List.Perm l' l
  rest : ∀ k, n ≤ k → l'[k]? = l[k]?
section
variable {α : Type} {l l' l'' : List α} {n i j : Nat}
theorem Sh.refl (l : List α) (n : Nat) : Sh l l n := ⟨.refl _, fun _ _ => rfl⟩
theorem Sh.trans (h : Sh l l' n) (k : Sh l' l'' n) : Sh l l'' n := ⟨k.perm.trans h.perm, fun m hm => (k.rest m hm).trans (h.rest m hm)⟩
theorem Sh.len (h : Sh l l' n) : l'.length = l.length := h.perm.length_eq
theorem Sh.swp (hi : i < n) (hj : j < n) (hn : n ≤ l.length) : Sh l (swp l i j) n := ⟨swp_perm, fun k hk => by
  rw [swp_get (by omega) (by omega), if_neg (by omega), if_neg (by omega)]⟩
theorem leA_leB {lt : α → α → Bool} (hi : i < l.length) (hj : j < l.length) (h : lt l[j] l[i] = false) : leA (leB lt) l i j := leA_of hi hj h
theorem leA_lt {lt : α → α → Bool} (o : Ord (leB lt)) (hi : i < l.length) (hj : j < l.length) (h : lt l[i] l[j] = true) : leA (leB lt) l i j := leA_of hi hj (by
  rcases o.total l[i] l[j] with h1 | h1
  · exact h1
  · unfold leB at h1; rw [h] at h1; cases h1)
theorem par_nat {j : Nat} (h : 0 < j) : ((j : Int) - 1).tdiv 2 = ((par j : Nat) : Int) := by
  unfold par
  rw [show (j : Int) - 1 = ((j - 1 : Nat) : Int) by omega]
  exact (Int.ofNat_tdiv _ _).symm
theorem kids {k i : Nat} (h : 0 < k) (e : par k = i) : k = 2 * i + 1 ∨ k = 2 * i + 2 := by unfold par at e; omega
end
set_option maxHeartbeats 4000000 in
set_option maxRecDepth 100000 in
theorem up_calls {α : Type} {P : List α → World → Prop} {lt : α → α → Bool} {T : TypeId} {v : Value} (hI : Iface P lt T v) (o : Ord (leB lt)) (w : World) (l : List α) (n j : Nat) (hn : n ≤ l.length) (hl : l.length ≤ 1000000000) (hj : j < n) (hP : P l w) (hU : Up (leB lt) l n j) :
    Calls Try.prog 28 #[.iface T v, .int .i64 j] w fun e w' => e = .returned (.tuple #[]) ∧ ∃ l', P l' w' ∧ Sh l l' n ∧ Hp (leB lt) l' n := by
  have HI := Lib.hid hI
  have HO := Lib.hid o
  have H0 : Hid (P l w ∧ Sh l l n ∧ Up (leB lt) l n j) := Lib.hid ⟨hP, Sh.refl l n, hU⟩
  clear hI o hP hU
  go_enter Try.func28, Try.ntmps28
  go_wp2_with fail
  go_loopg [1] (j + 1) (fun g a wr => ∃ i : Nat, a = .int .i64 i ∧ i < n ∧ i ≤ g ∧ ∃ m, Hid (P m wr ∧ Sh l m n ∧ Up (leB lt) m n i))
  case atStart => exact ⟨j, rfl, hj, by omega, l, H0⟩
  case round =>
    obtain ⟨i, rfl, hi, hg, m, HM⟩ := hrel
    clear H0
    by_cases i0 : i = 0
    case pos =>
      subst i0
      have HZ : Hid (Hp (leB lt) m n) := Lib.hid (HM.out.2.2.done (.inl rfl))
      go_wp2_with fail
      go_end0
      exact ⟨rfl, m, HM.out.1, HM.out.2.1, HZ.out⟩
    case neg =>
      have hml : m.length = l.length := HM.out.2.1.len
      have hp := par_lt (k := i) (by omega)
      have e := par_nat (j := i) (by omega)
      have hne : ¬ ((par i : Int) = (i : Int)) := by omega
      have him : i < m.length := by omega
      have hpm : par i < m.length := by omega
      obtain ⟨f, rv, hm, hc, HC⟩ := HI.out.less m wr i (par i) him hpm HM.out.1
      have HC := Lib.hid HC
      cases hb : lt m[i] m[par i] with
      | false =>
        rw [hb] at HC
        have HZ : Hid (Hp (leB lt) m n) := Lib.hid (HM.out.2.2.done (.inr (leA_leB hpm him hb)))
        have HS := Lib.hid HM.out.2.1
        clear hb HM
        dsimp only at hc
        go_wp2_with fail
        refine HC.out.mono ?_; rintro en w1 ⟨rfl, hP1⟩
        go_wp2_with fail
        go_end0
        exact ⟨rfl, m, hP1, HS.out, HZ.out⟩
      | true =>
        rw [hb] at HC
        have HU : Hid (Up (leB lt) (swp m (par i) i) n (par i)) := Lib.hid (HM.out.2.2.step HO.out (by omega) hi (by omega) (leA_lt HO.out him hpm hb))
        have HS : Hid (Sh l (swp m (par i) i) n) := Lib.hid (HM.out.2.1.trans (Sh.swp (by omega) hi (by omega)))
        clear hb HM
        dsimp only at hc
        go_wp2_with fail
        refine HC.out.mono ?_; rintro en w1 ⟨rfl, hP1⟩
        clear hm hc HC
        obtain ⟨f2, rv2, hm2, hc2, HC2⟩ := HI.out.swap m w1 (par i) i hpm him hP1
        have HC2 := Lib.hid HC2
        clear hP1
        dsimp only at hc2
        go_wp2_with fail
        refine HC2.out.mono ?_; rintro en w2 ⟨rfl, hP2⟩
        have H2 := Lib.hid hP2
        clear hP2
        go_wp2_with fail
        go_roundg (gk - 1)
        case measure => omega
        case rel => exact ⟨par i, rfl, by omega, by omega, _, ⟨H2.out, HS.out, HU.out⟩⟩
end Go.Proofs.Ytabhnnffohnecaa.Ea
