/- Values as a plain tree beside how they lie in memory; the small functions of package value on kinds. No condition. -/
import Derived.Test.YtimgkbpiengnjaaGreatDoorRows
import Derived.WalkKit
import Derived.ProofKit
import Derived.OpenShut
import Derived.WalkSmall
import Derived.WalkSpells
import Derived.WalkLawsBesides
import Derived.Outline
import Derived.Lib.Hide
import Derived.Deep.RegionWith
import Derived.Deep.QuietTactic
import Derived.BigQuiet
namespace Go.Proofs.YtimgkbpiengnjaaGreatDoor
open Go.ChangeShapes Go.WideShapes Go.ChangeAt Go.RowKit

/-- A value of package api: what it has, where its list lies, how many are in it, and these. -/
inductive Val where
  | no
  | mk (k : Int) (t : ByteArray) (z : Int) (r : Nat) (f : Bool) (a : Option Addr) (c n : Nat) (K : Nat → Val)

def Val.agg : Val → Value
  | .no => .bool false
  | .mk k t z r f a c n _ => .agg #[.int .i64 k, .string t, .int .i64 z, .float .f64 r, .bool f, .slice a n c]

/-- Its six cells, from a place on. -/
def At (w : World) (b o : Nat) : Val → Prop
  | .no => False
  | .mk k t z r f a c n _ => w.cell? ⟨b, o, none⟩ = some (.int .i64 k) ∧ w.cell? ⟨b, o + 1, none⟩ = some (.string t) ∧ w.cell? ⟨b, o + 2, none⟩ = some (.int .i64 z) ∧
      w.cell? ⟨b, o + 3, none⟩ = some (.float .f64 r) ∧ w.cell? ⟨b, o + 4, none⟩ = some (.bool f) ∧ w.cell? ⟨b, o + 5, none⟩ = some (.slice a n c)

/-- All that is in it lies in blocks of S. -/
def Lies (S : Nat → Prop) (w : World) : Val → Prop
  | .no => False
  | .mk k t z r _ a c n K => (-9223372036854775808 ≤ k ∧ k ≤ 9223372036854775807 ∧ t.size ≤ 281474976710656 ∧ -9223372036854775808 ≤ z ∧ z ≤ 9223372036854775807 ∧ r < 18446744073709551616 ∧ n ≤ c ∧ c ≤ 9223372036854775807 ∧ n * 72 ≤ 281474976710656) ∧
      (0 < n → ∃ b o, a = some ⟨b, o, none⟩ ∧ S b) ∧ ∀ i, i < n → (∀ b o, a = some ⟨b, o, none⟩ → At w b (o + i * 6) (K i)) ∧ Lies S w (K i)

theorem At.keep {w w' : World} {b o : Nat} (h : ∀ o, w'.cell? ⟨b, o, none⟩ = w.cell? ⟨b, o, none⟩) {v : Val} (ha : At w b o v) : At w' b o v := by
  cases v with
  | no => exact ha.elim
  | mk k t z r f a c n K =>
    obtain ⟨h0, h1, h2, h3, h4, h5⟩ := ha
    exact ⟨(h _).trans h0, (h _).trans h1, (h _).trans h2, (h _).trans h3, (h _).trans h4, (h _).trans h5⟩
theorem At.below {B : Nat} {w w' : World} (h : Below B w w') {b o : Nat} (hb : b < B) {v : Val} (ha : At w b o v) : At w' b o v :=
  ha.keep fun _ => h.cell (p := ⟨b, _, none⟩) hb
/-- What lies in S goes on lying there in whatever world holds the same in the blocks of S; and in a greater T. -/
theorem Lies.keep {S T : Nat → Prop} {w w' : World} (h : ∀ b, S b → T b ∧ ∀ o, w'.cell? ⟨b, o, none⟩ = w.cell? ⟨b, o, none⟩) : ∀ {v : Val}, Lies S w v → Lies T w' v := by
  intro v
  induction v with
  | no => exact fun hl => hl.elim
  | mk k t z r f a c n K ih =>
    intro hl
    obtain ⟨h0, h1, h2⟩ := hl
    refine ⟨h0, fun hn => ?_, fun i hi => ?_⟩
    · obtain ⟨b, o, e, hb⟩ := h1 hn
      exact ⟨b, o, e, (h b hb).1⟩
    · obtain ⟨ha, hk⟩ := h2 i hi
      refine ⟨fun b o hab => ?_, ih i hk⟩
      obtain ⟨b2, o2, hab2, hB⟩ := h1 (by omega)
      have e := hab.symm.trans hab2
      injection e with e
      injection e with e1 e2
      subst e1 e2
      exact (ha b o hab).keep (h b hB).2
theorem Lies.below {S : Nat → Prop} {B : Nat} {w w' : World} (h : Below B w w') (hS : ∀ b, S b → b < B) {v : Val} (hl : Lies S w v) : Lies S w' v :=
  hl.keep fun b hb => ⟨hb, fun _ => h.cell (p := ⟨b, _, none⟩) (hS b hb)⟩
theorem Lies.wide {S T : Nat → Prop} {w : World} (h : ∀ b, S b → T b) {v : Val} (hl : Lies S w v) : Lies T w v :=
  hl.keep fun b hb => ⟨h b hb, fun _ => rfl⟩

def maxTo (g : Nat → Nat) : Nat → Nat
  | 0 => 0
  | i + 1 => max (maxTo g i) (g i)
def sumTo (g : Nat → Nat) : Nat → Nat
  | 0 => 0
  | i + 1 => sumTo g i + g i
def allTo (g : Nat → Bool) : Nat → Bool
  | 0 => true
  | i + 1 => allTo g i && g i
theorem maxTo_succ (g : Nat → Nat) (i : Nat) : maxTo g (i + 1) = max (maxTo g i) (g i) := rfl
theorem sumTo_succ (g : Nat → Nat) (i : Nat) : sumTo g (i + 1) = sumTo g i + g i := rfl
theorem allTo_succ (g : Nat → Bool) (i : Nat) : allTo g (i + 1) = (allTo g i && g i) := rfl
theorem maxTo_le {g : Nat → Nat} {n i : Nat} (h : i < n) : g i ≤ maxTo g n := by
  induction n with
  | zero => omega
  | succ n ih =>
    rw [maxTo_succ]
    by_cases e : i = n
    · subst e; omega
    · have := ih (by omega); omega
theorem maxTo_up {g : Nat → Nat} {n m : Nat} (h : n ≤ m) : maxTo g n ≤ maxTo g m := by
  induction m with
  | zero => obtain rfl : n = 0 := by omega
            exact Nat.le_refl _
  | succ m ih =>
    by_cases e : n = m + 1
    · subst e; omega
    · have := ih (by omega)
      rw [maxTo_succ]
      omega
theorem sumTo_up {g : Nat → Nat} {n m : Nat} (h : n ≤ m) : sumTo g n ≤ sumTo g m := by
  induction m with
  | zero => obtain rfl : n = 0 := by omega
            exact Nat.le_refl _
  | succ m ih =>
    by_cases e : n = m + 1
    · subst e; omega
    · have := ih (by omega)
      rw [sumTo_succ]
      omega
theorem sumTo_le {g : Nat → Nat} {n i : Nat} (h : i < n) : sumTo g i + g i ≤ sumTo g n := by
  have := sumTo_up (g := g) (n := i + 1) (m := n) (by omega)
  rwa [sumTo_succ] at this

/-- How many lists stand in one another, whatever the kinds; how many values; how deep. -/
def Val.nest : Val → Nat
  | .no => 0
  | .mk _ _ _ _ _ _ _ n K => 1 + maxTo (fun i => (K i).nest) n
def Val.count : Val → Nat
  | .no => 0
  | .mk _ _ _ _ _ _ _ n K => 1 + sumTo (fun i => (K i).count) n
def lists (k : Int) : Bool := k == 5 || k == 13 || k == 12 || k == 14
def Val.depth : Val → Nat
  | .no => 0
  | .mk k _ _ _ _ _ _ n K => if lists k then 1 + maxTo (fun i => (K i).depth) n else 0

set_option maxRecDepth 100000 in
theorem hasList_calls (k : Int) (w : World) :
    Calls Tryz.prog 44 #[.int .i64 k] w fun e w' => e = .returned (.bool (lists k)) ∧ w = w' := by
  by_cases h1 : k = 5
  · subst h1
    go_enter Tryz.func44, Tryz.ntmps44
    go_wp2
    go_ret
    exact ⟨rfl, rfl⟩
  by_cases h2 : k = 13
  · subst h2
    go_enter Tryz.func44, Tryz.ntmps44
    go_wp2
    go_ret
    exact ⟨rfl, rfl⟩
  by_cases h3 : k = 12
  · subst h3
    go_enter Tryz.func44, Tryz.ntmps44
    go_wp2
    go_ret
    exact ⟨rfl, rfl⟩
  by_cases h4 : k = 14
  · subst h4
    go_enter Tryz.func44, Tryz.ntmps44
    go_wp2
    go_ret
    exact ⟨rfl, rfl⟩
  have e1 : (k == 5) = false := by simpa using h1
  have e2 : (k == 13) = false := by simpa using h2
  have e3 : (k == 12) = false := by simpa using h3
  have e4 : (k == 14) = false := by simpa using h4
  have he : lists k = false := by unfold lists; rw [e1, e2, e3, e4]; rfl
  rw [he]
  clear he h1 h2 h3 h4
  go_enter Tryz.func44, Tryz.ntmps44
  go_wp2
  go_ret
  exact ⟨rfl, rfl⟩
end Go.Proofs.YtimgkbpiengnjaaGreatDoor
