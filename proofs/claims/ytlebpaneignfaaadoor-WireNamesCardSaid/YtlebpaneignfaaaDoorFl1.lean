/- Small functions of internal/strconv over the translated program (unrounded numbers, powers of ten and two, uscale): each returns what the plain functions here say, and turns nothing. -/
import Derived.Test.YtlebpaneignfaaaDoorRows
import Derived.Test.YtlebpaneignfaaaDoorLays
import Derived.Test.YtlebpaneignfaaaDoorFb
import Derived.WalkKit
import Derived.ProofKit
import Derived.OpenShut
import Derived.WalkSmall
import Derived.WalkSpells
import Derived.WalkLawsBesides
import Derived.Outline
import Derived.Lib.Hide
import Derived.Lib.LaidTab
import Derived.Shelf.Bits.Mul64
import Derived.Laws.Bits64b
import Derived.Deep.QuietTactic
import Derived.BigQuiet
namespace Go.Proofs.YtlebpaneignfaaaDoor
open Go.ChangeShapes Go.WideShapes Go.ChangeAt Go.RowKit

theorem ret_u64 {a b : Int} (h : a = b) : Ending.returned (.int .u64 a) = .returned (.int .u64 b) := by rw [h]
def b2n (b : Bool) : Nat := if b then 1 else 0

theorem bool2u (b : Bool) (w : World) : Calls Tryd.prog 95 #[.bool b] w fun e w' => e = .returned (.int .u64 ((b2n b : Nat) : Int)) ∧ w = w' := by
  cases b <;> (go_enter Tryd.func95, Tryd.ntmps95; go_wp2; go_ret; exact ⟨rfl, rfl⟩)
theorem bool2i (b : Bool) (w : World) : Calls Tryd.prog 46 #[.bool b] w fun e w' => e = .returned (.int .i64 ((b2n b : Nat) : Int)) ∧ w = w' := by
  cases b <;> (go_enter Tryd.func46, Tryd.ntmps46; go_wp2; go_ret; exact ⟨rfl, rfl⟩)
def l10p2 (x : Int) : Int := x * 78913 / 262144
def l2p10 (x : Int) : Int := x * 108853 / 32768
def skew (x : Int) : Int := (x * 631305 - 261663) / 2097152
theorem log10Pow2 (x : Int) (h0 : -2000 ≤ x) (h1 : x ≤ 2000) (w : World) : Calls Tryd.prog 44 #[.int .i64 x] w fun e w' => e = .returned (.int .i64 (l10p2 x)) ∧ w = w' := by
  go_enter Tryd.func44, Tryd.ntmps44
  go_wp2
  go_ret
  exact ⟨rfl, rfl⟩
theorem log2Pow10 (x : Int) (h0 : -2000 ≤ x) (h1 : x ≤ 2000) (w : World) : Calls Tryd.prog 74 #[.int .i64 x] w fun e w' => e = .returned (.int .i64 (l2p10 x)) ∧ w = w' := by
  go_enter Tryd.func74, Tryd.ntmps74
  go_wp2
  go_ret
  exact ⟨rfl, rfl⟩
theorem skewed (x : Int) (h0 : -2000 ≤ x) (h1 : x ≤ 2000) (w : World) : Calls Tryd.prog 72 #[.int .i64 x] w fun e w' => e = .returned (.int .i64 (skew x)) ∧ w = w' := by
  go_enter Tryd.func72, Tryd.ntmps72
  go_wp2
  go_ret
  exact ⟨rfl, rfl⟩
theorem uceil (u : Nat) (h1 : u < 18446744073709551612) (w : World) : Calls Tryd.prog 77 #[.int .u64 u] w fun e w' => e = .returned (.int .u64 (((u + 3) / 4 : Nat) : Int)) ∧ w = w' := by
  go_enter Tryd.func77, Tryd.ntmps77
  go_wp2
  go_ret
  exact ⟨by simp, rfl⟩
theorem ufloor (u : Nat) (h1 : u < 18446744073709551612) (w : World) : Calls Tryd.prog 78 #[.int .u64 u] w fun e w' => e = .returned (.int .u64 ((u / 4 : Nat) : Int)) ∧ w = w' := by
  go_enter Tryd.func78, Tryd.ntmps78
  go_wp2
  go_ret
  exact ⟨by simp, rfl⟩
theorem uround (u : Nat) (h1 : u < 18446744073709551612) (w : World) : Calls Tryd.prog 79 #[.int .u64 u] w fun e w' => e = .returned (.int .u64 (((u + 1 + u / 4 % 2) / 4 : Nat) : Int)) ∧ w = w' := by
  have e : bits .and .u64 ((u : Int) / 4) 1 = ((u / 4 % 2 : Nat) : Int) := by
    have h := bits_and_u64_nat (u / 4) 1 (by omega) (by omega)
    rw [Nat.and_one_is_mod] at h
    rw [show ((u / 4 : Nat) : Int) = (u : Int) / 4 by omega] at h
    exact h
  go_enter Tryd.func79, Tryd.ntmps79
  go_wp2
  go_ret
  exact ⟨by simp, rfl⟩
theorem unudge_up (u : Nat) (d : Nat) (h1 : u < 18446744073709551612) (hd : d ≤ 1) (w : World) : Calls Tryd.prog 76 #[.int .u64 u, .int .i64 d] w fun e w' => e = .returned (.int .u64 ((u + d : Nat) : Int)) ∧ w = w' := by
  go_enter Tryd.func76, Tryd.ntmps76
  go_wp2
  go_ret
  exact ⟨by simp, rfl⟩
theorem unudge_dn (u : Nat) (d : Nat) (h1 : u < 18446744073709551612) (hd : d ≤ 1) (hu : 1 ≤ u) (w : World) : Calls Tryd.prog 76 #[.int .u64 u, .int .i64 (-(d : Int))] w fun e w' => e = .returned (.int .u64 ((u - d : Nat) : Int)) ∧ w = w' := by
  have e : IntKind.u64.wrap ((u : Int) + IntKind.u64.wrap (-(d : Int))) = ((u - d : Nat) : Int) := by rw [IntKind.wrap_u64, IntKind.wrap_u64]; omega
  rw [← e]
  clear e
  go_enter Tryd.func76, Tryd.ntmps76
  go_wp2
  go_ret
  exact ⟨by simp, rfl⟩
theorem unmin_calls (u : Nat) (h1 : u < 4611686018427387904) (h0 : 1 ≤ u) (w : World) : Calls Tryd.prog 80 #[.int .u64 u] w fun e w' => e = .returned (.int .u64 ((u * 4 - 2 : Nat) : Int)) ∧ w = w' := by
  have e : ((u * 4 - 2 : Nat) : Int) = (u : Int) * 4 - 2 := by omega
  rw [e]
  go_enter Tryd.func80, Tryd.ntmps80
  go_wp2
  go_ret
  exact ⟨by simp, rfl⟩

theorem mul64 (x y : Nat) (hx : x < 18446744073709551616) (hy : y < 18446744073709551616) (w : World) :
    Calls Tryd.prog 94 #[.int .u64 x, .int .u64 y] w fun e w' => e = .returned (.tuple #[.int .u64 ((x * y / 18446744073709551616 : Nat) : Int), .int .u64 ((x * y % 18446744073709551616 : Nat) : Int)]) ∧ w = w' :=
  (Any.bits_Mul64 Tryd.lays264 x y hx hy w).mono fun _ _ ⟨a, b⟩ => ⟨a, b.symm⟩

/-- uscale on plain numbers: the high half of x * hi, less what x * lo takes, moved right by s, its last bit 1 where bits were lost. -/
def uscaleN (x hi lo s : Nat) : Nat :=
  let q := x * hi / 18446744073709551616
  let r := x * hi % 18446744073709551616
  if q % 2 ^ s ≠ 0 then (q / 2 ^ s) ||| 1
  else
    let q2 := x * lo / 18446744073709551616
    ((q + 18446744073709551616 - b2n (decide (r < q2))) % 18446744073709551616 / 2 ^ s) ||| b2n (decide (1 < (r + 18446744073709551616 - q2) % 18446744073709551616))

theorem q_lt {x y : Nat} (hx : x < 18446744073709551616) (hy : y < 18446744073709551616) : x * y / 18446744073709551616 < 18446744073709551616 := by
  apply Nat.div_lt_of_lt_mul
  exact Nat.mul_lt_mul'' hx hy
theorem and63 (s : Nat) (hs : s < 64) : bits .and .i64 (s : Int) 63 = (s : Int) := by
  have h : ∀ t : Fin 64, bits .and .i64 (t.val : Int) 63 = (t.val : Int) := by decide +kernel
  exact h ⟨s, hs⟩
theorem or_nat (a b : Nat) (ha : a < 18446744073709551616) (hb : b < 18446744073709551616) : bits .or .u64 (a : Int) (b : Int) = ((a ||| b : Nat) : Int) := bits_or_u64_nat a b ha hb
theorem div_pow_lt {q s : Nat} (hq : q < 18446744073709551616) : q / 2 ^ s < 18446744073709551616 := Nat.lt_of_le_of_lt (Nat.div_le_self _ _) hq
theorem shr_cast (q s : Nat) : (q : Int) / 2 ^ s = ((q / 2 ^ s : Nat) : Int) := by simp
theorem back_wrap {q s : Nat} (hq : q < 18446744073709551616) : IntKind.u64.wrap ((q : Int) / 2 ^ s * 2 ^ s) = ((q / 2 ^ s * 2 ^ s : Nat) : Int) := by
  have h : q / 2 ^ s * 2 ^ s ≤ q := Nat.div_mul_le_self _ _
  rw [IntKind.wrap_u64]
  have e : (q : Int) / 2 ^ s * 2 ^ s = ((q / 2 ^ s * 2 ^ s : Nat) : Int) := by simp
  rw [e]
  omega
theorem back_ne {q s : Nat} : (q / 2 ^ s * 2 ^ s = q) ↔ q % 2 ^ s = 0 := by
  have h := Nat.div_add_mod q (2 ^ s)
  rw [Nat.mul_comm] at h
  omega

set_option maxHeartbeats 400000 in
set_option maxRecDepth 100000 in
theorem uscale_calls (x hi lo s : Nat) (hx : x < 18446744073709551616) (hh : hi < 18446744073709551616) (hl : lo < 18446744073709551616) (hs : s < 64) (B : Nat) (w : World)
    (c0 : w.cell? ⟨B, 0, none⟩ = some (.int .u64 hi)) (c1 : w.cell? ⟨B, 1, none⟩ = some (.int .u64 lo)) (c2 : w.cell? ⟨B, 2, none⟩ = some (.int .i64 s)) :
    Calls Tryd.prog 75 #[.int .u64 x, .pointer (some ⟨B, 0, none⟩)] w fun e w' => e = .returned (.int .u64 ((uscaleN x hi lo s : Nat) : Int)) ∧ ∃ n, w' = w.drewN n := by
  have h63 : (s : Int) ≤ 63 := by omega
  have e63 := and63 s hs
  have hP := q_lt hx hh
  have hP2 := q_lt hx hl
  have hM : x * hi % 18446744073709551616 < 18446744073709551616 := Nat.mod_lt _ (by omega)
  have m1 := mul64 x hi hx hh
  have m2 := mul64 x lo hx hl
  have U : uscaleN x hi lo s = uscaleN x hi lo s := rfl
  conv at U => rhs; unfold uscaleN
  simp only [] at U
  generalize hq : x * hi / 18446744073709551616 = q at *
  generalize hr : x * hi % 18446744073709551616 = r at *
  generalize hq2 : x * lo / 18446744073709551616 = q2 at *
  generalize hr2 : x * lo % 18446744073709551616 = r2 at *
  generalize uscaleN x hi lo s = res at *
  have M1 := Lib.hid m1
  have M2 := Lib.hid m2
  clear m1 m2 hq hr hq2 hr2
  by_cases hz : q % 2 ^ s = 0
  · have hb : (IntKind.u64.wrap ((q : Int) / 2 ^ s * 2 ^ s) != (q : Int)) = false := by
      rw [back_wrap hP, bne_eq_false_iff_eq, back_ne.2 hz]
    rw [if_neg (by simpa using hz)] at U
    have HU := Lib.hid U
    clear U hz
    have hv : IntKind.u64.wrap ((r : Int) - (q2 : Int)) = (((r + 18446744073709551616 - q2) % 18446744073709551616 : Nat) : Int) := by rw [IntKind.wrap_u64]; omega
    have hvl : (r + 18446744073709551616 - q2) % 18446744073709551616 < 18446744073709551616 := by omega
    have B1 := fun w => bool2u (decide ((r : Int) < (q2 : Int))) w
    generalize hV : (r + 18446744073709551616 - q2) % 18446744073709551616 = V at *
    have B2 := fun w => bool2u (decide ((1 : Int) < (V : Int))) w
    have ed : decide ((r : Int) < (q2 : Int)) = decide (r < q2) := by simp
    have eV : decide ((1 : Int) < (V : Int)) = decide (1 < V) := by simp; omega
    rw [ed] at B1
    rw [eV] at B2
    have hb1 : b2n (decide (r < q2)) ≤ 1 := by unfold b2n; split <;> omega
    have hb2 : b2n (decide (1 < V)) ≤ 1 := by unfold b2n; split <;> omega
    generalize hD : b2n (decide (r < q2)) = d at *
    generalize hE : b2n (decide (1 < V)) = g at *
    have hw : IntKind.u64.wrap ((q : Int) - (d : Int)) = (((q + 18446744073709551616 - d) % 18446744073709551616 : Nat) : Int) := by rw [IntKind.wrap_u64]; omega
    have hwl : (q + 18446744073709551616 - d) % 18446744073709551616 < 18446744073709551616 := by omega
    generalize hW : (q + 18446744073709551616 - d) % 18446744073709551616 = W at *
    have HB1 := Lib.hid B1
    have HB2 := Lib.hid B2
    clear B1 B2 hV hW hD hE
    go_enter Tryd.func75, Tryd.ntmps75
    go_wp2_with fail
    refine (M1.out _).mono ?_; rintro e w' ⟨rfl, rfl⟩
    go_wp2_with fail
    refine (M2.out _).mono ?_; rintro e w' ⟨rfl, rfl⟩
    go_wp2_with fail
    refine (HB1.out _).mono ?_; rintro e w' ⟨rfl, rfl⟩
    go_wp2_with fail
    go_quiet ((go_at_call 95; exact Calls.quiet_of_same ((HB2.out _).mono fun _ _ ⟨a, b⟩ => ⟨a, b.symm⟩)))
    go_wp2_with fail
    go_ret
    refine ⟨ret_u64 ?_, _, rfl⟩
    rw [shr_cast, HU.out]
    exact or_nat _ _ (div_pow_lt hwl) (by omega)
  · have hb : (IntKind.u64.wrap ((q : Int) / 2 ^ s * 2 ^ s) != (q : Int)) = true := by
      rw [back_wrap hP, bne_iff_ne]
      intro h
      exact hz (back_ne.1 (by omega))
    rw [if_pos hz] at U
    have HU := Lib.hid U
    clear U hz
    go_enter Tryd.func75, Tryd.ntmps75
    go_wp2_with fail
    refine (M1.out _).mono ?_; rintro e w' ⟨rfl, rfl⟩
    go_wp2_with fail
    go_ret
    refine ⟨ret_u64 ?_, 0, rfl⟩
    rw [shr_cast, HU.out]
    exact or_nat _ 1 (div_pow_lt hP) (by omega)
end Go.Proofs.YtlebpaneignfaaaDoor
