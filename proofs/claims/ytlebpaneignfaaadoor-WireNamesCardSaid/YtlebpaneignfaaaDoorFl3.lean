/- The shortest digits of a number: shortFloat at 64 bits, in its three cases, over the translated program. Conditions: the tables hold what start-up lays. -/
import Derived.Test.YtlebpaneignfaaaDoorFl2
namespace Go.Proofs.YtlebpaneignfaaaDoor
open Go.ChangeShapes Go.WideShapes Go.ChangeAt Go.RowKit

theorem ret_short {a b : Nat × Int} (h : a = b) : Ending.returned (.tuple #[.int .u64 (a.1 : Int), .int .i64 a.2]) = .returned (.tuple #[.int .u64 (b.1 : Int), .int .i64 b.2]) := by rw [h]
theorem and1 (a : Nat) (h : a < 9223372036854775808) : bits .and .i64 (a : Int) 1 = ((a % 2 : Nat) : Int) := by
  have h1 : (BitVec.ofInt 64 (a : Int)).toNat = a := by
    rw [BitVec.ofInt_natCast, BitVec.toNat_ofNat]; exact Nat.mod_eq_of_lt (by omega)
  have h2 : (BitVec.ofInt 64 1).toNat = 1 := by decide
  show IntKind.i64.wrap ((BitVec.ofInt 64 (a : Int) &&& BitVec.ofInt 64 1).toNat : Int) = _
  rw [BitVec.toNat_and, h1, h2, Nat.and_one_is_mod, IntKind.wrap_i64]
  omega
theorem cell3 (w : World) (a b c : Value) (T : TypeId) (k : Nat) (v : Value) (h : (#[a, b, c] : Array Value)[k]? = some v) : (w.alloc (.cells #[a, b, c] T)).cell? ⟨w.heap.size, k, none⟩ = some v := by
  rw [World.cell?_alloc_new]
  exact h

theorem ret_short' {a c : Int} {b : Nat × Int} (h : a = (b.1 : Int)) (k : c = b.2) : Ending.returned (.tuple #[.int .u64 a, .int .i64 c]) = .returned (.tuple #[.int .u64 (b.1 : Int), .int .i64 b.2]) := by rw [h, k]
theorem below_pre (w : World) (o : Obj) (n : Nat) : Below w.heap.size w ((w.alloc o).drewN n) := by
  have h := (Below.refl w.heap.size w).alloc (Nat.le_refl _) o
  exact ⟨h.os, h.tape, h.output, h.size, h.block⟩
theorem cell3d (w : World) (a b c : Value) (T : TypeId) (k n : Nat) (v : Value) (h : (#[a, b, c] : Array Value)[k]? = some v) : ((w.alloc (.cells #[a, b, c] T)).drewN n).cell? ⟨w.heap.size, k, none⟩ = some v := by
  rw [World.cell?_drewN]
  exact cell3 w a b c T k v h

theorem odd_sub (m z : Nat) (h : m / 2 ^ z < 9223372036854775808) : bits .and .i64 (wrap64 ((m : Int) / 2 ^ z)) 1 = ((m / 2 ^ z % 2 : Nat) : Int) := by
  have e1 : (m : Int) / 2 ^ z = ((m / 2 ^ z : Nat) : Int) := by simp
  rw [e1]
  generalize m / 2 ^ z = k at *
  rw [IntWalk.wrap64_in _ ⟨by omega, by omega⟩]
  exact and1 k h

def ShortPost (w : World) (r : Nat × Int) (e : Ending) (w' : World) : Prop := e = .returned (.tuple #[.int .u64 (r.1 : Int), .int .i64 r.2]) ∧ Below w.heap.size w w'

set_option maxHeartbeats 1000000 in
set_option maxRecDepth 100000 in
theorem short_sub (m z : Nat) (e : Int) (h0 : 9223372036854775808 ≤ m) (hz0 : 12 ≤ z) (hz1 : z ≤ 63) (h1 : m ≤ 18446744073709551616 - 2 ^ z) (he : e = -1074 - (z : Int)) (w : World) (hc : TCtx w) :
    Calls Tryd.prog 60 #[.int .u64 m, .int .i64 e] w (ShortPost w (shortCore (m - 2 ^ (z - 1)) (m + 2 ^ (z - 1)) m (m / 2 ^ z % 2) e 672)) := by
  have hL := log10Pow2 (-1074) (by omega) (by omega)
  rw [show l10p2 (-1074) = -324 from rfl] at hL
  obtain ⟨i, hi⟩ : ∃ i : Nat, i = 672 := ⟨_, rfl⟩
  rw [← hi]
  have hi7 : i < 696 := by omega
  have hM := log2Pow10 324 (by omega) (by omega)
  rw [show l2p10 324 = 1076 from rfl] at hM
  have hi324 : ((i : Int) - 348) = 324 := by omega
  have hlq : l2p10 ((i : Int) - 348) = 1076 := by rw [hi324]; rfl
  have hs0 : 4 ≤ -(e + l2p10 ((i : Int) - 348) + 3) := by rw [hlq]; omega
  have hs1 : -(e + l2p10 ((i : Int) - 348) + 3) ≤ 58 := by rw [hlq]; omega
  have hlp0 : -5000 ≤ l2p10 ((i : Int) - 348) := by omega
  have hlp1 : l2p10 ((i : Int) - 348) ≤ 5000 := by omega
  obtain ⟨pz, hpz⟩ : ∃ pz : Nat, pz = 2 ^ (z - 1) := ⟨_, rfl⟩
  have hzz : 2 ^ z = pz * 2 := by rw [hpz, ← Nat.pow_succ]; congr 1; omega
  have hp62 : pz ≤ 4611686018427387904 := by
    have := Nat.pow_le_pow_right (n := 2) (by omega) (show z - 1 ≤ 62 by omega)
    rw [hpz]; exact this
  have hp11 : 2048 ≤ pz := by
    have := Nat.pow_le_pow_right (n := 2) (by omega) (show 11 ≤ z - 1 by omega)
    rw [hpz]; exact this
  have hP := fun w' (h : TCtx w') => prescale_calls e 324 i hi7 (by omega) (by omega) (by omega) 1076 (by omega) (by omega) w'.heap.size 107 (.int .u64 0) (.int .u64 0) (.int .i64 0) w' rfl h
  have HP := Lib.hid hP
  clear hP
  have HL := Lib.hid hL
  have HM := Lib.hid hM
  have Hi := Lib.hid hi
  have Hc := Lib.hid hc
  clear hL hM hi hc
  have hmz : m / 2 ^ z < 9223372036854775808 := by
    apply Nat.div_lt_of_lt_mul
    rw [hzz]
    have := Nat.mul_le_mul_right 9223372036854775808 (show 2 ≤ pz * 2 by omega)
    omega
  have hodd' := odd_sub m z hmz
  have hoddle : m / 2 ^ z % 2 ≤ 1 := Nat.le_of_lt_succ (Nat.mod_lt _ (by decide))
  have U : shortCore (m - 2 ^ (z - 1)) (m + 2 ^ (z - 1)) m (m / 2 ^ z % 2) e i = shortCore (m - 2 ^ (z - 1)) (m + 2 ^ (z - 1)) m (m / 2 ^ z % 2) e i := rfl
  conv at U => rhs; unfold shortCore
  simp only [] at U
  obtain ⟨s, hs⟩ : ∃ s : Nat, -(e + l2p10 ((i : Int) - 348) + 3) = (s : Int) := ⟨(-(e + l2p10 ((i : Int) - 348) + 3)).toNat, by omega⟩
  obtain ⟨mn, hmn⟩ : ∃ mn : Nat, (m : Int) - (pz : Int) = (mn : Int) := ⟨m - pz, by omega⟩
  obtain ⟨mx, hmx⟩ : ∃ mx : Nat, (m : Int) + (pz : Int) = (mx : Int) := ⟨m + pz, by omega⟩
  rw [hs, show ((s : Int)).toNat = s by omega] at U
  generalize shortCore (m - 2 ^ (z - 1)) (m + 2 ^ (z - 1)) m (m / 2 ^ z % 2) e i = res at *
  rw [← hpz, show m - pz = mn by omega, show m + pz = mx by omega] at U
  have g4 : 4 ≤ s := by omega
  have g58 : s ≤ 58 := by omega
  have gmn : 4611686018427387904 ≤ mn ∧ mn < 18446744073709551616 := by omega
  have gmx : 4611686018427387904 ≤ mx ∧ mx < 18446744073709551616 := by omega
  obtain ⟨r0, r1, r2⟩ := p10_all i hi7
  have hun := fun W => uscale_calls mn (p10Row i).1 (p10Row i).2 s gmn.2 r1 r2 (by omega) w.heap.size W
  have hux := fun W => uscale_calls mx (p10Row i).1 (p10Row i).2 s gmx.2 r1 r2 (by omega) w.heap.size W
  have hum := fun W => uscale_calls m (p10Row i).1 (p10Row i).2 s (by omega) r1 r2 (by omega) w.heap.size W
  have un := uscaleN_le mn (p10Row i).1 (p10Row i).2 s gmn.2 r1 g4
  have ux := uscaleN_le mx (p10Row i).1 (p10Row i).2 s gmx.2 r1 g4
  have um := uscaleN_le m (p10Row i).1 (p10Row i).2 s (by omega) r1 g4
  have un' := uscaleN_pos mn (p10Row i).1 (p10Row i).2 s gmn.1 gmn.2 r0 r1 g58
  have ux' := uscaleN_pos mx (p10Row i).1 (p10Row i).2 s gmx.1 gmx.2 r0 r1 g58
  have um' := uscaleN_pos m (p10Row i).1 (p10Row i).2 s (by omega) (by omega) r0 r1 g58
  generalize hod : m / 2 ^ z % 2 = od at *
  generalize uscaleN mn (p10Row i).1 (p10Row i).2 s = Un at *
  generalize uscaleN mx (p10Row i).1 (p10Row i).2 s = Ux at *
  generalize uscaleN m (p10Row i).1 (p10Row i).2 s = Um at *
  have RU := Lib.hid U
  have HUn := Lib.hid hun
  have HUx := Lib.hid hux
  have HUm := Lib.hid hum
  clear hun hux hum
  have Hod := Lib.hid hod
  clear U hod
  have k10 : (Un + od + 3) / 4 ≤ (Ux - od) / 4 / 10 * 10 ∨ (Ux - od) / 4 / 10 * 10 < (Un + od + 3) / 4 := by omega
  have Hi3 := Lib.hid hlq
  have Hpz := Lib.hid hpz
  have Hzz := Lib.hid hzz
  have hwp : IntKind.u64.wrap ((2 : Int) ^ (z - 1)) = (pz : Int) := by
    have e1 : (2 : Int) ^ (z - 1) = ((2 ^ (z - 1) : Nat) : Int) := by simp
    rw [e1, ← hpz, IntKind.wrap_u64]
    omega
  have hs' : -(e + 1076 + 3) = (s : Int) := by rw [← hs, hlq]
  have hzE : (11 : Int) + (-1085 - e) = (z : Int) := by omega
  have heE : e + (z : Int) = -1074 := by omega
  have he0 : -1137 ≤ e := by omega
  have he1 : e ≤ -1086 := by omega
  have He := Lib.hid he
  clear hi324 hlq hpz hzz hmz he
  have key : ((m : Int) == 9223372036854775808) = false ∨ ((m : Int) == 9223372036854775808) = true := by
    cases ((m : Int) == 9223372036854775808) <;> simp
  rcases key with em' | em'
  all_goals
    go_enter Tryd.func60, Tryd.ntmps60
    go_wp2_with fail
    refine (HL.out _).mono ?_; rintro en w' ⟨rfl, rfl⟩
    go_wp2_with fail
    refine (HM.out _).mono ?_; rintro en w' ⟨rfl, rfl⟩
    go_wp2_with fail
    refine (HP.out _ Hc.out).mono ?_; rintro en w' ⟨rfl, rfl⟩
    go_wp2_with fail
    refine (HUn.out _ (cell3 _ _ _ _ _ 0 _ rfl) (cell3 _ _ _ _ _ 1 _ rfl) (cell3 _ _ _ _ _ 2 _ rfl)).mono ?_; rintro en w' ⟨rfl, n1, rfl⟩
    go_wp2_with fail
    refine (unudge_up Un od (by omega) hoddle _).mono ?_; rintro en w' ⟨rfl, rfl⟩
    go_wp2_with fail
    refine (uceil _ (by omega) _).mono ?_; rintro en w' ⟨rfl, rfl⟩
    go_wp2_with fail
    refine (HUx.out _ (cell3d _ _ _ _ _ 0 _ _ rfl) (cell3d _ _ _ _ _ 1 _ _ rfl) (cell3d _ _ _ _ _ 2 _ _ rfl)).mono ?_; rintro en w' ⟨rfl, n2, rfl⟩
    go_wp2_with fail
    refine (unudge_dn Ux od (by omega) hoddle (by omega) _).mono ?_; rintro en w' ⟨rfl, rfl⟩
    go_wp2_with fail
    refine (ufloor _ (by omega) _).mono ?_; rintro en w' ⟨rfl, rfl⟩
    generalize hDx : (Ux - od) / 4 = dx at *
    have gdx : dx ≤ 1152921504606846976 := by omega
    have K2 := Lib.hid hDx
    clear hDx
    go_wp2_with fail
    · go_ret2
      refine ⟨ret_short' ?_ ?_, below_pre _ _ _⟩
      · rw [RU.out, if_pos (by omega)]; simp
      · rw [RU.out, if_pos (by omega)]; have := Hi.out; show _ = -((i : Int) - 348 - 1); omega
    · refine (HUm.out _ (cell3d _ _ _ _ _ 0 _ _ rfl) (cell3d _ _ _ _ _ 1 _ _ rfl) (cell3d _ _ _ _ _ 2 _ _ rfl)).mono ?_; rintro en w' ⟨rfl, n3, rfl⟩
      go_wp2_with fail
      refine (uround Um (by omega) _).mono ?_; rintro en w' ⟨rfl, rfl⟩
      go_wp2_with fail
      go_ret2
      refine ⟨ret_short' ?_ ?_, below_pre _ _ _⟩
      · rw [RU.out, if_neg (by omega), if_pos (by omega)]; simp
      · rw [RU.out, if_neg (by omega), if_pos (by omega)]; have := Hi.out; show _ = -((i : Int) - 348); omega
    · go_ret2
      refine ⟨ret_short' ?_ ?_, below_pre _ _ _⟩
      · rw [RU.out, if_neg (by omega), if_neg (by omega)]; simp
      · rw [RU.out, if_neg (by omega), if_neg (by omega)]; have := Hi.out; show _ = -((i : Int) - 348); omega
set_option maxHeartbeats 1000000 in
set_option maxRecDepth 100000 in
theorem short_mid (m : Nat) (e : Int) (i : Nat) (h0 : 9223372036854775808 ≤ m) (h1 : m ≤ 18446744073709549568) (he0 : -1085 ≤ e) (he1 : e ≤ 960)
    (hi : (i : Int) = 348 - l10p2 (e + 11)) (hne : m ≠ 9223372036854775808 ∨ e = -1085) (w : World) (hc : TCtx w) :
    Calls Tryd.prog 60 #[.int .u64 m, .int .i64 e] w (ShortPost w (shortCore (m - 1024) (m + 1024) m (m / 2048 % 2) e i)) := by
  have hL := log10Pow2 (e + 11) (by omega) (by omega)
  have hl0 : -330 ≤ l10p2 (e + 11) := by unfold l10p2; omega
  have hl1 : l10p2 (e + 11) ≤ 300 := by unfold l10p2; omega
  have hi7 : i < 696 := by omega
  have hs0 : 4 ≤ -(e + l2p10 ((i : Int) - 348) + 3) := by rw [hi]; unfold l2p10 l10p2; omega
  have hs1 : -(e + l2p10 ((i : Int) - 348) + 3) ≤ 58 := by rw [hi]; unfold l2p10 l10p2; omega
  have hM := log2Pow10 ((i : Int) - 348) (by omega) (by omega)
  have hlp0 : -5000 ≤ l2p10 ((i : Int) - 348) := by omega
  have hlp1 : l2p10 ((i : Int) - 348) ≤ 5000 := by omega
  have hneg : -l10p2 (e + 11) = (i : Int) - 348 := by omega
  have hP := fun w' (h : TCtx w') => prescale_calls e ((i : Int) - 348) i hi7 rfl (by omega) (by omega) (l2p10 ((i : Int) - 348)) hlp0 hlp1 w'.heap.size 107 (.int .u64 0) (.int .u64 0) (.int .i64 0) w' rfl h
  have HP := Lib.hid hP
  clear hP
  have HL := Lib.hid hL
  have HM := Lib.hid hM
  have Hi := Lib.hid hi
  have Hc := Lib.hid hc
  clear hL hM hi hc
  have hodd := and1 (m / 2048) (by omega)
  have hodd' : bits .and .i64 ((m : Int) / 2048) 1 = ((m / 2048 % 2 : Nat) : Int) := by
    rw [← hodd]; congr 1
  clear hodd
  have hoddle : m / 2048 % 2 ≤ 1 := by omega
  have U : shortCore (m - 1024) (m + 1024) m (m / 2048 % 2) e i = shortCore (m - 1024) (m + 1024) m (m / 2048 % 2) e i := rfl
  conv at U => rhs; unfold shortCore
  simp only [] at U
  obtain ⟨s, hs⟩ : ∃ s : Nat, -(e + l2p10 ((i : Int) - 348) + 3) = (s : Int) := ⟨(-(e + l2p10 ((i : Int) - 348) + 3)).toNat, by omega⟩
  obtain ⟨mn, hmn⟩ : ∃ mn : Nat, (m : Int) - 1024 = (mn : Int) := ⟨m - 1024, by omega⟩
  obtain ⟨mx, hmx⟩ : ∃ mx : Nat, (m : Int) + 1024 = (mx : Int) := ⟨m + 1024, by omega⟩
  rw [hs, show ((s : Int)).toNat = s by omega] at U
  generalize shortCore (m - 1024) (m + 1024) m (m / 2048 % 2) e i = res at *
  rw [show m - 1024 = mn by omega, show m + 1024 = mx by omega] at U
  have g4 : 4 ≤ s := by omega
  have g58 : s ≤ 58 := by omega
  have gmn : 4611686018427387904 ≤ mn ∧ mn < 18446744073709551616 := by omega
  have gmx : 4611686018427387904 ≤ mx ∧ mx < 18446744073709551616 := by omega
  obtain ⟨r0, r1, r2⟩ := p10_all i hi7
  have hun := fun W => uscale_calls mn (p10Row i).1 (p10Row i).2 s gmn.2 r1 r2 (by omega) w.heap.size W
  have hux := fun W => uscale_calls mx (p10Row i).1 (p10Row i).2 s gmx.2 r1 r2 (by omega) w.heap.size W
  have hum := fun W => uscale_calls m (p10Row i).1 (p10Row i).2 s (by omega) r1 r2 (by omega) w.heap.size W
  have un := uscaleN_le mn (p10Row i).1 (p10Row i).2 s gmn.2 r1 g4
  have ux := uscaleN_le mx (p10Row i).1 (p10Row i).2 s gmx.2 r1 g4
  have um := uscaleN_le m (p10Row i).1 (p10Row i).2 s (by omega) r1 g4
  have un' := uscaleN_pos mn (p10Row i).1 (p10Row i).2 s gmn.1 gmn.2 r0 r1 g58
  have ux' := uscaleN_pos mx (p10Row i).1 (p10Row i).2 s gmx.1 gmx.2 r0 r1 g58
  have um' := uscaleN_pos m (p10Row i).1 (p10Row i).2 s (by omega) (by omega) r0 r1 g58
  generalize hod : m / 2048 % 2 = od at *
  generalize uscaleN mn (p10Row i).1 (p10Row i).2 s = Un at *
  generalize uscaleN mx (p10Row i).1 (p10Row i).2 s = Ux at *
  generalize uscaleN m (p10Row i).1 (p10Row i).2 s = Um at *
  have RU := Lib.hid U
  have HUn := Lib.hid hun
  have HUx := Lib.hid hux
  have HUm := Lib.hid hum
  clear hun hux hum
  have Hod := Lib.hid hod
  clear U hod
  have k10 : (Un + od + 3) / 4 ≤ (Ux - od) / 4 / 10 * 10 ∨ (Ux - od) / 4 / 10 * 10 < (Un + od + 3) / 4 := by omega
  have key : ((m : Int) == 9223372036854775808) = false ∨ (((m : Int) == 9223372036854775808) = true ∧ e ≤ -1085) := by
    by_cases h : m = 9223372036854775808
    · right; exact ⟨by simp [h], by omega⟩
    · left; simpa [beq_eq_false_iff_ne] using (by omega : (m : Int) ≠ 9223372036854775808)
  clear hne
  rcases key with em' | ⟨em', he2⟩
  all_goals
    go_enter Tryd.func60, Tryd.ntmps60
    go_wp2_with fail
    refine (HL.out _).mono ?_; rintro en w' ⟨rfl, rfl⟩
    go_wp2_with fail
    refine (HM.out _).mono ?_; rintro en w' ⟨rfl, rfl⟩
    go_wp2_with fail
    refine (HP.out _ Hc.out).mono ?_; rintro en w' ⟨rfl, rfl⟩
    go_wp2_with fail
    refine (HUn.out _ (cell3 _ _ _ _ _ 0 _ rfl) (cell3 _ _ _ _ _ 1 _ rfl) (cell3 _ _ _ _ _ 2 _ rfl)).mono ?_; rintro en w' ⟨rfl, n1, rfl⟩
    go_wp2_with fail
    refine (unudge_up Un od (by omega) hoddle _).mono ?_; rintro en w' ⟨rfl, rfl⟩
    go_wp2_with fail
    refine (uceil _ (by omega) _).mono ?_; rintro en w' ⟨rfl, rfl⟩
    go_wp2_with fail
    refine (HUx.out _ (cell3d _ _ _ _ _ 0 _ _ rfl) (cell3d _ _ _ _ _ 1 _ _ rfl) (cell3d _ _ _ _ _ 2 _ _ rfl)).mono ?_; rintro en w' ⟨rfl, n2, rfl⟩
    go_wp2_with fail
    refine (unudge_dn Ux od (by omega) hoddle (by omega) _).mono ?_; rintro en w' ⟨rfl, rfl⟩
    go_wp2_with fail
    refine (ufloor _ (by omega) _).mono ?_; rintro en w' ⟨rfl, rfl⟩
    clear k10
    generalize hDx : (Ux - od) / 4 = dx at *
    have gdx : dx ≤ 1152921504606846976 := by omega
    have K2 := Lib.hid hDx
    clear hDx
    go_wp2_with fail
    · go_ret2
      refine ⟨ret_short' ?_ ?_, below_pre _ _ _⟩
      · rw [RU.out, if_pos (by omega)]; simp
      · rw [RU.out, if_pos (by omega)]
    · refine (HUm.out _ (cell3d _ _ _ _ _ 0 _ _ rfl) (cell3d _ _ _ _ _ 1 _ _ rfl) (cell3d _ _ _ _ _ 2 _ _ rfl)).mono ?_; rintro en w' ⟨rfl, n3, rfl⟩
      go_wp2_with fail
      refine (uround Um (by omega) _).mono ?_; rintro en w' ⟨rfl, rfl⟩
      go_wp2_with fail
      go_ret2
      refine ⟨ret_short' ?_ ?_, below_pre _ _ _⟩
      · rw [RU.out, if_neg (by omega), if_pos (by omega)]; simp
      · rw [RU.out, if_neg (by omega), if_pos (by omega)]
    · go_ret2
      refine ⟨ret_short' ?_ ?_, below_pre _ _ _⟩
      · rw [RU.out, if_neg (by omega), if_neg (by omega)]; simp
      · rw [RU.out, if_neg (by omega), if_neg (by omega)]
set_option maxHeartbeats 1000000 in
set_option maxRecDepth 100000 in
theorem short_skew (m : Nat) (e : Int) (i : Nat) (h0 : 9223372036854775808 ≤ m) (h1 : m ≤ 18446744073709549568) (he0 : -1084 ≤ e) (he1 : e ≤ 960)
    (hi : (i : Int) = 348 - skew (e + 11)) (hm : m = 9223372036854775808) (w : World) (hc : TCtx w) :
    Calls Tryd.prog 60 #[.int .u64 m, .int .i64 e] w (ShortPost w (shortCore (m - 512) (m + 1024) m (m / 2048 % 2) e i)) := by
  have hL := skewed (e + 11) (by omega) (by omega)
  have hl0 : -330 ≤ skew (e + 11) := by unfold skew; omega
  have hl1 : skew (e + 11) ≤ 300 := by unfold skew; omega
  have hi7 : i < 696 := by omega
  have hs0 : 4 ≤ -(e + l2p10 ((i : Int) - 348) + 3) := by rw [hi]; unfold l2p10 skew; omega
  have hs1 : -(e + l2p10 ((i : Int) - 348) + 3) ≤ 58 := by rw [hi]; unfold l2p10 skew; omega
  have hM := log2Pow10 ((i : Int) - 348) (by omega) (by omega)
  have hlp0 : -5000 ≤ l2p10 ((i : Int) - 348) := by omega
  have hlp1 : l2p10 ((i : Int) - 348) ≤ 5000 := by omega
  have hneg : -skew (e + 11) = (i : Int) - 348 := by omega
  have hP := fun w' (h : TCtx w') => prescale_calls e ((i : Int) - 348) i hi7 rfl (by omega) (by omega) (l2p10 ((i : Int) - 348)) hlp0 hlp1 w'.heap.size 107 (.int .u64 0) (.int .u64 0) (.int .i64 0) w' rfl h
  have HP := Lib.hid hP
  clear hP
  have HL := Lib.hid hL
  have HM := Lib.hid hM
  have Hi := Lib.hid hi
  have Hc := Lib.hid hc
  clear hL hM hi hc
  have hodd := and1 (m / 2048) (by omega)
  have hodd' : bits .and .i64 ((m : Int) / 2048) 1 = ((m / 2048 % 2 : Nat) : Int) := by
    rw [← hodd]; congr 1
  clear hodd
  have hoddle : m / 2048 % 2 ≤ 1 := by omega
  have U : shortCore (m - 512) (m + 1024) m (m / 2048 % 2) e i = shortCore (m - 512) (m + 1024) m (m / 2048 % 2) e i := rfl
  conv at U => rhs; unfold shortCore
  simp only [] at U
  obtain ⟨s, hs⟩ : ∃ s : Nat, -(e + l2p10 ((i : Int) - 348) + 3) = (s : Int) := ⟨(-(e + l2p10 ((i : Int) - 348) + 3)).toNat, by omega⟩
  obtain ⟨mn, hmn⟩ : ∃ mn : Nat, (m : Int) - 512 = (mn : Int) := ⟨m - 512, by omega⟩
  obtain ⟨mx, hmx⟩ : ∃ mx : Nat, (m : Int) + 1024 = (mx : Int) := ⟨m + 1024, by omega⟩
  rw [hs, show ((s : Int)).toNat = s by omega] at U
  generalize shortCore (m - 512) (m + 1024) m (m / 2048 % 2) e i = res at *
  rw [show m - 512 = mn by omega, show m + 1024 = mx by omega] at U
  have g4 : 4 ≤ s := by omega
  have g58 : s ≤ 58 := by omega
  have gmn : 4611686018427387904 ≤ mn ∧ mn < 18446744073709551616 := by omega
  have gmx : 4611686018427387904 ≤ mx ∧ mx < 18446744073709551616 := by omega
  obtain ⟨r0, r1, r2⟩ := p10_all i hi7
  have hun := fun W => uscale_calls mn (p10Row i).1 (p10Row i).2 s gmn.2 r1 r2 (by omega) w.heap.size W
  have hux := fun W => uscale_calls mx (p10Row i).1 (p10Row i).2 s gmx.2 r1 r2 (by omega) w.heap.size W
  have hum := fun W => uscale_calls m (p10Row i).1 (p10Row i).2 s (by omega) r1 r2 (by omega) w.heap.size W
  have un := uscaleN_le mn (p10Row i).1 (p10Row i).2 s gmn.2 r1 g4
  have ux := uscaleN_le mx (p10Row i).1 (p10Row i).2 s gmx.2 r1 g4
  have um := uscaleN_le m (p10Row i).1 (p10Row i).2 s (by omega) r1 g4
  have un' := uscaleN_pos mn (p10Row i).1 (p10Row i).2 s gmn.1 gmn.2 r0 r1 g58
  have ux' := uscaleN_pos mx (p10Row i).1 (p10Row i).2 s gmx.1 gmx.2 r0 r1 g58
  have um' := uscaleN_pos m (p10Row i).1 (p10Row i).2 s (by omega) (by omega) r0 r1 g58
  generalize hod : m / 2048 % 2 = od at *
  generalize uscaleN mn (p10Row i).1 (p10Row i).2 s = Un at *
  generalize uscaleN mx (p10Row i).1 (p10Row i).2 s = Ux at *
  generalize uscaleN m (p10Row i).1 (p10Row i).2 s = Um at *
  have RU := Lib.hid U
  have HUn := Lib.hid hun
  have HUx := Lib.hid hux
  have HUm := Lib.hid hum
  clear hun hux hum
  have Hod := Lib.hid hod
  clear U hod
  have k10 : (Un + od + 3) / 4 ≤ (Ux - od) / 4 / 10 * 10 ∨ (Ux - od) / 4 / 10 * 10 < (Un + od + 3) / 4 := by omega
  have em' : ((m : Int) == 9223372036854775808) = true := by simp [hm]
  clear hm
  go_enter Tryd.func60, Tryd.ntmps60
  go_wp2_with fail
  refine (HL.out _).mono ?_; rintro en w' ⟨rfl, rfl⟩
  go_wp2_with fail
  refine (HM.out _).mono ?_; rintro en w' ⟨rfl, rfl⟩
  go_wp2_with fail
  refine (HP.out _ Hc.out).mono ?_; rintro en w' ⟨rfl, rfl⟩
  go_wp2_with fail
  refine (HUn.out _ (cell3 _ _ _ _ _ 0 _ rfl) (cell3 _ _ _ _ _ 1 _ rfl) (cell3 _ _ _ _ _ 2 _ rfl)).mono ?_; rintro en w' ⟨rfl, n1, rfl⟩
  go_wp2_with fail
  refine (unudge_up Un od (by omega) hoddle _).mono ?_; rintro en w' ⟨rfl, rfl⟩
  go_wp2_with fail
  refine (uceil _ (by omega) _).mono ?_; rintro en w' ⟨rfl, rfl⟩
  go_wp2_with fail
  refine (HUx.out _ (cell3d _ _ _ _ _ 0 _ _ rfl) (cell3d _ _ _ _ _ 1 _ _ rfl) (cell3d _ _ _ _ _ 2 _ _ rfl)).mono ?_; rintro en w' ⟨rfl, n2, rfl⟩
  go_wp2_with fail
  refine (unudge_dn Ux od (by omega) hoddle (by omega) _).mono ?_; rintro en w' ⟨rfl, rfl⟩
  go_wp2_with fail
  refine (ufloor _ (by omega) _).mono ?_; rintro en w' ⟨rfl, rfl⟩
  clear k10
  generalize hDx : (Ux - od) / 4 = dx at *
  have gdx : dx ≤ 1152921504606846976 := by omega
  have K2 := Lib.hid hDx
  clear hDx
  go_wp2_with fail
  · go_ret2
    refine ⟨ret_short' ?_ ?_, below_pre _ _ _⟩
    · rw [RU.out, if_pos (by omega)]; simp
    · rw [RU.out, if_pos (by omega)]
  · refine (HUm.out _ (cell3d _ _ _ _ _ 0 _ _ rfl) (cell3d _ _ _ _ _ 1 _ _ rfl) (cell3d _ _ _ _ _ 2 _ _ rfl)).mono ?_; rintro en w' ⟨rfl, n3, rfl⟩
    go_wp2_with fail
    refine (uround Um (by omega) _).mono ?_; rintro en w' ⟨rfl, rfl⟩
    go_wp2_with fail
    go_ret2
    refine ⟨ret_short' ?_ ?_, below_pre _ _ _⟩
    · rw [RU.out, if_neg (by omega), if_pos (by omega)]; simp
    · rw [RU.out, if_neg (by omega), if_pos (by omega)]
  · go_ret2
    refine ⟨ret_short' ?_ ?_, below_pre _ _ _⟩
    · rw [RU.out, if_neg (by omega), if_neg (by omega)]; simp
    · rw [RU.out, if_neg (by omega), if_neg (by omega)]
end Go.Proofs.YtlebpaneignfaaaDoor
