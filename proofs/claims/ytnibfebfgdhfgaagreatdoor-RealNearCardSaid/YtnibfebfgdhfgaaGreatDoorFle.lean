/- Parse at texts that are written out: isDecimal and Parse of package real, over the translated program. Conditions: the tables hold what start-up lays. -/
import Derived.Test.YtnibfebfgdhfgaaGreatDoorFld
namespace Go.Proofs.YtnibfebfgdhfgaaGreatDoor
open Go.ChangeShapes Go.WideShapes Go.ChangeAt Go.RowKit Go.Sort

theorem isDig_of (s : ByteArray) (i : Nat) (h : i < s.size) (a : 48 ≤ s[i].toNat) (b : s[i].toNat ≤ 57) : isDig s i := ⟨h, a, b⟩
theorem isDig_not (s : ByteArray) (i : Nat) (h : i < s.size) (a : s[i].toNat < 48 ∨ 57 < s[i].toNat) : ¬ isDig s i := fun ⟨_, x, y⟩ => by omega
theorem isDig_end (s : ByteArray) (i : Nat) (h : s.size ≤ i) : ¬ isDig s i := fun ⟨x, _⟩ => by omega

set_option maxHeartbeats 1000000 in
set_option maxRecDepth 100000 in
theorem isDecimal_0d (s : ByteArray) (d : Nat) (hd : 1 ≤ d) (hd9 : d ≤ 9) (h0 : 3 ≤ s.size) (h1 : s.size ≤ 3) (c0 : (s[0].toNat : Int) = 48) (c1 : (s[1].toNat : Int) = 46) (c2 : (s[2].toNat : Int) = (d : Int) + 48) (w : World) :
    Calls Tryz.prog 15 #[.string s] w fun e w' => e = .returned (.bool true) ∧ ∃ n, w' = w.drewN n := by
  have A1 := Lib.hid (after_miss s ⟨#[45]⟩ 0 (by omega) (by omega) (by decide) (by decide) 48 45 c0 rfl (by omega))
  have D1 := Lib.hid (digits_calls s 0 1 (by omega) (by omega) (by omega) (fun j a b => by obtain rfl : j = 0 := (by omega); exact isDig_of s 0 (by omega) (by omega) (by omega)) (isDig_not s 1 (by omega) (by omega)))
  have A2 := Lib.hid (after_hit s ⟨#[46]⟩ 1 (by omega) (by omega) (by decide) (by decide) 46 c1 rfl)
  have D2 := Lib.hid (digits_calls s 2 3 (by omega) (by omega) (by omega) (fun j a b => by obtain rfl : j = 2 := (by omega); exact isDig_of s 2 (by omega) (by omega) (by omega)) (isDig_end s 3 h1))
  have A3 := Lib.hid (after_end s ⟨#[101]⟩ 3 (by omega) (by omega) (by omega) (by decide) (by decide))
  clear c0 c1 c2
  have hl : ((3 : Int) == (s.size : Int)) = true := by rw [beq_iff_eq]; omega
  go_enter Tryz.func15, Tryz.ntmps15
  go_wp2_with fail
  refine (A1.out _).mono ?_; rintro en w' ⟨rfl, n1, rfl⟩
  go_wp2_with fail
  refine (D1.out _).mono ?_; rintro en w' ⟨rfl, rfl⟩
  go_wp2_with fail
  refine (A2.out _).mono ?_; rintro en w' ⟨rfl, n2, rfl⟩
  go_wp2_with fail
  refine (D2.out _).mono ?_; rintro en w' ⟨rfl, rfl⟩
  go_wp2_with fail
  refine (A3.out _).mono ?_; rintro en w' ⟨rfl, n3, rfl⟩
  go_wp2_with fail
  go_ret
  exact ⟨rfl, _, rfl⟩

set_option maxHeartbeats 1000000 in
set_option maxRecDepth 100000 in
theorem isDecimal_m0 (s : ByteArray) (h0 : 2 ≤ s.size) (h1 : s.size ≤ 2) (c0 : (s[0].toNat : Int) = 45) (c1 : (s[1].toNat : Int) = 48) (w : World) :
    Calls Tryz.prog 15 #[.string s] w fun e w' => e = .returned (.bool true) ∧ ∃ n, w' = w.drewN n := by
  have A1 := Lib.hid (after_hit s ⟨#[45]⟩ 0 (by omega) (by omega) (by decide) (by decide) 45 c0 rfl)
  have D1 := Lib.hid (digits_calls s 1 2 (by omega) (by omega) (by omega) (fun j a b => by obtain rfl : j = 1 := (by omega); exact isDig_of s 1 (by omega) (by omega) (by omega)) (isDig_end s 2 h1))
  have A2 := Lib.hid (after_end s ⟨#[46]⟩ 2 (by omega) (by omega) (by omega) (by decide) (by decide))
  have A3 := Lib.hid (after_end s ⟨#[101]⟩ 2 (by omega) (by omega) (by omega) (by decide) (by decide))
  clear c0 c1
  have hl : ((2 : Int) == (s.size : Int)) = true := by rw [beq_iff_eq]; omega
  go_enter Tryz.func15, Tryz.ntmps15
  go_wp2_with fail
  refine (A1.out _).mono ?_; rintro en w' ⟨rfl, n1, rfl⟩
  go_wp2_with fail
  refine (D1.out _).mono ?_; rintro en w' ⟨rfl, rfl⟩
  go_wp2_with fail
  refine (A2.out _).mono ?_; rintro en w' ⟨rfl, n2, rfl⟩
  go_wp2_with fail
  refine (A3.out _).mono ?_; rintro en w' ⟨rfl, n3, rfl⟩
  go_wp2_with fail
  go_ret
  exact ⟨rfl, _, rfl⟩

set_option maxHeartbeats 1000000 in
set_option maxRecDepth 100000 in
theorem isDecimal_1e (s : ByteArray) (h0 : 5 ≤ s.size) (h1 : s.size ≤ 5) (c0 : (s[0].toNat : Int) = 49) (c1 : (s[1].toNat : Int) = 101) (c2 : (s[2].toNat : Int) = 57) (c3 : (s[3].toNat : Int) = 57) (c4 : (s[4].toNat : Int) = 57) (w : World) :
    Calls Tryz.prog 15 #[.string s] w fun e w' => e = .returned (.bool true) ∧ ∃ n, w' = w.drewN n := by
  have A1 := Lib.hid (after_miss s ⟨#[45]⟩ 0 (by omega) (by omega) (by decide) (by decide) 49 45 c0 rfl (by omega))
  have D1 := Lib.hid (digits_calls s 0 1 (by omega) (by omega) (by omega) (fun j a b => by obtain rfl : j = 0 := (by omega); exact isDig_of s 0 (by omega) (by omega) (by omega)) (isDig_not s 1 (by omega) (by omega)))
  have A2 := Lib.hid (after_miss s ⟨#[46]⟩ 1 (by omega) (by omega) (by decide) (by decide) 101 46 c1 rfl (by omega))
  have A3 := Lib.hid (after_hit s ⟨#[101]⟩ 1 (by omega) (by omega) (by decide) (by decide) 101 c1 rfl)
  have A4 := Lib.hid (after_miss2 s ⟨#[43, 45]⟩ 2 (by omega) (by omega) (by decide) (by decide) 57 43 45 c2 rfl rfl (by omega) (by omega))
  have D2 := Lib.hid (digits_calls s 2 5 (by omega) (by omega) (by omega) (fun j a b => by
    rcases (show j = 2 ∨ j = 3 ∨ j = 4 by omega) with rfl | rfl | rfl
    · exact isDig_of s 2 (by omega) (by omega) (by omega)
    · exact isDig_of s 3 (by omega) (by omega) (by omega)
    · exact isDig_of s 4 (by omega) (by omega) (by omega)) (isDig_end s 5 h1))
  clear c0 c1 c2 c3 c4
  have hl : ((5 : Int) == (s.size : Int)) = true := by rw [beq_iff_eq]; omega
  go_enter Tryz.func15, Tryz.ntmps15
  go_wp2_with fail
  refine (A1.out _).mono ?_; rintro en w' ⟨rfl, n1, rfl⟩
  go_wp2_with fail
  refine (D1.out _).mono ?_; rintro en w' ⟨rfl, rfl⟩
  go_wp2_with fail
  refine (A2.out _).mono ?_; rintro en w' ⟨rfl, n2, rfl⟩
  go_wp2_with fail
  refine (A3.out _).mono ?_; rintro en w' ⟨rfl, n3, rfl⟩
  go_wp2_with fail
  refine (A4.out _).mono ?_; rintro en w' ⟨rfl, n4, rfl⟩
  go_wp2_with fail
  refine (D2.out _).mono ?_; rintro en w' ⟨rfl, rfl⟩
  go_wp2_with fail
  go_ret
  exact ⟨rfl, _, rfl⟩

set_option maxRecDepth 100000 in
/-- real.Parse at a text that is decimal, and no number's own word. -/
theorem realParse_ok (s : ByteArray) (e1 : (s.toList == [105, 110, 102]) = false) (e2 : (s.toList == [45, 105, 110, 102]) = false) (e3 : (s.toList == [110, 97, 110]) = false) (hs : s.size ≤ 64) (n : Nat) (hn : n = s.size) (b : Nat) (w : World) (hc : RCtx w)
    (hd : ∀ W, Calls Tryz.prog 15 #[.string s] W fun e w' => e = .returned (.bool true) ∧ ∃ n, w' = W.drewN n)
    (h : ∀ W, RCtx W → Calls Tryz.prog 46 #[.string s] W fun e w' => e = .returned (.tuple #[.float .f64 b, .int .i64 n, .nilIface]) ∧ W = w') :
    Calls Tryz.prog 9 #[.string s] w fun e w' => e = .returned (.tuple #[.float .f64 b, .int .i64 0]) ∧ Below w.heap.size w w' := by
  have HD := Lib.hid hd
  have HP := Lib.hid (fun W hW => parseFloat_ok s n hn b W (h W hW))
  have Hc := Lib.hid hc
  clear hd h hn hc
  go_enter Tryz.func9, Tryz.ntmps9
  go_wp2_with fail
  refine (HD.out _).mono ?_; rintro en w' ⟨rfl, n1, rfl⟩
  go_wp2_with fail
  refine (HP.out _ (Hc.out.below (below_drewN _ _))).mono ?_; rintro en w' ⟨rfl, rfl⟩
  go_wp2_with fail
  go_ret2
  exact ⟨rfl, below_drewN _ _⟩

set_option maxRecDepth 100000 in
theorem realParse_rng (s : ByteArray) (e1 : (s.toList == [105, 110, 102]) = false) (e2 : (s.toList == [45, 105, 110, 102]) = false) (e3 : (s.toList == [110, 97, 110]) = false) (hs : s.size ≤ 64) (n : Nat) (hn : n = s.size) (b : Nat) (w : World) (hc : RCtx w)
    (hd : ∀ W, Calls Tryz.prog 15 #[.string s] W fun e w' => e = .returned (.bool true) ∧ ∃ n, w' = W.drewN n)
    (h : ∀ W, RCtx W → Calls Tryz.prog 46 #[.string s] W fun e w' => e = .returned (.tuple #[.float .f64 b, .int .i64 n, .iface 53 (.int .i64 1)]) ∧ W = w') :
    Calls Tryz.prog 9 #[.string s] w fun e w' => e = .returned (.tuple #[.float .f64 0, .int .i64 21]) ∧ Below w.heap.size w w' := by
  have HD := Lib.hid hd
  have HP := Lib.hid (fun W hW => parseFloat_rng s (by omega) n hn b W hW (h W hW))
  have Hc := Lib.hid hc
  clear hd h hn hc
  go_enter Tryz.func9, Tryz.ntmps9
  go_wp2_with fail
  refine (HD.out _).mono ?_; rintro en w' ⟨rfl, n1, rfl⟩
  go_wp2_with fail
  refine (HP.out _ (Hc.out.below (below_drewN _ _))).mono ?_; rintro en w' ⟨N, rfl, hb⟩
  go_wp2_with fail
  go_ret2
  exact ⟨rfl, bstep (below_drewN w n1) hb⟩

set_option maxRecDepth 100000 in
/-- real.Parse at the words of what no digits say. -/
theorem realParse_word (s : ByteArray) (b : Nat) (w : World)
    (h : ((s.toList == [105, 110, 102]) = true ∧ b = 9218868437227405312) ∨ ((s.toList == [105, 110, 102]) = false ∧ (s.toList == [45, 105, 110, 102]) = true ∧ b = 18442240474082181120) ∨ ((s.toList == [105, 110, 102]) = false ∧ (s.toList == [45, 105, 110, 102]) = false ∧ (s.toList == [110, 97, 110]) = true ∧ b = 9221120237041090561)) :
    Calls Tryz.prog 9 #[.string s] w fun e w' => e = .returned (.tuple #[.float .f64 b, .int .i64 0]) ∧ w = w' := by
  rcases h with ⟨h1, rfl⟩ | ⟨h1, h2, rfl⟩ | ⟨h1, h2, h3, rfl⟩
  all_goals
    go_enter Tryz.func9, Tryz.ntmps9
    go_wp2_with fail
    go_ret2
    exact ⟨rfl, rfl⟩
end Go.Proofs.YtnibfebfgdhfgaaGreatDoor
