/- parseFloat64 over the translated program, at any digits below 2 to the 57: what the plain functions of XUs7 say. Conditions: the tables hold what start-up lays. -/
import Derived.Test.YtnibfebfgdhfgaaGreatDoorUsA
namespace Go.Proofs.YtnibfebfgdhfgaaGreatDoor
open Go.ChangeShapes Go.WideShapes Go.ChangeAt Go.RowKit Go.Sort Us

set_option maxHeartbeats 1000000 in
set_option maxRecDepth 100000 in
theorem parse_gen (S d i w s U t m sd : Nat) (e L : Int) (r : Nat) (hi : i < 696) (hd0 : 1 ≤ d) (hd : d < 10000000000000000000) (hw : 64 - Lib.bitLen d = w) (hw1 : w ≤ 63)
    (hL : l2p10 ((i : Int) - 348) = L) (hL0 : -1200 ≤ L) (hL1 : L ≤ 1200) (he : min 1074 (53 - (64 - (w : Int)) - L) = e) (he0 : -1200 ≤ e) (hs : -(e - (w : Int) + L + 3) = (s : Int)) (hs1 : s < 64)
    (hx : d * 2 ^ w < 18446744073709551616) (hU : uscaleN (d * 2 ^ w) (p10Row i).1 (p10Row i).2 s = U) (hU1 : U < 4611686018427387904) (ht : (if 36028797018963966 ≤ U then 1 else 0) = t) (hm : ((U / 2 ^ t ||| U % 2) + 1 + (U / 2 ^ t ||| U % 2) / 4 % 2) / 4 = m)
    (hsd : bits .or .u64 (S : Int) (m : Int) = (sd : Int))
    (HK : ∀ w, Calls Tryz.prog 96 #[.int .u64 sd, .int .i64 (-(e - (t : Int)))] w fun e w' => e = .returned (.tuple #[.float .f64 r, .nilIface]) ∧ w = w') (W : World) (hc : TCtx W) :
    Calls Tryz.prog 83 #[.int .u64 d, .int .i64 ((i : Int) - 348), .int .u64 S] W fun e w' => e = .returned (.tuple #[.float .f64 r, .nilIface]) ∧ Below W.heap.size W w' := by
  have h1 := fun W => lenz d w (by omega) hw W
  have h2 := log2Pow10 ((i : Int) - 348) (by omega) (by omega)
  rw [hL] at h2
  have h3 := prescale_calls (e - (64 - (64 - (w : Int)))) ((i : Int) - 348) i hi rfl (by omega) (by omega) L (by omega) (by omega) W.heap.size 90 (.int .u64 0) (.int .u64 0) (.int .i64 0) W rfl hc
  rw [show -(e - (64 - (64 - (w : Int))) + L + 3) = (s : Int) by omega] at h3
  obtain ⟨pa, pb, pc⟩ := p10_all i hi
  have h4 := fun W' => uscale_calls (d * 2 ^ w) (p10Row i).1 (p10Row i).2 s hx (by omega) (by omega) hs1 W.heap.size W'
  rw [hU] at h4
  have h5 := unmin_calls 9007199254740992 (by omega) (by omega)
  generalize (p10Row i).1 = ph at *
  generalize (p10Row i).2 = pl at *
  have H1 := Lib.hid h1
  have H2 := Lib.hid h2
  have H3 := Lib.hid h3
  have H4 := Lib.hid h4
  have H5 := Lib.hid h5
  have H6 := Lib.hid bool2i
  have HK := Lib.hid HK
  have hsh : IntKind.u64.wrap ((d : Int) * 2 ^ (64 - (64 - w))) = ((d * 2 ^ w : Nat) : Int) := by
    rw [show 64 - (64 - w) = w by omega, IntKind.wrap_u64]
    push_cast
    have : ((d * 2 ^ w : Nat) : Int) < 18446744073709551616 := by omega
    push_cast at this
    exact Int.emod_eq_of_lt (Int.mul_nonneg (by omega) (Int.pow_nonneg (by omega))) this
  clear h1 h2 h3 h4 h5 hc
  go_enter Tryz.func83, Tryz.ntmps83
  go_wp2_with fail
  refine (H1.out _).mono ?_; rintro en w' ⟨rfl, rfl⟩
  go_wp2_with fail
  refine (H2.out _).mono ?_; rintro en w' ⟨rfl, rfl⟩
  go_wp2_with fail
  refine H3.out.mono ?_; rintro en w' ⟨rfl, rfl⟩
  have hds : decide ((64 : Int) ≤ (s : Int)) = false := decide_eq_false (by omega)
  go_wp2_with fail
  rw [hsh]
  refine (H4.out _ (cell3 _ _ _ _ _ 0 _ rfl) (cell3 _ _ _ _ _ 1 _ rfl) (cell3 _ _ _ _ _ 2 _ rfl)).mono ?_; rintro en w' ⟨rfl, n1, rfl⟩
  go_wp2_with fail
  refine (H5.out _).mono ?_; rintro en w' ⟨rfl, rfl⟩
  have ea : bits .and .u64 (U : Int) 1 = ((U % 2 : Nat) : Int) := by
    have h := bits_and_u64_nat U 1 (by omega) (by omega)
    rw [Nat.and_one_is_mod] at h
    exact h
  by_cases hge : 36028797018963966 ≤ U
  · rw [if_pos hge] at ht
    have hdec : decide ((36028797018963966 : Int) ≤ (U : Int)) = true := decide_eq_true (by omega)
    have ef : b2n true = 1 := rfl
    subst ht
    obtain ⟨V, hV⟩ : ∃ V, U / 2 ^ 1 ||| U % 2 = V := ⟨_, rfl⟩
    rw [hV] at hm
    have hVlt : V < 18446744073709551612 := by
      have h1 := Nat.or_lt_two_pow (x := U / 2 ^ 1) (y := U % 2) (n := 62) (by omega) (by omega)
      omega
    have h7 := uround V hVlt
    rw [hm] at h7
    have H7 := Lib.hid h7
    have eo : bits .or .u64 ((U : Int) / 2) ((U : Int) % 2) = (V : Int) := by
      have h := bits_or_u64_nat (U / 2 ^ 1) (U % 2) (by omega) (by omega)
      rw [hV] at h
      rw [← h]
      congr 1
    clear hge h7 hV
    go_wp2_with fail
    refine (H6.out _ _).mono ?_; rintro en w' ⟨rfl, rfl⟩
    go_wp2_with fail
    refine (H7.out _).mono ?_; rintro en w' ⟨rfl, rfl⟩
    go_wp2_with fail
    refine (HK.out _).mono ?_; rintro en w' ⟨rfl, rfl⟩
    go_wp2_with fail
    go_ret2
    exact ⟨rfl, below_pre _ _ _⟩
  · rw [if_neg hge] at ht
    have hdec : decide ((36028797018963966 : Int) ≤ (U : Int)) = false := decide_eq_false (by omega)
    have ef : b2n false = 0 := rfl
    subst ht
    obtain ⟨V, hV⟩ : ∃ V, U / 2 ^ 0 ||| U % 2 = V := ⟨_, rfl⟩
    rw [hV] at hm
    have hVlt : V < 18446744073709551612 := by
      have h1 := Nat.or_lt_two_pow (x := U / 2 ^ 0) (y := U % 2) (n := 62) (by omega) (by omega)
      omega
    have h7 := uround V hVlt
    rw [hm] at h7
    have H7 := Lib.hid h7
    have eo : bits .or .u64 ((U : Int)) ((U : Int) % 2) = (V : Int) := by
      have h := bits_or_u64_nat (U / 2 ^ 0) (U % 2) (by omega) (by omega)
      rw [hV] at h
      rw [← h, Nat.pow_zero, Nat.div_one]
      rfl
    clear hge h7 hV
    go_wp2_with fail
    refine (H6.out _ _).mono ?_; rintro en w' ⟨rfl, rfl⟩
    go_wp2_with fail
    refine (H7.out _).mono ?_; rintro en w' ⟨rfl, rfl⟩
    go_wp2_with fail
    have HK2 := HK.out
    rw [show e - ((0 : Nat) : Int) = e by omega] at HK2
    refine (HK2 _).mono ?_; rintro en w' ⟨rfl, rfl⟩
    go_wp2_with fail
    go_ret2
    exact ⟨rfl, below_pre _ _ _⟩
end Go.Proofs.YtnibfebfgdhfgaaGreatDoor
