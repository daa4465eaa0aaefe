/- Plain facts, of no program: how many digits a number's shortest text has, and where its point stands. No condition. -/
import Derived.Test.YtnibfebfgdhfgaaGreatDoorUsa
namespace Go.Proofs.YtnibfebfgdhfgaaGreatDoor.Us
open Go Go.Proofs.YtnibfebfgdhfgaaGreatDoor.Sh

theorem uscaleN_le5 (x hi lo s : Nat) (hx : x < 18446744073709551616) (hh : hi < 18446744073709551616) (hs : 5 ≤ s) : uscaleN x hi lo s < 576460752303423488 := by
  have hq := q_lt hx hh
  have h16 : (32 : Nat) ≤ 2 ^ s := by
    have := Nat.pow_le_pow_right (n := 2) (by omega) hs
    omega
  have hd : ∀ a : Nat, a < 18446744073709551616 → a / 2 ^ s < 576460752303423488 := by
    intro a ha
    apply Nat.div_lt_of_lt_mul
    have := Nat.mul_le_mul_right 576460752303423488 h16
    omega
  have hor : ∀ a b : Nat, a < 576460752303423488 → b ≤ 1 → a ||| b < 576460752303423488 := by
    intro a b ha hb
    have := Nat.or_lt_two_pow (x := a) (y := b) (n := 59) (by omega) (by omega)
    omega
  have hb2 : ∀ b, b2n b ≤ 1 := fun b => by unfold b2n; split <;> omega
  unfold uscaleN
  simp only []
  split
  · exact hor _ _ (hd _ hq) (by omega)
  · exact hor _ _ (hd _ (by omega)) (hb2 _)
theorem core_57 (mn mx m odd : Nat) (e : Int) (i : Nat) (hi : i < 696) (hs0 : 5 ≤ -(e + l2p10 ((i : Int) - 348) + 3)) (h1 : mn < 18446744073709551616) (h2 : mx < 18446744073709551616) (h3 : m < 18446744073709551616) (ho : odd ≤ 1) :
    (shortCore mn mx m odd e i).1 ≤ 144115188075855872 := by
  obtain ⟨r0, r1, _⟩ := p10_all i hi
  have a := uscaleN_le5 mn (p10Row i).1 (p10Row i).2 (-(e + l2p10 ((i : Int) - 348) + 3)).toNat h1 r1 (by omega)
  have b := uscaleN_le5 mx (p10Row i).1 (p10Row i).2 (-(e + l2p10 ((i : Int) - 348) + 3)).toNat h2 r1 (by omega)
  have c := uscaleN_le5 m (p10Row i).1 (p10Row i).2 (-(e + l2p10 ((i : Int) - 348) + 3)).toNat h3 r1 (by omega)
  unfold shortCore
  simp only []
  split
  · simp only []; omega
  · split
    · simp only []; omega
    · simp only []; omega
def rowS (ex : Nat) : Nat := (348 - skew ((ex : Int) - 1086 + 11)).toNat
def shiftS (ex : Nat) : Bool := decide (rowS ex < 696) && decide (5 ≤ -((ex : Int) - 1086 + lpI (rowS ex) + 3))
theorem shiftS_all : ∀ ex, ex < 2047 → (decide (ex < 2) || shiftS ex) = true := by decide +kernel
theorem dp_sub (fr z : Nat) (hz : 64 - Lib.bitLen fr = z) : shortDP 0 fr = shortCore (fr * 2 ^ z - 2 ^ (z - 1)) (fr * 2 ^ z + 2 ^ (z - 1)) (fr * 2 ^ z) (fr * 2 ^ z / 2 ^ z % 2) (-1074 - (z : Int)) 672 := by
  unfold shortDP
  rw [if_pos rfl, hz]
theorem sub_57 (fr : Nat) (h0 : 1 ≤ fr) (hf : fr < 4503599627370496) : (shortDP 0 fr).1 ≤ 144115188075855872 := by
  obtain ⟨z, hz, hz0, hz1, ha, hb⟩ := sub_z fr h0 hf
  rw [dp_sub fr z hz]
  have hzp : 2 ^ (z - 1) * 2 = 2 ^ z := by have h := Nat.pow_succ (n := 2) (m := z - 1); rw [show (z - 1).succ = z by omega] at h; exact h.symm
  have hz12 : 2 ^ 12 ≤ 2 ^ z := Nat.pow_le_pow_right (by omega) hz0
  have ho : fr * 2 ^ z / 2 ^ z % 2 ≤ 1 := by omega
  generalize fr * 2 ^ z / 2 ^ z % 2 = odd at *
  generalize fr * 2 ^ z = q at *
  generalize 2 ^ (z - 1) = y at *
  generalize 2 ^ z = x at *
  exact core_57 _ _ _ _ _ 672 (by omega) (by unfold l2p10; omega) (by omega) (by omega) (by omega) ho
theorem dp_skew (ex i : Nat) (h0 : 2 ≤ ex) (hI : rowS ex = i) : shortDP ex 0 = shortCore ((0 + 4503599627370496) * 2048 - 512) ((0 + 4503599627370496) * 2048 + 1024) ((0 + 4503599627370496) * 2048) ((0 + 4503599627370496) * 2048 / 2048 % 2) ((ex : Int) - 1086) i := by
  unfold shortDP
  rw [if_neg (by omega)]
  simp only []
  rw [if_pos (show True ∧ 1 < ex from ⟨trivial, by omega⟩), show (348 - skew ((ex : Int) - 1086 + 11)).toNat = i from hI]
theorem skew_57 (ex : Nat) (h0 : 2 ≤ ex) (h1 : ex ≤ 2046) : (shortDP ex 0).1 ≤ 144115188075855872 := by
  have h := shiftS_all ex (by omega)
  rw [decide_eq_false (by omega), Bool.false_or] at h
  unfold shiftS at h
  rw [Bool.and_eq_true, decide_eq_true_eq, decide_eq_true_eq] at h
  obtain ⟨hi, hs8⟩ := h
  obtain ⟨i, hI⟩ : ∃ i, rowS ex = i := ⟨_, rfl⟩
  rw [hI] at hi hs8
  have hl : lpI i = l2p10 ((i : Int) - 348) := rfl
  rw [dp_skew ex i h0 hI]
  rw [hl] at hs8
  have ho : (0 + 4503599627370496) * 2048 / 2048 % 2 ≤ 1 := by omega
  generalize (0 + 4503599627370496) * 2048 / 2048 % 2 = odd at *
  exact core_57 _ _ _ _ _ i hi hs8 (by omega) (by omega) (by omega) ho
theorem dp_norm (ex fr i : Nat) (h0 : 1 ≤ ex) (hs : ¬ (fr = 0 ∧ 1 < ex)) (hI : rowI ex = i) : shortDP ex fr = shortCore ((fr + 4503599627370496) * 2048 - 1024) ((fr + 4503599627370496) * 2048 + 1024) ((fr + 4503599627370496) * 2048) ((fr + 4503599627370496) * 2048 / 2048 % 2) ((ex : Int) - 1086) i := by
  unfold shortDP
  rw [if_neg (by omega)]
  simp only []
  rw [if_neg hs, show (348 - l10p2 ((ex : Int) - 1086 + 11)).toNat = i from hI]
theorem norm_57 (ex fr : Nat) (h0 : 1 ≤ ex) (h1 : ex ≤ 2046) (hf : fr < 4503599627370496) (hs : ¬ (fr = 0 ∧ 1 < ex)) : (shortDP ex fr).1 ≤ 144115188075855872 := by
  obtain ⟨hi, hs8⟩ := shift_at ex h0 h1
  obtain ⟨i, hI⟩ : ∃ i, rowI ex = i := ⟨_, rfl⟩
  rw [hI] at hi hs8
  have hl : lpI i = l2p10 ((i : Int) - 348) := rfl
  rw [dp_norm ex fr i h0 hs hI]
  rw [hl] at hs8
  have ho : (fr + 4503599627370496) * 2048 / 2048 % 2 ≤ 1 := by omega
  generalize (fr + 4503599627370496) * 2048 / 2048 % 2 = odd at *
  exact core_57 _ _ _ _ _ i hi hs8 (by omega) (by omega) (by omega) ho
theorem nth_57 (r : Nat) (h0 : 1 ≤ r) (h1 : r < 9218868437227405312) : (nth r).1 ≤ 144115188075855872 := by
  obtain ⟨ex, hex⟩ : ∃ ex, r / 4503599627370496 = ex := ⟨_, rfl⟩
  obtain ⟨fr, hfr⟩ : ∃ fr, r % 4503599627370496 = fr := ⟨_, rfl⟩
  have hr : r = 4503599627370496 * ex + fr := by omega
  have hf : fr < 4503599627370496 := by omega
  have hx : ex ≤ 2046 := by omega
  rw [nth_of r ex fr hr hf]
  by_cases he : ex = 0
  · subst he
    exact sub_57 fr (by omega) hf
  · by_cases hs : fr = 0 ∧ 1 < ex
    · obtain ⟨rfl, hx1⟩ := hs
      exact skew_57 ex hx1 hx
    · exact norm_57 ex fr (by omega) hx hf hs
theorem pow_le_nD (u : Nat) (h0 : 1 ≤ u) : 10 ^ (Lib.nDigits u - 1) ≤ u := by
  induction u using Nat.strongRecOn with
  | _ u ih =>
    by_cases h : u < 10
    · rw [Lib.nDigits_small h]; simpa using h0
    · have := ih (u / 10) (by omega) (by omega)
      have hp := Lib.nDigits_pos (u / 10)
      rw [Lib.nDigits_big h, Nat.add_sub_cancel, show Lib.nDigits (u / 10) = Lib.nDigits (u / 10) - 1 + 1 by omega, Nat.pow_succ]
      omega
theorem nDigits_18 (d : Nat) (h : d ≤ 144115188075855872) : Lib.nDigits d ≤ 18 := by
  rcases Nat.lt_or_ge 18 (Lib.nDigits d) with h1 | h1
  · have h2 := pow_le_nD d (by
      rcases Nat.eq_zero_or_pos d with h0 | h0
      · subst h0
        rw [Lib.nDigits_small (by omega)] at h1
        omega
      · exact h0)
    have h3 := Nat.pow_le_pow_right (n := 10) (by omega) (show 18 ≤ Lib.nDigits d - 1 by omega)
    omega
  · exact h1
/-- Of 57 bits and less the word is exact at every row, and at 2 to the 57. -/
theorem un58 (d i : Nat) (hd0 : 1 ≤ d) (hd : d ≤ 144115188075855872) (hi : i < 696) :
    scaled i (pfS d i) (d * 2 ^ (64 - Lib.bitLen d)) = un (d * 2 ^ (64 - Lib.bitLen d) * num i) (den i * 2 ^ (128 + pfS d i)) := by
  have h64 : Lib.bitLen d ≤ 64 := Lib.bitLen_le d 64 (by omega) (by omega)
  have hs8 := pfS_ge d i hi h64
  rcases Nat.lt_or_ge d 144115188075855872 with h | h
  · exact un57 d i hd0 h hi hs8
  · obtain rfl : d = 144115188075855872 := by omega
    have hb : Lib.bitLen 144115188075855872 = 58 := by decide
    rw [hb]
    rw [show 144115188075855872 * 2 ^ (64 - 58) = 72057594037927936 * 128 from rfl]
    exact scaled_un i _ _ hi hs8 (by omega) (by omega)

theorem val_ge (d : Nat) (p : Int) (hd : 1 ≤ d) (hp : -400 ≤ p) : 10 ^ ((Lib.nDigits d : Int) + p + 399).toNat ≤ valD (d, p) := by
  have h := pow_le_nD d hd
  have hn := Lib.nDigits_pos d
  show _ ≤ d * 10 ^ (p + 400).toNat
  rw [show ((Lib.nDigits d : Int) + p + 399).toNat = (Lib.nDigits d - 1) + (p + 400).toNat by omega, Nat.pow_add]
  exact Nat.mul_le_mul_right _ h
theorem val_lt (d : Nat) (p : Int) (hp : -400 ≤ p) : valD (d, p) < 10 ^ ((Lib.nDigits d : Int) + p + 400).toNat := by
  have h := Lib.lt_pow_nDigits d
  have hn := Lib.nDigits_pos d
  show d * 10 ^ (p + 400).toNat < _
  rw [show ((Lib.nDigits d : Int) + p + 400).toNat = Lib.nDigits d + (p + 400).toNat by omega, Nat.pow_add]
  exact Nat.mul_lt_mul_of_pos_right h (Nat.pow_pos (by omega))
theorem le2 {a b : Nat} (h : a ≤ b) : (2 : Nat) ^ a ≤ 2 ^ b := Nat.pow_le_pow_right (by omega) h
theorem ex_eq (a : Nat) : ∃ c, a = c := ⟨a, rfl⟩
theorem p10 {a b c : Nat} (h : a + b = c) : (10 : Nat) ^ c = 10 ^ a * 10 ^ b := by rw [← Nat.pow_add, h]
theorem p2 {a b c : Nat} (h : a + b = c) : (2 : Nat) ^ c = 2 ^ a * 2 ^ b := by rw [← Nat.pow_add, h]
theorem pow_lt10 {a b : Nat} (h : 10 ^ a < 10 ^ b) : a < b := by
  rcases Nat.lt_or_ge a b with q | q
  · exact q
  · have := Nat.pow_le_pow_right (n := 10) (by omega) q
    omega
/-- Where the point stands in a text that bears no power of ten. -/
theorem point_low (r : Nat) (h0 : 4547007122018943789 ≤ r) (h1 : r < 9218868437227405312) : -4 ≤ (Lib.nDigits (nth r).1 : Int) + (nth r).2 := by
  obtain ⟨F, e0, q, hr, f1, f2, g1, g2, hn, hq, hV⟩ := nth_in r (by omega) h1
  have hp := (short_fits r (by omega) h1).2.2.1
  have hvl := val_lt (nth r).1 (nth r).2 hp
  have hn1 := Lib.nDigits_pos (nth r).1
  have h2 := hV.1
  rw [show ((nth r).1, (nth r).2) = nth r from rfl] at hvl
  generalize valD (nth r) = V at *
  generalize (Lib.nDigits (nth r).1 : Int) + (nth r).2 = dp at *
  have he : 1009 ≤ e0 := by omega
  have hF : 2 ^ 53 ≤ 4 * F - q := by omega
  obtain ⟨c, hc⟩ := ex_eq (10 ^ 395)
  obtain ⟨z, hz⟩ := ex_eq (2 ^ 1062)
  have e1 := p10 (show 395 + 5 = 400 from rfl)
  rw [hc] at e1
  have e2 := p2 (show 1062 + 15 = 1077 from rfl)
  rw [hz] at e2
  have e3 : z ≤ (4 * F - q) * 2 ^ e0 := by
    have a1 := le2 he
    have a2 := Nat.mul_le_mul hF a1
    have a3 := p2 (show 53 + 1009 = 1062 from rfl)
    rw [hz] at a3
    rw [a3]
    exact a2
  have hzp : 0 < z := by have h := pow2_pos 1062; rw [hz] at h; exact h
  have e4 : c ≤ V := by
    rw [e1, e2] at h2
    have a1 := Nat.mul_le_mul_right (c * 10 ^ 5) e3
    have a2 : z * (c * 10 ^ 5) ≤ z * (V * 2 ^ 15) := by
      have : V * (z * 2 ^ 15) = z * (V * 2 ^ 15) := by ac_rfl
      rw [← this]
      exact Nat.le_trans a1 h2
    have a3 := Nat.le_of_mul_le_mul_left a2 hzp
    omega
  have e5 : 10 ^ 395 < 10 ^ (dp + 400).toNat := by rw [hc]; exact Nat.lt_of_le_of_lt e4 hvl
  have := pow_lt10 e5
  omega
theorem point_high (r : Nat) (h0 : 1 ≤ r) (h1 : r < 4921056587992461136) : (Lib.nDigits (nth r).1 : Int) + (nth r).2 ≤ 21 := by
  obtain ⟨F, e0, q, hr, f1, f2, g1, g2, hn, hq, hV⟩ := nth_in r h0 (by omega)
  have hf := short_fits r h0 (by omega)
  have hvl := val_ge (nth r).1 (nth r).2 hf.1 hf.2.2.1
  have hn1 := Lib.nDigits_pos (nth r).1
  have h2 := hV.2.1
  rw [show ((nth r).1, (nth r).2) = nth r from rfl] at hvl
  generalize valD (nth r) = V at *
  generalize (Lib.nDigits (nth r).1 : Int) + (nth r).2 = dp at *
  obtain ⟨c, hc⟩ := ex_eq (10 ^ 400)
  obtain ⟨z, hz⟩ := ex_eq (2 ^ 1077)
  have hcp : 0 < c := by have h := pow10_pos 400; rw [hc] at h; exact h
  have hzp : 0 < z := by have h := pow2_pos 1077; rw [hz] at h; exact h
  have e3 : (4 * F + 2) * 2 ^ e0 < 1000000000000000000000 * z := by
    have a4 := p2 (show 15 + 1077 = 1092 from rfl)
    rw [hz] at a4
    rcases Nat.lt_or_ge e0 1092 with he | he
    · have b1 := le2 (show e0 ≤ 1091 by omega)
      have b2 := p2 (show 14 + 1077 = 1091 from rfl)
      rw [hz] at b2
      have b4 : 4 * F + 2 ≤ 36028797018963968 := by omega
      have b3 := Nat.mul_le_mul b4 b1
      rw [b2] at b3
      clear b1 b2 a4 hz hc
      omega
    · obtain rfl : e0 = 1092 := by omega
      have b1 : 4 * F + 2 ≤ 30517578124999998 := by omega
      have b3 := Nat.mul_le_mul_right (2 ^ 1092) b1
      rw [a4] at b3 ⊢
      omega
  have e4 : V < 1000000000000000000000 * c := by
    have a1 := Nat.mul_lt_mul_of_pos_right e3 hcp
    have a2 : V * z < 1000000000000000000000 * c * z := by
      have : 1000000000000000000000 * c * z = 1000000000000000000000 * z * c := by ac_rfl
      rw [this]
      rw [hc, hz] at h2
      exact Nat.lt_of_le_of_lt h2 a1
    exact Nat.lt_of_mul_lt_mul_right a2
  have e5 : 10 ^ (dp + 399).toNat < 10 ^ 421 := by
    have h := p10 (show 21 + 400 = 421 from rfl)
    rw [hc] at h
    rw [h]
    exact Nat.lt_of_le_of_lt hvl e4
  have := pow_lt10 e5
  omega
end Go.Proofs.YtnibfebfgdhfgaaGreatDoor.Us
