/- The shortest digits of whole numbers: they are the number, less one nought. Plain facts, no program. -/
import Derived.Test.YtnibfebfgdhfgaaGreatDoorFl8
import Derived.Test.YtnibfebfgdhfgaaGreatDoorFe6
import Derived.Laws.Cover2
namespace Go.Proofs.YtnibfebfgdhfgaaGreatDoor
open Go.ChangeShapes Go.WideShapes Go.ChangeAt Go.RowKit Go.Sort

theorem or_one (a : Nat) : a ||| 1 = a / 2 * 2 + 1 := by
  have h1 : (a ||| 1) / 2 = a / 2 := by rw [Nat.or_div_two]; simp
  have h2 : (a ||| 1) % 2 = 1 := Nat.or_mod_two_eq_one.2 (.inr rfl)
  omega
/-- Where the power of ten is exact the scaled number is the product's high part, but for its last bit. -/
theorem us_exact (x hi s : Nat) (hx : x < 18446744073709551616) (hh : hi < 18446744073709551616) :
    x * hi / 2 ^ (64 + s) ≤ uscaleN x hi 0 s ∧ uscaleN x hi 0 s ≤ x * hi / 2 ^ (64 + s) / 2 * 2 + 1 := by
  have hq := q_lt hx hh
  have e : x * hi / 18446744073709551616 / 2 ^ s = x * hi / 2 ^ (64 + s) := by rw [Nat.div_div_eq_div_mul, Nat.pow_add]
  have hb2 : ∀ b, b2n b ≤ 1 := fun b => by unfold b2n; split <;> omega
  have key : ∀ a b : Nat, b ≤ 1 → a ≤ a ||| b ∧ a ||| b ≤ a / 2 * 2 + 1 := by
    intro a b hb
    refine ⟨or_ge a b, ?_⟩
    rcases (show b = 0 ∨ b = 1 by omega) with rfl | rfl
    · rw [Nat.or_zero]; omega
    · rw [or_one]; exact Nat.le_refl _
  have e0 : x * 0 / 18446744073709551616 = 0 := by simp
  unfold uscaleN
  simp only []
  rw [e0]
  split
  · rw [e]; exact key _ 1 (by omega)
  · rw [show decide (x * hi % 18446744073709551616 < 0) = false from decide_eq_false (by omega), show b2n false = 0 from rfl, Nat.sub_zero, Nat.sub_zero, Nat.add_mod_right, Nat.mod_eq_of_lt hq, e]
    exact key _ _ (hb2 _)

/-- Between ends of which the number itself, a whole multiple of ten, stands less than ten away: the number by ten. -/
theorem core_whole (mn mx m odd : Nat) (e : Int) (i N s : Nat) (hs : (-(e + l2p10 ((i : Int) - 348) + 3)).toNat = s) (hlo : (p10Row i).2 = 0) (hhi : (p10Row i).1 < 18446744073709551616)
    (hmn : mn < m) (hmx : mx = m + 1024) (hx : mx < 18446744073709551616) (ho : odd ≤ 1) (hh0 : 0 < (p10Row i).1)
    (hN : m * (p10Row i).1 = 4 * N * 2 ^ (64 + s)) (hw : 2 * 2 ^ (64 + s) ≤ 1024 * (p10Row i).1) (hw' : 1024 * (p10Row i).1 < 40 * 2 ^ (64 + s)) (h10 : N % 10 = 0) :
    shortCore mn mx m odd e i = (N / 10, -(((i : Int) - 348) - 1)) := by
  have a := us_exact mn (p10Row i).1 s (by omega) hhi
  have b := us_exact mx (p10Row i).1 s hx hhi
  unfold shortCore
  simp only [hs, hlo]
  generalize (p10Row i).1 = hi at *
  have hD := Nat.two_pow_pos (64 + s)
  generalize 2 ^ (64 + s) = D at *
  have ea : mn * hi / D ≤ 4 * N - 1 := by
    have : mn * hi < 4 * N * D := by rw [← hN]; exact Nat.mul_lt_mul_of_pos_right hmn hh0
    have := (Nat.div_lt_iff_lt_mul hD).2 this
    omega
  have hN1 : 1 ≤ N := by
    rcases Nat.eq_zero_or_pos N with h | h
    · subst h
      rw [Nat.mul_zero, Nat.zero_mul] at hN
      have := Nat.mul_pos (show 0 < m by omega) hh0
      omega
    · exact h
  have eb : mx * hi = 4 * N * D + 1024 * hi := by rw [hmx, Nat.add_mul, hN]
  have eb1 : 4 * N + 2 ≤ mx * hi / D := by
    rw [Nat.le_div_iff_mul_le hD, eb, Nat.add_mul]
    omega
  have eb2 : mx * hi / D < 4 * N + 40 := by
    rw [Nat.div_lt_iff_lt_mul hD, eb, Nat.add_mul]
    omega
  generalize uscaleN mn hi 0 s = u at *
  generalize uscaleN mx hi 0 s = v at *
  generalize mn * hi / D = p at *
  generalize mx * hi / D = q at *
  rw [if_pos (by omega)]
  congr 1
  omega

/-- How many more than nothing digits are there behind the point: the power of ten that is taken at numbers below 2 to the 53 - t. -/
def kOfT (t : Nat) : Nat := (-(l10p2 (-(t : Int)))).toNat
def kOfS (t : Nat) : Nat := (-(skew (-(t : Int)))).toNat
def okT (t k : Nat) : Bool :=
  let s := (-((-11 - (t : Int)) + l2p10 (((348 + k : Nat) : Int) - 348) + 3)).toNat
  decide (1 ≤ k) && decide ((p10Row (348 + k)).2 = 0) && decide ((p10Row (348 + k)).1 < 18446744073709551616) && decide (0 < (p10Row (348 + k)).1) &&
  decide (2048 * 2 ^ t * (p10Row (348 + k)).1 = 4 * 10 ^ k * 2 ^ (64 + s)) && decide (2 * 2 ^ (64 + s) ≤ 1024 * (p10Row (348 + k)).1) && decide (1024 * (p10Row (348 + k)).1 < 40 * 2 ^ (64 + s))
set_option maxRecDepth 100000 in
theorem okT_all : ∀ t : Fin 52, okT (t.val + 1) (kOfT (t.val + 1)) = true ∧ okT (t.val + 1) (kOfS (t.val + 1)) = true := by decide +kernel

theorem core_t (mn m odd n t k : Nat) (hk : okT t k = true) (hm : m = n * (2048 * 2 ^ t)) (hmn : mn < m) (hx : m + 1024 < 18446744073709551616) (ho : odd ≤ 1) :
    shortCore mn (m + 1024) m odd (-11 - (t : Int)) (348 + k) = (n * 10 ^ (k - 1), 1 - (k : Int)) := by
  unfold okT at hk
  simp only [Bool.and_eq_true, decide_eq_true_eq] at hk
  obtain ⟨⟨⟨⟨⟨⟨k1, k2⟩, k3⟩, k4⟩, k5⟩, k6⟩, k7⟩ := hk
  have hp : 10 ^ k = 10 * 10 ^ (k - 1) := by conv => lhs; rw [show k = (k - 1) + 1 by omega, Nat.pow_succ, Nat.mul_comm]
  rw [core_whole mn (m + 1024) m odd (-11 - (t : Int)) (348 + k) (n * 10 ^ k) _ rfl k2 k3 hmn rfl hx ho k4 ?_ k6 k7 ?_]
  · rw [hp, show n * (10 * 10 ^ (k - 1)) = 10 * (n * 10 ^ (k - 1)) by rw [← Nat.mul_assoc, Nat.mul_comm n 10, Nat.mul_assoc], Nat.mul_div_cancel_left _ (by omega)]
    congr 1
    omega
  · rw [hm, Nat.mul_assoc, k5]
    generalize 2 ^ (64 + _) = D
    rw [← Nat.mul_assoc, ← Nat.mul_assoc, Nat.mul_comm n 4, Nat.mul_assoc 4 n]
  · rw [hp, show n * (10 * 10 ^ (k - 1)) = 10 * (n * 10 ^ (k - 1)) by rw [← Nat.mul_assoc, Nat.mul_comm n 10, Nat.mul_assoc]]
    omega
end Go.Proofs.YtnibfebfgdhfgaaGreatDoor
/- The text of a whole number's bits is its numeral. Plain facts, no program. -/
namespace Go.Proofs.YtnibfebfgdhfgaaGreatDoor
open Go.ChangeShapes Go.WideShapes Go.ChangeAt Go.RowKit Go.Sort

theorem stripTo_app (ds cs : List UInt8) : ∀ k, k ≤ ds.length → stripTo (ds ++ cs) k = stripTo ds k
  | 0, _ => rfl
  | k + 1, h => by
    unfold stripTo
    have e : (ds ++ cs).getD k 0 = ds.getD k 0 := by
      rw [List.getD_eq_getElem?_getD, List.getD_eq_getElem?_getD, List.getElem?_append_left (by omega)]
    rw [e, stripTo_app ds cs k (by omega)]
theorem nDigits_ten (u : Nat) (h : 1 ≤ u) : Lib.nDigits (10 * u) = Lib.nDigits u + 1 := by
  rw [Lib.nDigits_big (by omega), show 10 * u / 10 = u by omega]
theorem decDigits_ten (u : Nat) (h : 1 ≤ u) : Lib.decDigits (10 * u) = Lib.decDigits u ++ [48] := by
  rw [Lib.decDigits, dif_neg (by omega), show 10 * u / 10 = u by omega, show 10 * u % 10 = 0 by omega]
  rfl
theorem digs_ten (u : Nat) (h : 1 ≤ u) : digs (10 * u) = digs u := by
  have hl := Lib.decDigits_length u
  have e : stripTo (Lib.decDigits u ++ [48]) (Lib.nDigits u + 1) = stripTo (Lib.decDigits u) (Lib.nDigits u) := by
    rw [stripTo, if_pos, stripTo_app _ _ _ (by omega)]
    rw [List.getD_eq_getElem?_getD, List.getElem?_append_right (by omega), hl]
    simp
  have hle := stripTo_le (Lib.decDigits u) (Lib.nDigits u)
  unfold digs
  rw [nDigits_ten u h, decDigits_ten u h, e, List.take_append_of_le_length (by omega)]
theorem digs_pow (u : Nat) (h : 1 ≤ u) : ∀ j, digs (u * 10 ^ j) = digs u ∧ Lib.nDigits (u * 10 ^ j) = Lib.nDigits u + j
  | 0 => by simp
  | j + 1 => by
    obtain ⟨a, b⟩ := digs_pow u h j
    have hp : 1 ≤ u * 10 ^ j := Nat.mul_pos h (Nat.pow_pos (by omega))
    rw [show u * 10 ^ (j + 1) = 10 * (u * 10 ^ j) by rw [Nat.pow_succ, ← Nat.mul_assoc, Nat.mul_comm], digs_ten _ hp, nDigits_ten _ hp, a, b]
    exact ⟨rfl, by omega⟩
theorem stripTo_nought (ds : List UInt8) : ∀ k, ∀ j, stripTo ds k ≤ j → j < k → ds.getD j 0 = 48
  | 0, j, _, h => by omega
  | k + 1, j, h1, h2 => by
    unfold stripTo at h1
    split at h1
    · rename_i hk
      by_cases e : j = k
      · rw [e]; exact hk
      · exact stripTo_nought ds k j h1 (by omega)
    · omega
theorem digs_back (u : Nat) : digs u ++ List.replicate (Lib.nDigits u - (digs u).length) 48 = Lib.decDigits u := by
  have hl := Lib.decDigits_length u
  have hle := stripTo_le (Lib.decDigits u) (Lib.nDigits u)
  have hs := digs_length u
  refine List.ext_getElem? fun i => ?_
  by_cases h : i < (digs u).length
  · rw [List.getElem?_append_left h]
    unfold digs
    rw [List.getElem?_take_of_lt (by omega)]
  · rw [List.getElem?_append_right (by omega)]
    by_cases h2 : i < Lib.nDigits u
    · have := stripTo_nought (Lib.decDigits u) (Lib.nDigits u) i (by omega) h2
      rw [List.getD_eq_getElem?_getD, List.getElem?_eq_getElem (by omega)] at this
      rw [List.getElem?_replicate, if_pos (by omega), List.getElem?_eq_getElem (by omega)]
      exact congrArg some this.symm
    · rw [List.getElem?_eq_none (by rw [List.length_replicate]; omega), List.getElem?_eq_none (by omega)]
/-- A whole number's text at the format f, if d and p are its digits. -/
theorem fix_whole (d n : Nat) (p : Int) (hn : 1 ≤ n) (h : (∃ j : Nat, d = n * 10 ^ j ∧ p = -(j : Int)) ∨ (n = 10 * d ∧ p = 1)) : fixText false d p = Lib.decDigits n := by
  have key : digs d = digs n ∧ (Lib.nDigits d : Int) + p = Lib.nDigits n := by
    rcases h with ⟨j, rfl, rfl⟩ | ⟨rfl, rfl⟩
    · obtain ⟨a, b⟩ := digs_pow n hn j
      exact ⟨a, by rw [b]; omega⟩
    · exact ⟨(digs_ten d (by omega)).symm, by rw [nDigits_ten d (by omega)]; omega⟩
  have e0 : sgn false = [] := rfl
  have hp := Lib.nDigits_pos n
  have hs := digs_length n
  have hle := stripTo_le (Lib.decDigits n) (Lib.nDigits n)
  unfold fixText
  simp only [e0, key.1, key.2]
  rw [if_neg (by omega), if_neg (by omega), List.nil_append, Int.toNat_natCast]
  exact digs_back n

/-- The digits of a whole number below 2 to the 52. -/
theorem shortDP_whole (n fr t : Nat) (h1 : 1 ≤ t) (h2 : t ≤ 52) (hfr : fr < 4503599627370496) (hn : fr + 4503599627370496 = n * 2 ^ t) :
    ∃ j : Nat, shortDP (1075 - t) fr = (n * 10 ^ j, -(j : Int)) := by
  obtain ⟨k1, k2⟩ := okT_all ⟨t - 1, by omega⟩
  simp only [show t - 1 + 1 = t by omega] at k1 k2
  have he : ((1075 - t : Nat) : Int) - 1086 = -11 - (t : Int) := by omega
  have he2 : -11 - (t : Int) + 11 = -(t : Int) := by omega
  have hm : (fr + 4503599627370496) * 2048 = n * (2048 * 2 ^ t) := by rw [hn, Nat.mul_assoc, Nat.mul_comm (2 ^ t)]
  have hmb : (fr + 4503599627370496) * 2048 + 1024 < 18446744073709551616 := by omega
  have hma : 1024 < (fr + 4503599627370496) * 2048 := by omega
  have ho : (fr + 4503599627370496) * 2048 / 2048 % 2 ≤ 1 := by omega
  unfold shortDP
  rw [if_neg (by omega)]
  simp only [he, he2]
  generalize (fr + 4503599627370496) * 2048 / 2048 % 2 = odd at *
  generalize (fr + 4503599627370496) * 2048 = m at *
  by_cases hs : fr = 0 ∧ 1 < 1075 - t
  · rw [if_pos hs]
    rw [show (348 - skew (-(t : Int))).toNat = 348 + kOfS t by unfold kOfS skew; omega, core_t (m - 512) m odd n t (kOfS t) k2 hm (by omega) hmb ho]
    refine ⟨kOfS t - 1, ?_⟩
    have : 1 ≤ kOfS t := by unfold okT at k2; simp only [Bool.and_eq_true, decide_eq_true_eq] at k2; omega
    congr 1
    omega
  · rw [if_neg hs]
    rw [show (348 - l10p2 (-(t : Int))).toNat = 348 + kOfT t by unfold kOfT l10p2; omega, core_t (m - 1024) m odd n t (kOfT t) k1 hm (by omega) hmb ho]
    refine ⟨kOfT t - 1, ?_⟩
    have : 1 ≤ kOfT t := by unfold okT at k1; simp only [Bool.and_eq_true, decide_eq_true_eq] at k1; omega
    congr 1
    omega
end Go.Proofs.YtnibfebfgdhfgaaGreatDoor
/- The text of a whole number's bits is its numeral: the numbers from 2 to the 52 on. Plain facts, no program. -/
namespace Go.Proofs.YtnibfebfgdhfgaaGreatDoor
open Go.ChangeShapes Go.WideShapes Go.ChangeAt Go.RowKit Go.Sort

theorem dp_52 : shortDP 1075 0 = (4503599627370496, 0) := by decide +kernel
theorem dp_53 : shortDP 1076 0 = (9007199254740992, 0) := by decide +kernel
theorem row_one : p10Row 348 = (9223372036854775808, 0) := by decide +kernel
theorem us_one (x : Nat) (hx : x < 18446744073709551616) (h : x % 512 = 0) : uscaleN x 9223372036854775808 0 8 = x / 512 := by
  unfold uscaleN
  have e : x * 9223372036854775808 / 18446744073709551616 = x / 2 := by omega
  have e2 : x * 9223372036854775808 % 18446744073709551616 = 0 := by omega
  simp only [e, e2]
  rw [if_neg (by omega)]
  simp [b2n]
  omega
theorem core_ones (m n odd : Nat) (hm : m = n * 2048) (h0 : 4503599627370496 ≤ n) (h1 : n < 9007199254740992) (ho : odd ≤ 1) :
    shortCore (m - 1024) (m + 1024) m odd (-11) 348 = if n % 10 = 0 then (n / 10, 1) else (n, 0) := by
  have u1 : uscaleN (m - 1024) 9223372036854775808 0 8 = 4 * n - 2 := by rw [us_one _ (by omega) (by omega)]; omega
  have u2 : uscaleN (m + 1024) 9223372036854775808 0 8 = 4 * n + 2 := by rw [us_one _ (by omega) (by omega)]; omega
  have u3 : uscaleN m 9223372036854775808 0 8 = 4 * n := by rw [us_one _ (by omega) (by omega)]; omega
  unfold shortCore
  simp only [row_one]
  rw [show (-(-11 + l2p10 (((348 : Nat) : Int) - 348) + 3)).toNat = 8 from rfl, u1, u2, u3]
  have e1 : (4 * n - 2 + odd + 3) / 4 = n := by omega
  have e2 : (4 * n + 2 - odd) / 4 = n := by omega
  rw [e1, e2]
  by_cases h : n % 10 = 0
  · rw [if_pos (by omega), if_pos h]
    rfl
  · rw [if_neg (by omega), if_neg (by omega), if_neg h]
    rfl
theorem shortDP_ones (fr n : Nat) (h0 : 1 ≤ fr) (hfr : fr < 4503599627370496) (hn : fr + 4503599627370496 = n) :
    shortDP 1075 fr = if n % 10 = 0 then (n / 10, 1) else (n, 0) := by
  have ho : (fr + 4503599627370496) * 2048 / 2048 % 2 ≤ 1 := by omega
  unfold shortDP
  rw [if_neg (by omega)]
  simp only []
  rw [if_neg (by omega), show (348 - l10p2 (((1075 : Nat) : Int) - 1086 + 11)).toNat = 348 from rfl, show ((1075 : Nat) : Int) - 1086 = -11 from rfl]
  exact core_ones _ n _ (by rw [hn]) (by omega) (by omega) ho

/-- Bits of a whole number. -/
def wholeBits (ex fr n : Nat) : Prop := (∃ t, t ≤ 52 ∧ ex = 1075 - t ∧ fr < 4503599627370496 ∧ fr + 4503599627370496 = n * 2 ^ t) ∨ (ex = 1076 ∧ fr = 0 ∧ n = 9007199254740992)
theorem body_whole (r n : Nat) (h : wholeBits (r / 4503599627370496) (r % 4503599627370496) n) : bodyText r = Lib.decDigits n := by
  have hr : 4607182418800017408 ≤ r ∧ r < 4850376798678024192 := by
    rcases h with ⟨t, h1, h2, h3, h4⟩ | ⟨h1, h2, _⟩ <;> omega
  unfold bodyText
  rw [if_neg (by omega), if_neg (by omega), if_neg (by omega)]
  rcases h with ⟨t, h1, h2, h3, h4⟩ | ⟨h1, h2, rfl⟩
  · have hn : 1 ≤ n := by
      rcases Nat.eq_zero_or_pos n with h | h
      · subst h; rw [Nat.zero_mul] at h4; omega
      · exact h
    rw [h2]
    by_cases ht : 1 ≤ t
    · obtain ⟨j, hj⟩ := shortDP_whole n _ t ht h1 h3 h4
      rw [hj]
      exact fix_whole _ n _ hn (.inl ⟨j, rfl, rfl⟩)
    · obtain rfl : t = 0 := by omega
      rw [Nat.pow_zero, Nat.mul_one] at h4
      rw [show 1075 - 0 = 1075 from rfl]
      by_cases h0 : r % 4503599627370496 = 0
      · rw [h0, dp_52]
        refine fix_whole _ n _ hn (.inl ⟨0, ?_, rfl⟩)
        simp only []
        omega
      · rw [shortDP_ones _ n (by omega) h3 h4]
        split
        · exact fix_whole _ n _ hn (.inr ⟨by simp only []; omega, rfl⟩)
        · exact fix_whole _ n _ hn (.inl ⟨0, by simp, rfl⟩)
  · rw [h1, h2, dp_53]
    exact fix_whole _ _ _ (by omega) (.inl ⟨0, by decide, rfl⟩)
end Go.Proofs.YtnibfebfgdhfgaaGreatDoor
/- The float of a whole number up to 2 to the 53, and its text. Plain facts, no program. -/
namespace Go.Proofs.YtnibfebfgdhfgaaGreatDoor
open Go.ChangeShapes Go.WideShapes Go.ChangeAt Go.RowKit Go.Sort

theorem cut_none (s : Bool) (n : Nat) : Ieee.Toward.even.cut s n 0 = n := by
  unfold Ieee.Toward.cut
  simp [Nat.mod_one]
theorem nearest_whole (n : Nat) (h1 : 1 ≤ n) (h2 : n ≤ 9007199254740992) :
    ∃ r, r < 9223372036854775808 ∧ wholeBits (r / 4503599627370496) (r % 4503599627370496) n ∧ ∀ s : Bool, Ieee.double.nearest s n 0 = if s then 9223372036854775808 + r else r := by
  by_cases h53 : n = 9007199254740992
  · subst h53
    refine ⟨4845873199050653696, by omega, .inr ⟨by decide, by decide, rfl⟩, ?_⟩
    intro s
    cases s <;> decide +kernel
  · have l0 := Nat.log2_self_le (n := n) (by omega)
    have l1 : n < 2 ^ (n.log2 + 1) := Nat.lt_log2_self
    have l2 : n.log2 ≤ 52 := by
      have : n.log2 < 53 := (Nat.log2_lt (by omega)).2 (by omega)
      omega
    have e1 : Ieee.double.fractionBits = 52 := rfl
    have e2 : Ieee.double.leastPlace = -1074 := by decide
    have e3 : Ieee.double.binade = 4503599627370496 := by decide
    have e4 : Ieee.double.infRung = 9218868437227405312 := by decide +kernel
    have e5 : Ieee.double.signWeight = 9223372036854775808 := by decide
    generalize hlog : n.log2 = l at *
    have hl : max ((0 : Int) + (l : Int) - (52 : Nat)) (-1074) = -((52 - l : Nat) : Int) := by omega
    have a0 : 4503599627370496 ≤ n * 2 ^ (52 - l) := by
      calc 4503599627370496 = 2 ^ l * 2 ^ (52 - l) := by rw [← Nat.pow_add, show l + (52 - l) = 52 by omega]
        _ ≤ n * 2 ^ (52 - l) := Nat.mul_le_mul_right _ l0
    have a1 : n * 2 ^ (52 - l) < 9007199254740992 := by
      calc n * 2 ^ (52 - l) < 2 ^ (l + 1) * 2 ^ (52 - l) := Nat.mul_lt_mul_of_pos_right l1 (Nat.two_pow_pos _)
        _ = 9007199254740992 := by rw [← Nat.pow_add, show l + 1 + (52 - l) = 53 by omega]
    have ht : 52 - l ≤ 52 := by omega
    refine ⟨(1074 - (52 - l)) * 4503599627370496 + n * 2 ^ (52 - l), by omega, .inl ⟨52 - l, ht, ?_, ?_, ?_⟩, ?_⟩
    · generalize n * 2 ^ (52 - l) = q at *; omega
    · omega
    · generalize n * 2 ^ (52 - l) = q at *; omega
    · intro s
      unfold Ieee.Format.nearest
      rw [if_neg (by omega)]
      simp only [e1, e2, e3, e4, hlog, hl]
      have z1 : ((0 : Int) - -((52 - l : Nat) : Int)).toNat = 52 - l := by omega
      have z2 : (-((52 - l : Nat) : Int) - 0).toNat = 0 := by omega
      have z3 : (-((52 - l : Nat) : Int) - -1074).toNat = 1074 - (52 - l) := by omega
      rw [z1, z2, z3, cut_none, Nat.shiftLeft_eq]
      generalize n * 2 ^ (52 - l) = q at *
      unfold Ieee.Format.word
      rw [e5, Nat.min_eq_left (by omega)]
end Go.Proofs.YtnibfebfgdhfgaaGreatDoor
