/- The text of a whole number's bits is its numeral. Plain facts, no program. -/
import Derived.Test.YtnibfebfgdhfgaaGreatDoorFw1
import Derived.Test.YtnibfebfgdhfgaaGreatDoorFe6
namespace Go.Proofs.YtnibfebfgdhfgaaGreatDoor
open Go.ChangeShapes Go.WideShapes Go.ChangeAt Go.RowKit Go.Sort

theorem stripTo_app (ds cs : List UInt8) : ∀ k, k ≤ ds.length → stripTo (ds ++ cs) k = stripTo ds k
  | 0, _ => rfl
  | k + 1, h => by
    unfold stripTo
    have e : (ds ++ cs).getD k 0 = ds.getD k 0 := by
      rw [List.getD_eq_getElem?_getD, List.getD_eq_getElem?_getD, List.getElem?_append_left (by omega)]
    rw [e, stripTo_app ds cs k (by omega)]
theorem nDigits_ten (u : Nat) (h : 1 ≤ u) : Lib.nDigits (10 * u) = Lib.nDigits u + 1 := by
  rw [Lib.nDigits_big (by omega), show 10 * u / 10 = u by omega]
theorem decDigits_ten (u : Nat) (h : 1 ≤ u) : Lib.decDigits (10 * u) = Lib.decDigits u ++ [48] := by
  rw [Lib.decDigits, dif_neg (by omega), show 10 * u / 10 = u by omega, show 10 * u % 10 = 0 by omega]
  rfl
theorem digs_ten (u : Nat) (h : 1 ≤ u) : digs (10 * u) = digs u := by
  have hl := Lib.decDigits_length u
  have e : stripTo (Lib.decDigits u ++ [48]) (Lib.nDigits u + 1) = stripTo (Lib.decDigits u) (Lib.nDigits u) := by
    rw [stripTo, if_pos, stripTo_app _ _ _ (by omega)]
    rw [List.getD_eq_getElem?_getD, List.getElem?_append_right (by omega), hl]
    simp
  have hle := stripTo_le (Lib.decDigits u) (Lib.nDigits u)
  unfold digs
  rw [nDigits_ten u h, decDigits_ten u h, e, List.take_append_of_le_length (by omega)]
theorem digs_pow (u : Nat) (h : 1 ≤ u) : ∀ j, digs (u * 10 ^ j) = digs u ∧ Lib.nDigits (u * 10 ^ j) = Lib.nDigits u + j
  | 0 => by simp
  | j + 1 => by
    obtain ⟨a, b⟩ := digs_pow u h j
    have hp : 1 ≤ u * 10 ^ j := Nat.mul_pos h (Nat.pow_pos (by omega))
    rw [show u * 10 ^ (j + 1) = 10 * (u * 10 ^ j) by rw [Nat.pow_succ, ← Nat.mul_assoc, Nat.mul_comm], digs_ten _ hp, nDigits_ten _ hp, a, b]
    exact ⟨rfl, by omega⟩
theorem stripTo_nought (ds : List UInt8) : ∀ k, ∀ j, stripTo ds k ≤ j → j < k → ds.getD j 0 = 48
  | 0, j, _, h => by omega
  | k + 1, j, h1, h2 => by
    unfold stripTo at h1
    split at h1
    · rename_i hk
      by_cases e : j = k
      · rw [e]; exact hk
      · exact stripTo_nought ds k j h1 (by omega)
    · omega
theorem digs_back (u : Nat) : digs u ++ List.replicate (Lib.nDigits u - (digs u).length) 48 = Lib.decDigits u := by
  have hl := Lib.decDigits_length u
  have hle := stripTo_le (Lib.decDigits u) (Lib.nDigits u)
  have hs := digs_length u
  refine List.ext_getElem? fun i => ?_
  by_cases h : i < (digs u).length
  · rw [List.getElem?_append_left h]
    unfold digs
    rw [List.getElem?_take_of_lt (by omega)]
  · rw [List.getElem?_append_right (by omega)]
    by_cases h2 : i < Lib.nDigits u
    · have := stripTo_nought (Lib.decDigits u) (Lib.nDigits u) i (by omega) h2
      rw [List.getD_eq_getElem?_getD, List.getElem?_eq_getElem (by omega)] at this
      rw [List.getElem?_replicate, if_pos (by omega), List.getElem?_eq_getElem (by omega)]
      exact congrArg some this.symm
    · rw [List.getElem?_eq_none (by rw [List.length_replicate]; omega), List.getElem?_eq_none (by omega)]
/-- A whole number's text at the format f, if d and p are its digits. -/
theorem fix_whole (d n : Nat) (p : Int) (hn : 1 ≤ n) (h : (∃ j : Nat, d = n * 10 ^ j ∧ p = -(j : Int)) ∨ (n = 10 * d ∧ p = 1)) : fixText false d p = Lib.decDigits n := by
  have key : digs d = digs n ∧ (Lib.nDigits d : Int) + p = Lib.nDigits n := by
    rcases h with ⟨j, rfl, rfl⟩ | ⟨rfl, rfl⟩
    · obtain ⟨a, b⟩ := digs_pow n hn j
      exact ⟨a, by rw [b]; omega⟩
    · exact ⟨(digs_ten d (by omega)).symm, by rw [nDigits_ten d (by omega)]; omega⟩
  have e0 : sgn false = [] := rfl
  have hp := Lib.nDigits_pos n
  have hs := digs_length n
  have hle := stripTo_le (Lib.decDigits n) (Lib.nDigits n)
  unfold fixText
  simp only [e0, key.1, key.2]
  rw [if_neg (by omega), if_neg (by omega), List.nil_append, Int.toNat_natCast]
  exact digs_back n

/-- The digits of a whole number below 2 to the 52. -/
theorem shortDP_whole (n fr t : Nat) (h1 : 1 ≤ t) (h2 : t ≤ 52) (hfr : fr < 4503599627370496) (hn : fr + 4503599627370496 = n * 2 ^ t) :
    ∃ j : Nat, shortDP (1075 - t) fr = (n * 10 ^ j, -(j : Int)) := by
  obtain ⟨k1, k2⟩ := okT_all ⟨t - 1, by omega⟩
  simp only [show t - 1 + 1 = t by omega] at k1 k2
  have he : ((1075 - t : Nat) : Int) - 1086 = -11 - (t : Int) := by omega
  have he2 : -11 - (t : Int) + 11 = -(t : Int) := by omega
  have hm : (fr + 4503599627370496) * 2048 = n * (2048 * 2 ^ t) := by rw [hn, Nat.mul_assoc, Nat.mul_comm (2 ^ t)]
  have hmb : (fr + 4503599627370496) * 2048 + 1024 < 18446744073709551616 := by omega
  have hma : 1024 < (fr + 4503599627370496) * 2048 := by omega
  have ho : (fr + 4503599627370496) * 2048 / 2048 % 2 ≤ 1 := by omega
  unfold shortDP
  rw [if_neg (by omega)]
  simp only [he, he2]
  generalize (fr + 4503599627370496) * 2048 / 2048 % 2 = odd at *
  generalize (fr + 4503599627370496) * 2048 = m at *
  by_cases hs : fr = 0 ∧ 1 < 1075 - t
  · rw [if_pos hs]
    rw [show (348 - skew (-(t : Int))).toNat = 348 + kOfS t by unfold kOfS skew; omega, core_t (m - 512) m odd n t (kOfS t) k2 hm (by omega) hmb ho]
    refine ⟨kOfS t - 1, ?_⟩
    have : 1 ≤ kOfS t := by unfold okT at k2; simp only [Bool.and_eq_true, decide_eq_true_eq] at k2; omega
    congr 1
    omega
  · rw [if_neg hs]
    rw [show (348 - l10p2 (-(t : Int))).toNat = 348 + kOfT t by unfold kOfT l10p2; omega, core_t (m - 1024) m odd n t (kOfT t) k1 hm (by omega) hmb ho]
    refine ⟨kOfT t - 1, ?_⟩
    have : 1 ≤ kOfT t := by unfold okT at k1; simp only [Bool.and_eq_true, decide_eq_true_eq] at k1; omega
    congr 1
    omega
end Go.Proofs.YtnibfebfgdhfgaaGreatDoor
