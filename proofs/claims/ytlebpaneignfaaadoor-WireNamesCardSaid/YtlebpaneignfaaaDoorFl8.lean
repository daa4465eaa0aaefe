/- The digits of any number that is neither nothing, infinite nor none: shortFloat at the halves of its bits. Plain facts, and the contract. -/
import Derived.Test.YtlebpaneignfaaaDoorFl4
namespace Go.Proofs.YtlebpaneignfaaaDoor
open Go.ChangeShapes Go.WideShapes Go.ChangeAt Go.RowKit Go.Sort

/-- The shortest digits of the number with exponent bits ex and mantissa bits fr: a whole number and a power of ten. -/
def shortDP (ex fr : Nat) : Nat × Int :=
  if ex = 0 then
    let z := 64 - Lib.bitLen fr
    shortCore (fr * 2 ^ z - 2 ^ (z - 1)) (fr * 2 ^ z + 2 ^ (z - 1)) (fr * 2 ^ z) (fr * 2 ^ z / 2 ^ z % 2) (-1074 - (z : Int)) 672
  else
    let m := (fr + 4503599627370496) * 2048
    let e : Int := (ex : Int) - 1086
    if fr = 0 ∧ 1 < ex then shortCore (m - 512) (m + 1024) m (m / 2048 % 2) e (348 - skew (e + 11)).toNat
    else shortCore (m - 1024) (m + 1024) m (m / 2048 % 2) e (348 - l10p2 (e + 11)).toNat

theorem short_normal (ex fr : Nat) (h0 : 1 ≤ ex) (h1 : ex ≤ 2046) (hf : fr < 4503599627370496) (w : World) (hc : TCtx w) :
    Calls Tryd.prog 60 #[.int .u64 ((fr + 4503599627370496) * 2048 : Nat), .int .i64 ((ex : Int) - 1086)] w (ShortPost w (shortDP ex fr)) := by
  unfold shortDP
  rw [if_neg (by omega)]
  by_cases hs : fr = 0 ∧ 1 < ex
  · simp only []
    rw [if_pos hs]
    refine short_skew _ _ _ ?_ ?_ ?_ ?_ ?_ ?_ w hc
    · omega
    · omega
    · omega
    · omega
    · unfold skew; omega
    · omega
  · simp only []
    rw [if_neg hs]
    refine short_mid _ _ _ ?_ ?_ ?_ ?_ ?_ ?_ w hc
    · omega
    · omega
    · omega
    · omega
    · unfold l10p2; omega
    · omega

theorem shortCore_pos (mn mx m odd : Nat) (e : Int) (i : Nat) (hi : i < 696) (hs0 : 0 ≤ -(e + l2p10 ((i : Int) - 348) + 3)) (hs1 : -(e + l2p10 ((i : Int) - 348) + 3) ≤ 58) (h0 : 4611686018427387904 ≤ mn) (h1 : mn < 18446744073709551616) (h2 : 4611686018427387904 ≤ m) (h3 : m < 18446744073709551616) :
    1 ≤ (shortCore mn mx m odd e i).1 := by
  obtain ⟨r0, r1, _⟩ := p10_all i hi
  have a := uscaleN_pos mn (p10Row i).1 (p10Row i).2 (-(e + l2p10 ((i : Int) - 348) + 3)).toNat h0 h1 r0 r1 (by omega)
  have b := uscaleN_pos m (p10Row i).1 (p10Row i).2 (-(e + l2p10 ((i : Int) - 348) + 3)).toNat h2 h3 r0 r1 (by omega)
  unfold shortCore
  simp only []
  split
  · simp only []; omega
  · split
    · simp only []; omega
    · simp only []; omega
theorem shortCore_lt (mn mx m odd : Nat) (e : Int) (i : Nat) (hi : i < 696) (hs0 : 4 ≤ -(e + l2p10 ((i : Int) - 348) + 3)) (h1 : mn < 18446744073709551616) (h2 : mx < 18446744073709551616) (h3 : m < 18446744073709551616) (ho : odd ≤ 1) :
    (shortCore mn mx m odd e i).1 < 18446744073709551616 ∧ -400 ≤ (shortCore mn mx m odd e i).2 ∧ (shortCore mn mx m odd e i).2 ≤ 400 := by
  obtain ⟨r0, r1, _⟩ := p10_all i hi
  have a := uscaleN_le mn (p10Row i).1 (p10Row i).2 (-(e + l2p10 ((i : Int) - 348) + 3)).toNat h1 r1 (by omega)
  have b := uscaleN_le mx (p10Row i).1 (p10Row i).2 (-(e + l2p10 ((i : Int) - 348) + 3)).toNat h2 r1 (by omega)
  have c := uscaleN_le m (p10Row i).1 (p10Row i).2 (-(e + l2p10 ((i : Int) - 348) + 3)).toNat h3 r1 (by omega)
  unfold shortCore
  simp only []
  split
  · simp only []; omega
  · split
    · simp only []; omega
    · simp only []; omega

theorem short_fits_normal (ex fr : Nat) (h0 : 1 ≤ ex) (h1 : ex ≤ 2046) (hf : fr < 4503599627370496) :
    1 ≤ (shortDP ex fr).1 ∧ (shortDP ex fr).1 < 18446744073709551616 ∧ -400 ≤ (shortDP ex fr).2 ∧ (shortDP ex fr).2 ≤ 400 := by
  unfold shortDP
  rw [if_neg (by omega)]
  simp only []
  by_cases hs : fr = 0 ∧ 1 < ex
  · rw [if_pos hs]
    have hi : (((348 - skew ((ex : Int) - 1086 + 11)).toNat : Nat) : Int) = 348 - skew ((ex : Int) - 1086 + 11) := by unfold skew; omega
    have hs0 : 4 ≤ -((ex : Int) - 1086 + l2p10 ((((348 - skew ((ex : Int) - 1086 + 11)).toNat : Nat) : Int) - 348) + 3) := by rw [hi]; unfold l2p10 skew; omega
    have hs1 : -((ex : Int) - 1086 + l2p10 ((((348 - skew ((ex : Int) - 1086 + 11)).toNat : Nat) : Int) - 348) + 3) ≤ 58 := by rw [hi]; unfold l2p10 skew; omega
    have hi7 : (348 - skew ((ex : Int) - 1086 + 11)).toNat < 696 := by unfold skew; omega
    refine ⟨shortCore_pos _ _ _ _ _ _ hi7 (by omega) hs1 (by omega) (by omega) (by omega) (by omega), shortCore_lt _ _ _ _ _ _ hi7 hs0 (by omega) (by omega) (by omega) (by omega)⟩
  · rw [if_neg hs]
    have hi : (((348 - l10p2 ((ex : Int) - 1086 + 11)).toNat : Nat) : Int) = 348 - l10p2 ((ex : Int) - 1086 + 11) := by unfold l10p2; omega
    have hs0 : 4 ≤ -((ex : Int) - 1086 + l2p10 ((((348 - l10p2 ((ex : Int) - 1086 + 11)).toNat : Nat) : Int) - 348) + 3) := by rw [hi]; unfold l2p10 l10p2; omega
    have hs1 : -((ex : Int) - 1086 + l2p10 ((((348 - l10p2 ((ex : Int) - 1086 + 11)).toNat : Nat) : Int) - 348) + 3) ≤ 58 := by rw [hi]; unfold l2p10 l10p2; omega
    have hi7 : (348 - l10p2 ((ex : Int) - 1086 + 11)).toNat < 696 := by unfold l10p2; omega
    refine ⟨shortCore_pos _ _ _ _ _ _ hi7 (by omega) hs1 (by omega) (by omega) (by omega) (by omega), shortCore_lt _ _ _ _ _ _ hi7 hs0 (by omega) (by omega) (by omega) (by omega)⟩

/-- The first digit of a number that is not nothing is no nought. -/
theorem decDigits_head (u : Nat) (h : 1 ≤ u) : (Lib.decDigits u).getD 0 0 ≠ 48 := by
  induction u using Nat.strongRecOn with
  | _ u ih =>
    rw [Lib.decDigits]
    by_cases h10 : u < 10
    · rw [dif_pos h10]
      have : ∀ k : Fin 10, 1 ≤ k.val → ([UInt8.ofNat (48 + k.val)] : List UInt8).getD 0 0 ≠ 48 := by decide
      exact this ⟨u, h10⟩ h
    · rw [dif_neg h10]
      have := ih (u / 10) (by omega) (by omega)
      have hl : 0 < (Lib.decDigits (u / 10)).length := by rw [Lib.decDigits_length]; exact Lib.nDigits_pos _
      rw [List.getD_eq_getElem?_getD, List.getElem?_append_left hl]
      rw [List.getD_eq_getElem?_getD] at this
      exact this
theorem stripTo_pos (ds : List UInt8) (h : ds.getD 0 0 ≠ 48) : ∀ k, 1 ≤ k → 1 ≤ stripTo ds k
  | 0, hk => by omega
  | 1, _ => by unfold stripTo; rw [if_neg h]; exact Nat.le_refl _
  | k + 2, _ => by
    unfold stripTo
    split
    · exact stripTo_pos ds h (k + 1) (by omega)
    · omega
end Go.Proofs.YtlebpaneignfaaaDoor
