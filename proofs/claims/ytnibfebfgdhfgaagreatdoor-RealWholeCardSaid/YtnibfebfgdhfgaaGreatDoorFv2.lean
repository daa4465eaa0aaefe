/- Package real's Parse and Text at whole numbers up to 2 to the 53. Conditions: the tables hold what start-up lays. -/
import Derived.Test.YtnibfebfgdhfgaaGreatDoorFv1
namespace Go.Proofs.YtnibfebfgdhfgaaGreatDoor
open Go.ChangeShapes Go.WideShapes Go.ChangeAt Go.RowKit Go.Sort

theorem dec_dig (u : Nat) : ∀ c ∈ Lib.decDigits u, 48 ≤ c.toNat ∧ c.toNat ≤ 57 := by
  induction u using Nat.strongRecOn with
  | _ u ih =>
    rw [Lib.decDigits]
    have d : ∀ k : Fin 10, 48 ≤ (UInt8.ofNat (48 + k.val)).toNat ∧ (UInt8.ofNat (48 + k.val)).toNat ≤ 57 := by decide
    by_cases h : u < 10
    · rw [dif_pos h]
      intro c hc
      rw [List.mem_singleton.1 hc]
      exact d ⟨u, h⟩
    · rw [dif_neg h]
      intro c hc
      rcases List.mem_append.1 hc with h1 | h1
      · exact ih (u / 10) (by omega) c h1
      · rw [List.mem_singleton.1 h1]
        exact d ⟨u % 10, by omega⟩
theorem dec_first (u : Nat) (hu : 1 ≤ u) : ∃ c l, Lib.decDigits u = c :: l ∧ 48 < c.toNat := by
  induction u using Nat.strongRecOn with
  | _ u ih =>
    rw [Lib.decDigits]
    have d : ∀ k : Fin 10, 1 ≤ k.val → 48 < (UInt8.ofNat (48 + k.val)).toNat := by decide
    by_cases h : u < 10
    · rw [dif_pos h]
      exact ⟨_, _, rfl, d ⟨u, h⟩ hu⟩
    · rw [dif_neg h]
      obtain ⟨c, l, e, hc⟩ := ih (u / 10) (by omega) (by omega)
      exact ⟨c, l ++ _, by rw [e]; rfl, hc⟩
theorem nDig_le : ∀ (m u : Nat), u < 10 ^ m → 1 ≤ m → Lib.nDigits u ≤ m
  | 0, _, _, h => absurd h (by omega)
  | m + 1, u, hu, _ => by
    rw [Lib.nDigits]
    by_cases h : u < 10
    · rw [dif_pos h]; omega
    · rw [dif_neg h]
      have h1 : u / 10 < 10 ^ m := by rw [Nat.pow_succ] at hu; omega
      rcases Nat.eq_zero_or_pos m with rfl | hm
      · simp at h1; omega
      · have := nDig_le m (u / 10) h1 hm
        omega
/-- The text of digits behind a few bytes. -/
theorem dig_at (p : List UInt8) (u j : Nat) (h0 : p.length ≤ j) (h1 : j < p.length + (Lib.decDigits u).length) : isDig ⟨(p ++ Lib.decDigits u).toArray⟩ j := by
  have hsz : (⟨(p ++ Lib.decDigits u).toArray⟩ : ByteArray).size = p.length + (Lib.decDigits u).length := by
    show (p ++ Lib.decDigits u).toArray.size = _
    simp
  refine ⟨by rw [hsz]; exact h1, ?_⟩
  have e : (⟨(p ++ Lib.decDigits u).toArray⟩ : ByteArray)[j]'(by rw [hsz]; exact h1) = (Lib.decDigits u)[j - p.length]'(by omega) := by
    show ((p ++ Lib.decDigits u).toArray)[j]'_ = _
    simp only [List.getElem_toArray]
    rw [List.getElem_append_right h0]
  rw [e]
  exact dec_dig u _ (List.getElem_mem _)
theorem whole_float (n : Nat) (h1 : 1 ≤ n) (h2 : n ≤ 9007199254740992) : ∃ r, r < 9223372036854775808 ∧ wholeBits (r / 4503599627370496) (r % 4503599627370496) n ∧ floatOfInt .f64 (n : Int) = r ∧ floatOfInt .f64 (-(n : Int)) = 9223372036854775808 + r := by
  obtain ⟨r, a, b, c⟩ := nearest_whole n h1 h2
  refine ⟨r, a, b, ?_, ?_⟩
  · have := c false
    rw [if_neg (by decide)] at this
    rw [← this]
    show Ieee.double.nearest (decide ((n : Int) < 0)) (n : Int).natAbs 0 = _
    rw [decide_eq_false (by omega), Int.natAbs_natCast]
  · have := c true
    rw [if_pos rfl] at this
    rw [← this]
    show Ieee.double.nearest (decide (-(n : Int) < 0)) (-(n : Int)).natAbs 0 = _
    rw [decide_eq_true (by omega), Int.natAbs_neg, Int.natAbs_natCast]
theorem whole_hi {r n : Nat} (hw : wholeBits (r / 4503599627370496) (r % 4503599627370496) n) (h : 4503599627370496 ≤ n) (hn : n < 9007199254740992) : r = 4841369599423283200 + (n - 4503599627370496) := by
  rcases hw with ⟨t, t1, t2, t3, t4⟩ | ⟨h1, h2, h3⟩
  · rcases Nat.eq_zero_or_pos t with rfl | ht
    · rw [Nat.pow_zero, Nat.mul_one] at t4
      omega
    · have : n * 2 ≤ n * 2 ^ t := Nat.mul_le_mul_left n (by
        have := Nat.pow_le_pow_right (n := 2) (by omega) ht
        omega)
      omega
  · omega
theorem or_whole (S d : Nat) (hS : S = 0 ∨ S = 9223372036854775808) (hd : d < 9223372036854775808) : bits .or .u64 (S : Int) (d : Int) = ((S + d : Nat) : Int) := by
  have h := bits_or_u64_nat S d (by rcases hS with rfl | rfl <;> omega) (by omega)
  have e : S ||| d = S + d := by
    rcases hS with rfl | rfl
    · rw [Nat.zero_or, Nat.zero_add]
    · rw [sign_or d hd]
  rw [e] at h
  exact h
set_option maxRecDepth 100000 in
theorem parse_pos (n : Nat) (h1 : 1 ≤ n) (h2 : n ≤ 9007199254740992) (w : World) (hc : RCtx w) :
    Calls Tryz.prog 9 #[.string ⟨(Lib.decDigits n).toArray⟩] w fun e w' => e = .returned (.tuple #[.float .f64 (floatOfInt .f64 (n : Int)), .int .i64 0]) ∧ Below w.heap.size w w' := by
  obtain ⟨r, hr, hw, hf, -⟩ := whole_float n h1 h2
  have hlen : (Lib.decDigits n).length ≤ 17 := by rw [Lib.decDigits_length]; exact nDig_le 17 n (Nat.lt_of_le_of_lt h2 (by decide)) (by omega)
  obtain ⟨c, l, ec, hc48⟩ := dec_first n h1
  have hpos : 1 ≤ (Lib.decDigits n).length := by rw [ec]; exact Nat.succ_le_succ (Nat.zero_le _)
  have hsz : (⟨(Lib.decDigits n).toArray⟩ : ByteArray).size = (Lib.decDigits n).length := by show (Lib.decDigits n).toArray.size = _; simp
  have hdig : ∀ j, 0 ≤ j → j < (Lib.decDigits n).length → isDig ⟨(Lib.decDigits n).toArray⟩ j := fun j _ hj => by
    have := dig_at [] n j (Nat.zero_le _) (by simpa using hj)
    simpa using this
  have h48 : ∀ hh : 0 < (⟨(Lib.decDigits n).toArray⟩ : ByteArray).size, 48 < (⟨(Lib.decDigits n).toArray⟩ : ByteArray)[0].toNat := fun hh => by
    have e : (⟨(Lib.decDigits n).toArray⟩ : ByteArray)[0] = (Lib.decDigits n)[0]'(by omega) := by
      show (Lib.decDigits n).toArray[0]'_ = _
      simp only [List.getElem_toArray]
    rw [e]
    simp only [ec, List.getElem_cons_zero]
    exact hc48
  have hV : valAt ⟨(Lib.decDigits n).toArray⟩ 0 ((Lib.decDigits n).length - 0) = n := by
    unfold valAt
    simp only [Nat.sub_zero, List.drop_zero, List.take_length]
    exact valN_dec n
  have htl : (⟨(Lib.decDigits n).toArray⟩ : ByteArray).toList = Lib.decDigits n := by rw [Lib.toList_data]
  have hno : ∀ (x : UInt8) (y : List UInt8), (x.toNat < 48 ∨ 57 < x.toNat) → ((Lib.decDigits n) == x :: y) = false := fun x y hx => by
    rw [beq_eq_false_iff_ne]
    intro e
    have := dec_dig n x (by rw [e]; exact List.mem_cons_self ..)
    omega
  have e1 : ((⟨(Lib.decDigits n).toArray⟩ : ByteArray).toList == [105, 110, 102]) = false := by rw [htl]; exact hno _ _ (by decide)
  have e2 : ((⟨(Lib.decDigits n).toArray⟩ : ByteArray).toList == [45, 105, 110, 102]) = false := by rw [htl]; exact hno _ _ (by decide)
  have e3 : ((⟨(Lib.decDigits n).toArray⟩ : ByteArray).toList == [110, 97, 110]) = false := by rw [htl]; exact hno _ _ (by decide)
  generalize (⟨(Lib.decDigits n).toArray⟩ : ByteArray) = s at *
  generalize (Lib.decDigits n).length = k at *
  refine realParse_okB s e1 e2 e3 (by omega) k hsz.symm _ w hc (fun W => isDecimal_pos s k hsz hpos (by omega) (fun j hj => hdig j (Nat.zero_le _) hj) W) fun W hW => ?_
  by_cases hb : n < 4503599627370496
  · exact same_below (atof_pos s k n hsz hpos hlen hdig h48 h1 hV hb W hW)
  · rw [hf]
    refine atof_bigpos s k n hsz hpos hlen hdig h48 h1 hV (by omega) h2 r (fun W hW => ?_) W hW
    by_cases h53 : n = 9007199254740992
    · subst h53
      have := parse53_pos W hW
      have er : r = 4845873199050653696 := by
        rcases hw with ⟨t, t1, t2, t3, t4⟩ | ⟨h1, h2, -⟩
        · have := Nat.two_pow_pos t
          have : 9007199254740992 * 1 ≤ 9007199254740992 * 2 ^ t := Nat.mul_le_mul_left _ this
          omega
        · omega
      rw [er]; exact this
    · have er := whole_hi hw (by omega) (by omega)
      refine parse_core 0 n (0 + n) r (4 * n) rfl (by omega) (by omega) (or_whole 0 n (.inl rfl) (by omega)) (fun w => ?_) W hW
      have := pack_whole 0 (n - 4503599627370496) (.inl rfl) (by omega) w
      rw [show 0 + (4503599627370496 + (n - 4503599627370496)) = 0 + n by omega, show 0 + (4841369599423283200 + (n - 4503599627370496)) = r by omega] at this
      exact this
set_option maxRecDepth 100000 in
theorem parse_neg (n : Nat) (h1 : 1 ≤ n) (h2 : n ≤ 9007199254740992) (w : World) (hc : RCtx w) :
    Calls Tryz.prog 9 #[.string ⟨(45 :: Lib.decDigits n).toArray⟩] w fun e w' => e = .returned (.tuple #[.float .f64 (floatOfInt .f64 (-(n : Int))), .int .i64 0]) ∧ Below w.heap.size w w' := by
  obtain ⟨r, hr, hw, hf, hg⟩ := whole_float n h1 h2
  have hlen : (Lib.decDigits n).length ≤ 16 := by rw [Lib.decDigits_length]; exact nDig_le 16 n (Nat.lt_of_le_of_lt h2 (by decide)) (by omega)
  obtain ⟨c, l, ec, hc48⟩ := dec_first n h1
  have hpos : 1 ≤ (Lib.decDigits n).length := by rw [ec]; exact Nat.succ_le_succ (Nat.zero_le _)
  have hsz : (⟨(45 :: Lib.decDigits n).toArray⟩ : ByteArray).size = (Lib.decDigits n).length + 1 := by show (45 :: Lib.decDigits n).toArray.size = _; simp
  have hdig : ∀ j, 1 ≤ j → j < (Lib.decDigits n).length + 1 → isDig ⟨(45 :: Lib.decDigits n).toArray⟩ j := fun j h0 hj => by
    have := dig_at [45] n j h0 (by simp; omega)
    simpa using this
  have c0 : ∀ hh : 0 < (⟨(45 :: Lib.decDigits n).toArray⟩ : ByteArray).size, ((⟨(45 :: Lib.decDigits n).toArray⟩ : ByteArray)[0].toNat : Int) = 45 := fun hh => by
    have e : (⟨(45 :: Lib.decDigits n).toArray⟩ : ByteArray)[0] = (45 : UInt8) := by
      show (45 :: Lib.decDigits n).toArray[0]'(by simp) = _
      simp
    rw [e]; rfl
  have h48 : ∀ hh : 1 < (⟨(45 :: Lib.decDigits n).toArray⟩ : ByteArray).size, 48 < (⟨(45 :: Lib.decDigits n).toArray⟩ : ByteArray)[1].toNat := fun hh => by
    have e : (⟨(45 :: Lib.decDigits n).toArray⟩ : ByteArray)[1] = (Lib.decDigits n)[0]'(by omega) := by
      show (45 :: Lib.decDigits n).toArray[1]'(by simp; omega) = _
      simp
    rw [e]
    simp only [ec, List.getElem_cons_zero]
    exact hc48
  have hV : valAt ⟨(45 :: Lib.decDigits n).toArray⟩ 1 ((Lib.decDigits n).length + 1 - 1) = n := by
    unfold valAt
    simp only [Nat.add_sub_cancel, List.drop_succ_cons, List.drop_zero, List.take_length]
    exact valN_dec n
  have htl : (⟨(45 :: Lib.decDigits n).toArray⟩ : ByteArray).toList = 45 :: Lib.decDigits n := by rw [Lib.toList_data]
  have e1 : ((⟨(45 :: Lib.decDigits n).toArray⟩ : ByteArray).toList == [105, 110, 102]) = false := by
    rw [htl, beq_eq_false_iff_ne]
    intro e
    injection e with e _
    exact absurd e (by decide)
  have e2 : ((⟨(45 :: Lib.decDigits n).toArray⟩ : ByteArray).toList == [45, 105, 110, 102]) = false := by
    rw [htl, beq_eq_false_iff_ne]
    intro e
    injection e with _ e
    have := dec_dig n 105 (by rw [e]; exact List.mem_cons_self ..)
    exact absurd this.2 (by decide)
  have e3 : ((⟨(45 :: Lib.decDigits n).toArray⟩ : ByteArray).toList == [110, 97, 110]) = false := by
    rw [htl, beq_eq_false_iff_ne]
    intro e
    injection e with e _
    exact absurd e (by decide)
  generalize (⟨(45 :: Lib.decDigits n).toArray⟩ : ByteArray) = s at *
  generalize (Lib.decDigits n).length = k at *
  refine realParse_okB s e1 e2 e3 (by omega) (k + 1) hsz.symm _ w hc (fun W => isDecimal_neg s (k + 1) hsz (by omega) (by omega) (c0 (by omega)) (fun j h0 hj => hdig j h0 hj) W) fun W hW => ?_
  by_cases hb : n < 4503599627370496
  · have := same_below (atof_neg s (k + 1) n hsz (by omega) (by omega) c0 hdig h48 h1 hV hb W hW)
    rw [hf, neg_flip r (by omega), show flip r = 9223372036854775808 + r from by unfold flip; rw [if_neg (by omega)]; omega, ← hg] at this
    exact this
  · rw [hg]
    refine atof_bigneg s (k + 1) n hsz (by omega) (by omega) c0 hdig h48 h1 hV (by omega) h2 (9223372036854775808 + r) (fun W hW => ?_) W hW
    by_cases h53 : n = 9007199254740992
    · subst h53
      have := parse53_neg W hW
      have er : r = 4845873199050653696 := by
        rcases hw with ⟨t, t1, t2, t3, t4⟩ | ⟨h1, h2, -⟩
        · have := Nat.two_pow_pos t
          have : 9007199254740992 * 1 ≤ 9007199254740992 * 2 ^ t := Nat.mul_le_mul_left _ this
          omega
        · omega
      rw [er]; exact this
    · have er := whole_hi hw (by omega) (by omega)
      refine parse_core 9223372036854775808 n (9223372036854775808 + n) (9223372036854775808 + r) (4 * n) rfl (by omega) (by omega) (or_whole 9223372036854775808 n (.inr rfl) (by omega)) (fun w => ?_) W hW
      have := pack_whole 9223372036854775808 (n - 4503599627370496) (.inr rfl) (by omega) w
      rw [show 9223372036854775808 + (4503599627370496 + (n - 4503599627370496)) = 9223372036854775808 + n by omega, show 9223372036854775808 + (4841369599423283200 + (n - 4503599627370496)) = 9223372036854775808 + r by omega] at this
      exact this
set_option maxRecDepth 100000 in
theorem parse_zero (w : World) (hc : RCtx w) :
    Calls Tryz.prog 9 #[.string ⟨#[48]⟩] w fun e w' => e = .returned (.tuple #[.float .f64 0, .int .i64 0]) ∧ Below w.heap.size w w' :=
  realParse_okB ⟨#[48]⟩ (by rw [Lib.toList_data]; decide) (by rw [Lib.toList_data]; decide) (by rw [Lib.toList_data]; decide) (by decide) 1 rfl 0 w hc (fun W => isDecimal_pos ⟨#[48]⟩ 1 rfl (by omega) (by omega) (fun j hj => by
    obtain rfl : j = 0 := by omega
    exact ⟨by decide, by decide, by decide⟩) W) (fun W hW => same_below (atof_0 ⟨#[48]⟩ (by decide) (by decide) rfl W hW))
/-- What Parse and Text say of a whole number. -/
theorem whole_said (n : Int) (h0 : -9007199254740992 ≤ n) (h1 : n ≤ 9007199254740992) : ∃ b, b < 18446744073709551616 ∧ b % 9223372036854775808 ≤ 9218868437227405312 ∧ floatOfInt .f64 n = b ∧
    (∀ w, RCtx w → Calls Tryz.prog 9 #[.string ⟨(Lib.itoa n).toArray⟩] w fun e w' => e = .returned (.tuple #[.float .f64 b, .int .i64 0]) ∧ Below w.heap.size w w') ∧
    (∀ w, RCtx w → Calls Tryz.prog 7 #[.float .f64 b] w fun e w' => e = .returned (.string ⟨(Lib.itoa n).toArray⟩) ∧ Below w.heap.size w w') := by
  rcases Int.lt_trichotomy n 0 with hn | rfl | hn
  · obtain ⟨m, rfl⟩ : ∃ m : Nat, n = -(m : Int) := ⟨n.natAbs, by omega⟩
    obtain ⟨r, hr, hw, hf, hg⟩ := whole_float m (by omega) (by omega)
    have hr2 : r ≤ 9218868437227405312 := by rcases hw with ⟨t, t1, t2, t3, t4⟩ | ⟨h1, h2, -⟩ <;> omega
    have e : Lib.itoa (-(m : Int)) = 45 :: Lib.decDigits m := Lib.itoa_neg m (by omega)
    refine ⟨9223372036854775808 + r, by omega, by omega, hg, fun w hc => ?_, fun w hc => ?_⟩
    · have := parse_neg m (by omega) (by omega) w hc
      rw [hg] at this
      rw [e]; exact this
    · have := realText_all (9223372036854775808 + r) (by omega) (by omega) w hc.toTCtx
      rw [show (9223372036854775808 + r) % 9223372036854775808 = r by omega, body_whole r m hw, show below (9223372036854775808 + r) = true from decide_eq_true (by omega)] at this
      rw [e]; exact this
  · have e : Lib.itoa 0 = [48] := by
      rw [show (0 : Int) = ((0 : Nat) : Int) from rfl, Lib.itoa_nonneg, Lib.decDigits_one (by omega)]
      rfl
    refine ⟨0, by omega, by omega, by decide +kernel, fun w hc => by rw [e]; exact parse_zero w hc, fun w hc => ?_⟩
    have := realText_all 0 (by omega) (by omega) w hc.toTCtx
    rw [show (0 : Nat) % 9223372036854775808 = 0 from rfl, show bodyText 0 = [48] from by unfold bodyText; rw [if_neg (by omega), if_pos rfl], show below 0 = false from decide_eq_false (by omega)] at this
    rw [e]; exact this
  · obtain ⟨m, rfl⟩ : ∃ m : Nat, n = (m : Int) := ⟨n.natAbs, by omega⟩
    obtain ⟨r, hr, hw, hf, hg⟩ := whole_float m (by omega) (by omega)
    have hr2 : r ≤ 9218868437227405312 := by rcases hw with ⟨t, t1, t2, t3, t4⟩ | ⟨h1, h2, -⟩ <;> omega
    have e : Lib.itoa (m : Int) = Lib.decDigits m := Lib.itoa_nonneg m
    refine ⟨r, by omega, by omega, hf, fun w hc => ?_, fun w hc => ?_⟩
    · have := parse_pos m (by omega) (by omega) w hc
      rw [hf] at this
      rw [e]; exact this
    · have := realText_all r (by omega) (by omega) w hc.toTCtx
      rw [show r % 9223372036854775808 = r by omega, body_whole r m hw, show below r = false from decide_eq_false (by omega)] at this
      rw [e]; exact this
end Go.Proofs.YtnibfebfgdhfgaaGreatDoor
