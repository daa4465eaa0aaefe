/- Plain facts on numerals, of no program: that the text of a number is read back as it, and that the document's Parse and the package's answer the same number at every text. Conditions: numbers of 64 bits with a sign, where a theorem names them. -/
import Derived.Lib.ItoaNum
import Derived.Lib.ItoaMem
import Derived.Lib.ItoaLen
import Derived.Lib.ParseIntBCases
namespace Go.Proofs.YtimgkbpiengnjaaGreatDoor.Num
open Go

/-- The digits' number, on from acc; none where a byte is no digit. -/
def dv (acc : Nat) : List UInt8 → Option Nat
  | [] => some acc
  | c :: r => if 48 ≤ c.toNat ∧ c.toNat ≤ 57 then dv (acc * 10 + (c.toNat - 48)) r else none

theorem dv_le : ∀ (l : List UInt8) (acc u : Nat), dv acc l = some u → acc ≤ u
  | [], acc, u, h => by simp only [dv, Option.some.injEq] at h; omega
  | c :: r, acc, u, h => by
    simp only [dv] at h
    split at h
    · have := dv_le r _ u h; omega
    · cases h

theorem dv_snoc : ∀ (l : List UInt8) (acc u : Nat) (c : UInt8), dv acc l = some u → 48 ≤ c.toNat → c.toNat ≤ 57 → dv acc (l ++ [c]) = some (u * 10 + (c.toNat - 48))
  | [], acc, u, c, h, h1, h2 => by
    simp only [dv, Option.some.injEq] at h; subst h
    simp [dv, h1, h2]
  | d :: r, acc, u, c, h, h1, h2 => by
    simp only [dv, List.cons_append] at h ⊢
    split at h
    · rename_i hd; rw [if_pos hd]; exact dv_snoc r _ u c h h1 h2
    · cases h

theorem dig_toNat {d : Nat} (h : d < 10) : (UInt8.ofNat (48 + d)).toNat = 48 + d := by
  rw [UInt8.toNat_ofNat']; omega

theorem dv_decDigits (u : Nat) : dv 0 (Lib.decDigits u) = some u := by
  induction u using Nat.strongRecOn with
  | _ u ih =>
    rw [Lib.decDigits]
    split
    · rename_i h
      have e := dig_toNat h
      simp only [dv]
      rw [if_pos (by omega), e]
      congr 1; omega
    · rename_i h
      have e := dig_toNat (Nat.mod_lt u (show 0 < 10 by omega))
      rw [dv_snoc _ 0 (u / 10) _ (ih (u / 10) (by omega)) (by omega) (by omega), e]
      congr 1; omega

theorem decDigits_of_dv : ∀ (l : List UInt8) (acc u : Nat), 1 ≤ acc → dv acc l = some u → Lib.decDigits u = Lib.decDigits acc ++ l
  | [], acc, u, ha, h => by simp only [dv, Option.some.injEq] at h; subst h; simp
  | c :: r, acc, u, ha, h => by
    simp only [dv] at h
    split at h
    · rename_i hc
      rw [decDigits_of_dv r _ u (by omega) h]
      have e : Lib.decDigits (acc * 10 + (c.toNat - 48)) = Lib.decDigits acc ++ [c] := by
        rw [Lib.decDigits, dif_neg (by omega)]
        congr 1
        · congr 1; omega
        · congr 1
          apply UInt8.toNat_inj.1
          rw [dig_toNat (by omega)]; omega
      rw [e, List.append_assoc]; rfl
    · cases h

/-- A row of digits without a 0 ahead is the numeral of its number. -/
theorem numeral_of_dv {c : UInt8} {r : List UInt8} {u : Nat} (h0 : c.toNat = 48 → r = []) (h : dv 0 (c :: r) = some u) : Lib.decDigits u = c :: r := by
  simp only [dv] at h
  split at h
  · rename_i hc
    by_cases h48 : c.toNat = 48
    · have := h0 h48; subst this
      simp only [dv, Option.some.injEq] at h
      have hu : u = 0 := by omega
      subst hu
      rw [Lib.decDigits, dif_pos (by omega)]
      congr 1
      apply UInt8.toNat_inj.1
      rw [dig_toNat (by omega)]; omega
    · rw [decDigits_of_dv r _ u (by omega) h, Lib.decDigits_one (by omega)]
      have : UInt8.ofNat (48 + (0 * 10 + (c.toNat - 48))) = c := by
        apply UInt8.toNat_inj.1
        rw [dig_toNat (by omega)]; omega
      rw [this]; rfl
  · cases h

theorem decDigits_ne_nil (u : Nat) : Lib.decDigits u ≠ [] := by
  intro h
  have := Lib.decDigits_length u
  rw [h] at this
  have := Lib.nDigits_pos u
  simp at *; omega

/-- The first digit: a digit; not 0, but of 0 itself. -/
theorem decDigits_head (u : Nat) : ∃ c r, Lib.decDigits u = c :: r ∧ 48 ≤ c.toNat ∧ c.toNat ≤ 57 ∧ (c.toNat = 48 → u = 0 ∧ r = []) := by
  induction u using Nat.strongRecOn with
  | _ u ih =>
    by_cases h : u < 10
    · exact ⟨_, _, Lib.decDigits_one h, by rw [dig_toNat h]; omega, by rw [dig_toNat h]; omega, fun e => ⟨by rw [dig_toNat h] at e; omega, rfl⟩⟩
    · obtain ⟨c, r, e, h1, h2, h3⟩ := ih (u / 10) (by omega)
      refine ⟨c, r ++ [UInt8.ofNat (48 + u % 10)], ?_, h1, h2, fun e48 => ?_⟩
      · rw [Lib.decDigits, dif_neg h, e]; rfl
      · have := (h3 e48).1; omega

theorem parseUintM_ok : ∀ (l : List UInt8) (acc u : Nat), acc ≤ 18446744073709551615 → dv acc l = some u → u ≤ 18446744073709551615 → Lib.parseUintM 18446744073709551615 acc l = .ok u
  | [], acc, u, _, h, _ => by simp only [dv, Option.some.injEq] at h; subst h; rfl
  | c :: r, acc, u, ha, h, hu => by
    simp only [dv] at h
    split at h
    · rename_i hc
      have := dv_le r _ u h
      rw [Lib.parseUintM, if_pos hc, if_neg (by omega), if_neg (by omega)]
      exact parseUintM_ok r _ u (by omega) h hu
    · cases h

theorem parseUintB_dec (u : Nat) (hu : u ≤ 18446744073709551615) : Lib.parseUintB 64 (Lib.decDigits u) = .ok u := by
  rw [Lib.parseUintB, if_neg (decDigits_ne_nil u)]
  exact parseUintM_ok _ 0 u (by omega) (dv_decDigits u) hu

theorem p63 : (2 : Nat) ^ (64 - 1) = 9223372036854775808 := by decide

/-- What Text says, ParseInt reads. -/
theorem parse_itoa (n : Int) (h0 : -9223372036854775808 ≤ n) (h1 : n ≤ 9223372036854775807) : Lib.parseIntB 64 (Lib.itoa n) = .ok n := by
  unfold Lib.itoa
  split
  · rw [Lib.parseIntB_minus, parseUintB_dec _ (by omega)]
    simp only [Lib.signedC]
    rw [p63, if_neg (by omega)]
    congr 1; omega
  · obtain ⟨c, r, e, h48, h57, _⟩ := decDigits_head n.toNat
    have := parseUintB_dec n.toNat (by omega)
    rw [e] at this ⊢
    rw [Lib.parseIntB_plain _ _ _ (by omega) (by omega), this]
    simp only [Lib.signlessC]
    rw [p63, if_neg (by omega)]
    congr 1; omega

/-- The package's Parse, in Lean: the number whose numeral the text is, and 0; else 0 and 11. -/
def wp (l : List UInt8) : Int × Int :=
  match Lib.parseIntB 64 l with
  | .ok v => if Lib.itoa v = l then (v, 0) else (0, 11)
  | _ => (0, 11)

theorem parse_bounds {l : List UInt8} {v : Int} (h : Lib.parseIntB 64 l = .ok v) : -9223372036854775808 ≤ v ∧ v ≤ 9223372036854775807 := by
  unfold Lib.parseIntB at h
  split at h
  · cases h
  · simp only at h
    split at h
    · cases h
    · cases h
    · rename_i u _
      rw [p63] at h
      split at h
      · cases h
      · split at h
        · cases h
        · injection h with h
          split at h <;> omega

theorem wp_itoa (n : Int) (h0 : -9223372036854775808 ≤ n) (h1 : n ≤ 9223372036854775807) : wp (Lib.itoa n) = (n, 0) := by
  unfold wp; rw [parse_itoa n h0 h1]; simp

theorem wp_eq {l : List UInt8} {v : Int} (h : Lib.parseIntB 64 l = .ok v) (e : Lib.itoa v = l) : wp l = (v, 0) := by unfold wp; rw [h]; simp [e]
theorem wp_ne {l : List UInt8} {v : Int} (h : Lib.parseIntB 64 l = .ok v) (e : Lib.itoa v ≠ l) : wp l = (0, 11) := by unfold wp; rw [h]; simp [e]
theorem wp_bad {l : List UInt8} (h : ∀ v, Lib.parseIntB 64 l ≠ .ok v) : wp l = (0, 11) := by
  unfold wp
  split
  · rename_i v hv; exact absurd hv (h v)
  · rfl

theorem wp_cases (l : List UInt8) : (∃ v, -9223372036854775808 ≤ v ∧ v ≤ 9223372036854775807 ∧ Lib.itoa v = l ∧ wp l = (v, 0)) ∨ ((∀ v, -9223372036854775808 ≤ v → v ≤ 9223372036854775807 → Lib.itoa v ≠ l) ∧ wp l = (0, 11)) := by
  by_cases h : ∃ v, -9223372036854775808 ≤ v ∧ v ≤ 9223372036854775807 ∧ Lib.itoa v = l
  · obtain ⟨v, a, b, c⟩ := h
    exact .inl ⟨v, a, b, c, by rw [← c]; exact wp_itoa v a b⟩
  · have hn : ∀ v, -9223372036854775808 ≤ v → v ≤ 9223372036854775807 → Lib.itoa v ≠ l := fun v a b c => h ⟨v, a, b, c⟩
    refine .inr ⟨hn, ?_⟩
    unfold wp
    split
    · rename_i v hv
      have := parse_bounds hv
      rw [if_neg (hn v this.1 this.2)]
    · rfl

/-! ### The document's Parse -/

/-- Its loop: from n down, digit by digit; none: no number. -/
def rl (n : Int) : List UInt8 → Option Int
  | [] => some n
  | c :: r => if ((c.toNat : Int) - 48 < 0 ∨ 9 < (c.toNat : Int) - 48) then none
    else if n < -922337203685477580 ∨ (n = -922337203685477580 ∧ 8 < (c.toNat : Int) - 48) then none
    else rl (10 * n - ((c.toNat : Int) - 48)) r

theorem rl_dv : ∀ (l : List UInt8) (acc : Nat), acc ≤ 9223372036854775808 → rl (-(acc : Int)) l = (match dv acc l with | some u => if u ≤ 9223372036854775808 then some (-(u : Int)) else none | none => none)
  | [], acc, h => by simp only [rl, dv]; rw [if_pos h]
  | c :: r, acc, h => by
    simp only [rl, dv]
    by_cases hc : 48 ≤ c.toNat ∧ c.toNat ≤ 57
    · rw [if_neg (by omega), if_pos hc]
      by_cases hb : acc * 10 + (c.toNat - 48) ≤ 9223372036854775808
      · rw [if_neg (by omega), ← rl_dv r _ hb]
        congr 1; omega
      · rw [if_pos (by omega)]
        split
        · rename_i u hu
          have := dv_le r _ u hu
          rw [if_neg (by omega)]
        · rfl
    · rw [if_pos (by omega), if_neg hc]

def refBody (neg : Bool) (d : List UInt8) : Int × Int :=
  if d.length = 0 ∨ 19 < d.length ∨ (d.head? = some 48 ∧ (1 < d.length ∨ neg = true)) then (0, 11)
  else match rl 0 d with
    | none => (0, 11)
    | some n => if neg then (n, 0) else if n = -9223372036854775808 then (0, 11) else (-n, 0)
def refParse (l : List UInt8) : Int × Int :=
  match l with
  | c :: r => if c = 45 then refBody true r else refBody false l
  | [] => refBody false []

theorem dv_lt : ∀ (l : List UInt8) (acc u : Nat), dv acc l = some u → u < (acc + 1) * 10 ^ l.length
  | [], acc, u, h => by simp only [dv, Option.some.injEq] at h; subst h; simp
  | c :: r, acc, u, h => by
    simp only [dv] at h
    split at h
    · have := dv_lt r _ u h
      simp only [List.length_cons, Nat.pow_succ]
      have h2 : (acc * 10 + (c.toNat - 48) + 1) * 10 ^ r.length ≤ ((acc + 1) * 10) * 10 ^ r.length := Nat.mul_le_mul_right _ (by omega)
      have e : (acc + 1) * (10 ^ r.length * 10) = ((acc + 1) * 10) * 10 ^ r.length := by
        rw [Nat.mul_comm (10 ^ r.length) 10, Nat.mul_assoc]
      omega
    · cases h

theorem decDigits_len_le {u : Nat} (h : u ≤ 9223372036854775808) : (Lib.decDigits u).length ≤ 19 := by
  rw [Lib.decDigits_length]
  by_cases hl : Lib.nDigits u ≤ 19
  · exact hl
  · exfalso
    have key : ∀ (k v : Nat), v < 10 ^ (k + 1) → Lib.nDigits v ≤ k + 1 := by
      intro k
      induction k with
      | zero => intro v hv; rw [Lib.nDigits_small (by simpa using hv)]; omega
      | succ k ih =>
        intro v hv
        by_cases h10 : v < 10
        · rw [Lib.nDigits_small h10]; omega
        · rw [Lib.nDigits_big h10]
          have := ih (v / 10) (by rw [Nat.pow_succ] at hv; omega)
          omega
    have p19 : (10 : Nat) ^ (18 + 1) = 10000000000000000000 := by decide
    have := key 18 u (by omega)
    omega

theorem head48 {c : UInt8} {r : List UInt8} : ((c :: r).head? = some 48) ↔ c.toNat = 48 := by
  simp only [List.head?_cons, Option.some.injEq]
  exact ⟨fun h => by rw [h]; rfl, fun h => UInt8.toNat_inj.1 h⟩

/-- What the document's Parse finds is a number whose numeral the text is. -/
theorem refBody_ok {neg : Bool} {d : List UInt8} {v : Int} (h : refBody neg d = (v, 0)) :
    ∃ u : Nat, Lib.decDigits u = d ∧ (neg = true → 1 ≤ u ∧ u ≤ 9223372036854775808 ∧ v = -(u : Int)) ∧ (neg = false → u ≤ 9223372036854775807 ∧ v = (u : Int)) := by
  unfold refBody at h
  split at h
  · cases h
  · rename_i hd
    have e0 : rl 0 d = rl (-((0 : Nat) : Int)) d := rfl
    rw [e0, rl_dv d 0 (by omega)] at h
    cases d with
    | nil => simp at hd
    | cons c r =>
      rw [head48] at hd
      have hz : c.toNat = 48 → r = [] := fun e => by
        cases r with
        | nil => rfl
        | cons _ _ => exfalso; apply hd; right; right; exact ⟨e, Or.inl (by simp)⟩
      cases hdv : dv 0 (c :: r) with
      | none => simp [hdv] at h
      | some u =>
        have hnum := numeral_of_dv hz hdv
        simp only [hdv] at h
        by_cases hu : u ≤ 9223372036854775808
        · simp only [hu, if_true] at h
          refine ⟨u, hnum, fun hn => ?_, fun hn => ?_⟩
          · subst hn
            simp only [if_true, Prod.mk.injEq] at h
            refine ⟨?_, hu, h.1.symm⟩
            rcases Nat.eq_zero_or_pos u with e | e
            · exfalso
              subst e
              rw [Lib.decDigits, dif_pos (by omega)] at hnum
              injection hnum with e1 e2
              apply hd; right; right
              exact ⟨by rw [← e1]; rfl, Or.inr rfl⟩
            · exact e
          · subst hn
            simp only [Bool.false_eq_true, if_false] at h
            split at h
            · cases h
            · rename_i hne
              injection h with h1 h2
              exact ⟨by omega, by omega⟩
        · simp [hu] at h

theorem refBody_dec {neg : Bool} {u : Nat} (h : (neg = true ∧ 1 ≤ u ∧ u ≤ 9223372036854775808) ∨ (neg = false ∧ u ≤ 9223372036854775807)) :
    refBody neg (Lib.decDigits u) = (if neg then -(u : Int) else (u : Int), 0) := by
  have hu : u ≤ 9223372036854775808 := by omega
  obtain ⟨c, r, e, h48, h57, hz⟩ := decDigits_head u
  have hlen := decDigits_len_le hu
  have hdv := dv_decDigits u
  unfold refBody
  have e0 : ∀ d, rl 0 d = rl (-((0 : Nat) : Int)) d := fun _ => rfl
  rw [if_neg, e0, rl_dv _ 0 (by omega), hdv]
  · simp only [hu, if_true]
    rcases h with ⟨rfl, h1, _⟩ | ⟨rfl, h1⟩
    · simp
    · simp only [Bool.false_eq_true, if_false]
      rw [if_neg (by omega)]
      simp
  · rw [e] at hlen ⊢
    rw [head48]
    rintro (hl | hl | ⟨h1, h2⟩)
    · simp at hl
    · omega
    · obtain ⟨hu0, hr⟩ := hz h1
      subst hr
      rcases h2 with h2 | h2
      · simp at h2
      · subst h2; rcases h with ⟨_, h3, _⟩ | ⟨h3, _⟩
        · omega
        · cases h3

theorem refBody_snd (neg : Bool) (d : List UInt8) : (refBody neg d).2 = 0 ∨ refBody neg d = (0, 11) := by
  unfold refBody
  split
  · exact .inr rfl
  · split
    · exact .inr rfl
    · split
      · exact .inl rfl
      · split
        · exact .inr rfl
        · exact .inl rfl
theorem refParse_snd (l : List UInt8) : (refParse l).2 = 0 ∨ refParse l = (0, 11) := by
  unfold refParse
  split
  · split
    · exact refBody_snd _ _
    · exact refBody_snd _ _
  · exact refBody_snd _ _

theorem refParse_itoa (n : Int) (h0 : -9223372036854775808 ≤ n) (h1 : n ≤ 9223372036854775807) : refParse (Lib.itoa n) = (n, 0) := by
  unfold Lib.itoa
  split
  · simp only [refParse, if_true]
    rw [refBody_dec (.inl ⟨rfl, by omega, by omega⟩)]
    simp only [if_true, Prod.mk.injEq, and_true]; omega
  · obtain ⟨c, r, e, h48, h57, _⟩ := decDigits_head n.toNat
    have := refBody_dec (neg := false) (u := n.toNat) (.inr ⟨rfl, by omega⟩)
    rw [e] at this ⊢
    simp only [refParse]
    rw [if_neg, this]
    · simp only [Bool.false_eq_true, if_false, Prod.mk.injEq, and_true]; omega
    · rintro rfl; revert h48; decide

theorem refParse_ok {l : List UInt8} {v : Int} (h : refParse l = (v, 0)) : -9223372036854775808 ≤ v ∧ v ≤ 9223372036854775807 ∧ Lib.itoa v = l := by
  have plain : ∀ l, refBody false l = (v, 0) → -9223372036854775808 ≤ v ∧ v ≤ 9223372036854775807 ∧ Lib.itoa v = l := by
    intro l h
    obtain ⟨u, e, _, h2⟩ := refBody_ok h
    obtain ⟨h3, rfl⟩ := h2 rfl
    refine ⟨by omega, by omega, ?_⟩
    rw [Lib.itoa_nonneg]; exact e
  unfold refParse at h
  split at h
  · rename_i c r
    split at h
    · rename_i hc
      subst hc
      obtain ⟨u, e, h2, _⟩ := refBody_ok h
      obtain ⟨h3, h4, rfl⟩ := h2 rfl
      refine ⟨by omega, by omega, ?_⟩
      rw [Lib.itoa_neg u h3, e]
    · exact plain _ h
  · exact plain _ h

/-- The document's Parse and the package's answer the same. -/
theorem refParse_wp (l : List UInt8) : refParse l = wp l := by
  rcases wp_cases l with ⟨v, a, b, c, d⟩ | ⟨hn, d⟩
  · rw [d, ← c]; exact refParse_itoa v a b
  · rw [d]
    rcases refParse_snd l with h | h
    · exfalso
      have h2 : refParse l = ((refParse l).1, 0) := by rw [← h]
      obtain ⟨a, b, c⟩ := refParse_ok h2
      exact hn _ a b c
    · exact h

/-! ### Text, as the document has it; Size -/

theorem itoa_digit {n : Int} (h0 : 0 ≤ n) (h1 : n < 10) : Lib.itoa n = [UInt8.ofNat (48 + n.toNat)] := by
  unfold Lib.itoa
  rw [if_neg (by omega), Lib.decDigits_one (by omega)]
theorem itoa_up {n : Int} (h : 10 ≤ n) : Lib.itoa (n / 10) ++ Lib.itoa (n % 10) = Lib.itoa n := by
  obtain ⟨u, rfl⟩ := Int.eq_ofNat_of_zero_le (show 0 ≤ n by omega)
  rw [show ((u : Int) / 10) = ((u / 10 : Nat) : Int) by omega, show ((u : Int) % 10) = ((u % 10 : Nat) : Int) by omega]
  rw [Lib.itoa_nonneg, Lib.itoa_nonneg, Lib.itoa_nonneg]
  rw [Lib.decDigits_one (show u % 10 < 10 by omega)]
  conv => rhs; rw [Lib.decDigits, dif_neg (by omega)]
theorem itoa_neg1 {n : Int} (h : n < 0) : 45 :: Lib.itoa (-n) = Lib.itoa n := by
  obtain ⟨u, hu⟩ := Int.eq_ofNat_of_zero_le (show 0 ≤ -n by omega)
  obtain rfl : n = -(u : Int) := by omega
  rw [Int.neg_neg, Lib.itoa_nonneg, Lib.itoa_neg u (by omega)]
theorem itoa_down {n : Int} (h : n ≤ -10) : Lib.itoa (-(-n / 10)) ++ Lib.itoa (-n % 10) = Lib.itoa n := by
  rw [← itoa_neg1 (show -(-n / 10) < 0 by omega), Int.neg_neg, List.cons_append, itoa_up (by omega), itoa_neg1 (by omega)]

theorem itoa_length (n : Int) : (Lib.itoa n).length = (if n < 0 then 1 else 0) + Lib.nDigits n.natAbs := by
  unfold Lib.itoa
  split
  · simp [Lib.decDigits_length]; omega
  · rw [Lib.decDigits_length, show n.toNat = n.natAbs by omega, Nat.zero_add]

/-! ### Order: numerals of one length -/
theorem bytesLess_snoc : ∀ (x y : List UInt8) (c d : UInt8), x.length = y.length → Op.bytesLess (x ++ [c]) (y ++ [d]) = (Op.bytesLess x y || (x == y && decide (c < d)))
  | [], [], c, d, _ => by simp [Op.bytesLess]
  | a :: x, b :: y, c, d, h => by
    have ih := bytesLess_snoc x y c d (by simpa using h)
    simp only [List.cons_append, Op.bytesLess, ih]
    by_cases e : a = b
    · subst e
      have : ¬ (a < a) := by simp
      simp [this]
    · have e1 : (a == b) = false := by simpa using e
      have e2 : ((a :: x) == (b :: y)) = false := by simp [e]
      rw [e1, e2]; simp
  | [], _ :: _, _, _, h => by simp at h
  | _ :: _, [], _, _, h => by simp at h

theorem decDigits_inj {a b : Nat} (h : Lib.decDigits a = Lib.decDigits b) : a = b := by
  have h1 := dv_decDigits a
  rw [h, dv_decDigits b] at h1
  exact (Option.some.inj h1).symm

theorem dig_lt {a b : Nat} (ha : a < 10) (hb : b < 10) : decide (UInt8.ofNat (48 + a) < UInt8.ofNat (48 + b)) = decide (a < b) := by
  congr 1
  rw [UInt8.lt_iff_toNat_lt, dig_toNat ha, dig_toNat hb, eq_iff_iff]; omega

/-- Of two numerals of one length the greater number's is the greater text. -/
theorem decDigits_less (a : Nat) : ∀ b : Nat, Lib.nDigits a = Lib.nDigits b → Op.bytesLess (Lib.decDigits a) (Lib.decDigits b) = decide (a < b) := by
  induction a using Nat.strongRecOn with
  | _ a ih =>
    intro b h
    by_cases ha : a < 10
    · by_cases hb : b < 10
      · rw [Lib.decDigits_one ha, Lib.decDigits_one hb]
        simp only [Op.bytesLess, Bool.and_false, Bool.or_false]
        exact dig_lt ha hb
      · rw [Lib.nDigits_small ha, Lib.nDigits_big hb] at h
        have := Lib.nDigits_pos (b / 10); omega
    · by_cases hb : b < 10
      · rw [Lib.nDigits_small hb, Lib.nDigits_big ha] at h
        have := Lib.nDigits_pos (a / 10); omega
      · rw [Lib.nDigits_big ha, Lib.nDigits_big hb] at h
        have hl : Lib.nDigits (a / 10) = Lib.nDigits (b / 10) := by omega
        rw [Lib.decDigits, dif_neg ha]
        rw [show Lib.decDigits b = Lib.decDigits (b / 10) ++ [UInt8.ofNat (48 + b % 10)] by rw [Lib.decDigits, dif_neg hb]]
        rw [bytesLess_snoc _ _ _ _ (by rw [Lib.decDigits_length, Lib.decDigits_length, hl]), ih (a / 10) (by omega) _ hl, dig_lt (by omega) (by omega)]
        rw [Bool.eq_iff_iff]
        simp only [Bool.or_eq_true, decide_eq_true_eq, Bool.and_eq_true, beq_iff_eq]
        constructor
        · rintro (h1 | ⟨h1, h2⟩)
          · omega
          · have := decDigits_inj h1; omega
        · intro h1
          by_cases e : a / 10 = b / 10
          · exact .inr ⟨by rw [e], by omega⟩
          · exact .inl (by omega)

theorem itoa_less {a b : Int} (ha : 0 ≤ a) (hb : 0 ≤ b) (h : (Lib.itoa a).length = (Lib.itoa b).length) : Op.bytesLess (Lib.itoa a) (Lib.itoa b) = decide (a < b) := by
  obtain ⟨u, rfl⟩ := Int.eq_ofNat_of_zero_le ha
  obtain ⟨v, rfl⟩ := Int.eq_ofNat_of_zero_le hb
  simp only [Lib.itoa_nonneg, Lib.decDigits_length] at h ⊢
  rw [decDigits_less u v h]
  simp
end Go.Proofs.YtimgkbpiengnjaaGreatDoor.Num
