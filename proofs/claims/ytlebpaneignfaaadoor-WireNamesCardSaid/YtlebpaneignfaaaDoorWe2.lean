/- How many bytes a value has at most: 4200 for each value in it. No program. -/
import Derived.Test.YtlebpaneignfaaaDoorWe1
import Derived.Lib.ItoaLen
namespace Go.Proofs.YtlebpaneignfaaaDoor
open Go.ChangeShapes Go.WideShapes Go.ChangeAt Go.RowKit

theorem sgn_le (b : Bool) : (sgn b).length ≤ 1 := by cases b <;> simp [sgn]
theorem exp_le (neg : Bool) (x : Nat) : (expText neg x).length ≤ 5 := by
  have h : (if x < 10 then [48, dgt x] else if x < 100 then [dgt (x / 10), dgt (x % 10)] else [dgt (x / 100), dgt (x / 10 % 10), dgt (x % 10)]).length ≤ 3 := by
    split
    · simp
    · split <;> simp
  unfold expText
  rw [List.length_append, List.length_append]
  simp only [List.length_singleton]
  omega
theorem mant_le (l : List UInt8) : (mantText l).length ≤ l.length + 2 := by
  unfold mantText
  split
  · simp
  · simp
theorem body_le (r : Nat) (h : r ≤ 9218868437227405312) : (bodyText r).length ≤ 450 := by
  unfold bodyText
  split
  · simp
  · split
    · simp
    · obtain ⟨a, b, c, d⟩ := Sh.short_fits r (by omega) (by omega)
      have hn := Sh.nDigits_20 _ b
      obtain ⟨l1, l2⟩ := Sh.digs_pos _ a
      unfold Sh.nth at a b c d hn l1 l2
      generalize shortDP (r / 4503599627370496) (r % 4503599627370496) = x at *
      split
      · unfold eText
        have h1 := exp_le (decide ((Lib.nDigits x.1 : Int) + x.2 - 1 < 0)) ((Lib.nDigits x.1 : Int) + x.2 - 1).natAbs
        have h2 := mant_le (digs x.1)
        have h3 := sgn_le false
        rw [List.length_append, List.length_append]
        omega
      · unfold fixText
        have h3 := sgn_le false
        simp only []
        split
        · simp only [List.length_append, List.length_replicate, List.length_cons, List.length_nil]; omega
        · split
          · simp only [List.length_append, List.length_take, List.length_drop, List.length_cons, List.length_nil]; omega
          · simp only [List.length_append, List.length_replicate]; omega
theorem textOf_le (r : Nat) : (textOf r).length ≤ 500 := by
  unfold textOf
  split
  · simp
  · have h1 := sgn_le (below r)
    have h2 := body_le (r % 9223372036854775808) (by omega)
    rw [List.length_append]
    omega
theorem itoa_nat_le (n : Nat) (h : n ≤ 4000000000000) : (Lib.itoa (n : Int)).length ≤ 21 := Lib.itoa_length_le (n : Int) (by omega) (by omega)
theorem line_len (m : UInt8) (s : List UInt8) : (lineOf m s).length = s.length + 3 := by unfold lineOf; simp
theorem long_len (m : UInt8) (s : List UInt8) (h : s.length ≤ 4096) : (longOf m s).length ≤ 4122 := by
  have := itoa_nat_le s.length (by omega)
  unfold longOf
  rw [List.length_append, line_len, List.length_append]
  simp
  omega
theorem cat_len (g : Nat → List UInt8) (h : Nat → Nat) (n : Nat) (H : ∀ i, i < n → (g i).length ≤ 4200 * h i) : (catTo g n).length ≤ 4200 * sumTo h n := by
  induction n with
  | zero => exact Nat.le_refl _
  | succ n ih =>
    have h1 := ih fun i hi => H i (by omega)
    have h2 := H n (by omega)
    rw [catTo_succ, sumTo_succ, List.length_append]
    omega
theorem vcount_eq (k : Int) (t : ByteArray) (z : Int) (r : Nat) (f : Bool) (a : Option Addr) (c n : Nat) (K : Nat → Val) : (Val.mk k t z r f a c n K).count = 1 + sumTo (fun i => (K i).count) n := rfl
theorem enc_len (old : Bool) : ∀ (v : Val), okV v → (encV old v).length ≤ 4200 * v.count := by
  intro v
  induction v with
  | no => exact fun h => h.elim
  | mk k t z r f a c n K ih =>
    intro hx
    obtain ⟨hx1, ⟨-, hz0, hz1, hn⟩, hx3⟩ := hx
    obtain ⟨-, -, -, p4, -⟩ := head_parts hx1
    have hk := text_kind p4
    have ht := text_len p4
    have hcat := cat_len (fun i => encV old (K i)) (fun i => (K i).count) n fun i hi => ih i (hx3 i hi)
    have hz := Lib.itoa_length_le z hz0 hz1
    have hnn := itoa_nat_le n hn
    have hn2 := itoa_nat_le (n / 2) (by omega)
    have hr := textOf_le r
    rw [vcount_eq]
    generalize sumTo (fun i => (K i).count) n = tot at *
    have hcases : k = 1 ∨ k = 2 ∨ k = 3 ∨ k = 4 ∨ k = 5 ∨ k = 6 ∨ k = 7 ∨ k = 8 ∨ k = 9 ∨ k = 10 ∨ k = 11 ∨ k = 12 ∨ k = 13 ∨ k = 14 := by omega
    rcases hcases with rfl | rfl | rfl | rfl | rfl | rfl | rfl | rfl | rfl | rfl | rfl | rfl | rfl | rfl
    · rw [enc_1, line_len]; omega
    · rw [enc_2, line_len]; omega
    · rw [enc_3, line_len]; omega
    · rw [enc_4]; have := long_len 36 _ ht; omega
    · rw [enc_5, List.length_append, line_len]; omega
    · rw [enc_6]; cases old <;> (simp; omega)
    · rw [enc_7, line_len]; omega
    · rw [enc_8, line_len]; cases f <;> (simp; omega)
    · rw [enc_9, line_len]; omega
    · rw [enc_10]; have := long_len 33 _ ht; omega
    · rw [enc_11]; have := long_len 61 _ ht; omega
    · rw [enc_12, List.length_append, line_len]; omega
    · rw [enc_13, List.length_append, line_len]; omega
    · rw [enc_14, List.length_append, line_len]; omega
end Go.Proofs.YtlebpaneignfaaaDoor
