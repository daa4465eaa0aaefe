/- A number's text says its digits and its power of ten: unlike numbers have unlike texts, and no line ends within one. No condition. -/
import Derived.Test.YtlebpaneignfaaaDoorFm2
import Derived.Test.YtlebpaneignfaaaDoorFe6
namespace Go.Proofs.YtlebpaneignfaaaDoor.Sh
open Go
/-- The number that these digits write. -/
def valN (l : List UInt8) : Nat := l.foldl (fun a c => a * 10 + (c.toNat - 48)) 0
theorem valN_snoc (l : List UInt8) (c : UInt8) : valN (l ++ [c]) = valN l * 10 + (c.toNat - 48) := by
  unfold valN
  rw [List.foldl_append]
  rfl
theorem valN_dec (n : Nat) : valN (Lib.decDigits n) = n := by
  induction n using Nat.strongRecOn with
  | _ n ih =>
    rw [Lib.decDigits]
    by_cases h : n < 10
    · rw [dif_pos h]
      have : ∀ k : Fin 10, valN [UInt8.ofNat (48 + k.val)] = k.val := by decide
      exact this ⟨n, h⟩
    · rw [dif_neg h, valN_snoc, ih (n / 10) (by omega)]
      have : ∀ k : Fin 10, (UInt8.ofNat (48 + k.val)).toNat - 48 = k.val := by decide
      have := this ⟨n % 10, by omega⟩
      simp only [] at this
      omega
theorem short_fits (r : Nat) (h0 : 1 ≤ r) (h1 : r < 9218868437227405312) : 1 ≤ (nth r).1 ∧ (nth r).1 < 18446744073709551616 ∧ -400 ≤ (nth r).2 ∧ (nth r).2 ≤ 400 := by
  unfold nth
  by_cases he : r / 4503599627370496 = 0
  · rw [he]
    exact short_fits_sub (r % 4503599627370496) _ (by omega) (by omega) rfl
  · exact short_fits_normal (r / 4503599627370496) (r % 4503599627370496) (by omega) (by omega) (by omega)
/-! Numbers of digits. -/
def digit (c : UInt8) : Bool := decide (48 ≤ c.toNat ∧ c.toNat ≤ 57)
theorem valN_acc (b : List UInt8) : ∀ x, b.foldl (fun a c => a * 10 + (c.toNat - 48)) x = x * 10 ^ b.length + valN b := by
  induction b with
  | nil => intro x; simp [valN]
  | cons c b ih =>
    intro x
    have h : valN (c :: b) = (0 * 10 + (c.toNat - 48)) * 10 ^ b.length + valN b := ih _
    rw [List.foldl_cons, ih, h, List.length_cons, Nat.pow_succ, Nat.add_mul, Nat.add_mul, Nat.zero_mul, Nat.mul_assoc x, Nat.mul_comm 10]
    omega
theorem valN_app (a b : List UInt8) : valN (a ++ b) = valN a * 10 ^ b.length + valN b := by
  show (a ++ b).foldl _ 0 = _
  rw [List.foldl_append, valN_acc]
  rfl
theorem valN_zeros (k : Nat) : valN (List.replicate k 48) = 0 := by
  induction k with
  | zero => rfl
  | succ k ih =>
    rw [List.replicate_succ', valN_snoc, ih]; rfl
theorem valN_cons (c : UInt8) (l : List UInt8) : valN (c :: l) = (c.toNat - 48) * 10 ^ l.length + valN l := by
  have := valN_app [c] l
  rw [show [c] ++ l = c :: l from rfl] at this
  rw [this]
  congr 2
  show 0 * 10 + (c.toNat - 48) = _
  omega

theorem dec_digit (n : Nat) : ∀ c ∈ Lib.decDigits n, digit c = true := by
  induction n using Nat.strongRecOn with
  | _ n ih =>
    have hk : ∀ k : Fin 10, digit (UInt8.ofNat (48 + k.val)) = true := by decide
    rw [Lib.decDigits]
    by_cases h : n < 10
    · rw [dif_pos h]
      intro c hc
      rw [List.mem_singleton] at hc
      subst hc
      exact hk ⟨n, h⟩
    · rw [dif_neg h]
      intro c hc
      rcases List.mem_append.1 hc with h1 | h1
      · exact ih (n / 10) (by omega) c h1
      · rw [List.mem_singleton] at h1
        subst h1
        exact hk ⟨n % 10, by omega⟩
theorem digs_digit (d : Nat) : ∀ c ∈ digs d, digit c = true := fun c hc => dec_digit d c (List.mem_of_mem_take hc)
/-- The digits that count, and the noughts behind them. -/
theorem strip_zeros (ds : List UInt8) : ∀ k, k ≤ ds.length → ds.take k = ds.take (stripTo ds k) ++ List.replicate (k - stripTo ds k) 48
  | 0, _ => by simp [stripTo]
  | k + 1, h => by
    have hl := stripTo_le ds k
    unfold stripTo
    split
    · rename_i h8
      have ih := strip_zeros ds k (by omega)
      rw [List.take_succ_eq_append_getElem (by omega), ih, show k + 1 - stripTo ds k = (k - stripTo ds k) + 1 by omega, List.replicate_succ', List.append_assoc]
      congr 2
      rw [List.getD_eq_getElem?_getD, List.getElem?_eq_getElem (by omega)] at h8
      simpa using h8
    · simp
theorem digs_val (d : Nat) : d = valN (digs d) * 10 ^ (Lib.nDigits d - (digs d).length) := by
  have hlen : (Lib.decDigits d).length = Lib.nDigits d := Lib.decDigits_length d
  have hs := strip_zeros (Lib.decDigits d) (Lib.nDigits d) (by omega)
  have hle := stripTo_le (Lib.decDigits d) (Lib.nDigits d)
  have hdl : (digs d).length = stripTo (Lib.decDigits d) (Lib.nDigits d) := by unfold digs; rw [List.length_take]; omega
  rw [List.take_of_length_le (by omega)] at hs
  have h1 : valN (Lib.decDigits d) = valN (digs d) * 10 ^ (Lib.nDigits d - (digs d).length) := by
    rw [hs, valN_app, List.length_replicate, valN_zeros, hdl]
    rfl
  rw [valN_dec] at h1
  exact h1

/-- What a text of digits, with a point and a power of ten or without, says: its number times ten to the 400. -/
def headD (l : List UInt8) : List UInt8 := l.takeWhile digit
def tailD (l : List UInt8) : List UInt8 := l.dropWhile digit
def expOf : List UInt8 → Int
  | 101 :: 45 :: l => -(valN (headD l) : Int)
  | 101 :: 43 :: l => (valN (headD l) : Int)
  | _ => 0
def txtVal (t : List UInt8) : Nat :=
  match tailD t with
  | 46 :: l => valN (headD t ++ headD l) * 10 ^ (500 + expOf (tailD l) - (headD l).length).toNat
  | l => valN (headD t) * 10 ^ (500 + expOf l).toNat

theorem head_of {a b : List UInt8} (ha : ∀ c ∈ a, digit c = true) (hb : ∀ c r, b = c :: r → digit c = false) : headD (a ++ b) = a ∧ tailD (a ++ b) = b := by
  unfold headD tailD
  induction a with
  | nil =>
    cases b with
    | nil => exact ⟨rfl, rfl⟩
    | cons c r =>
      have := hb c r rfl
      rw [List.nil_append, List.takeWhile_cons, List.dropWhile_cons, this]
      exact ⟨rfl, rfl⟩
  | cons c r ih =>
    have h1 := ha c (List.mem_cons_self ..)
    have h2 := ih fun c' hc => ha c' (List.mem_cons_of_mem _ hc)
    rw [List.cons_append, List.takeWhile_cons, List.dropWhile_cons, h1]
    exact ⟨by rw [if_pos rfl, h2.1], by rw [if_pos rfl, h2.2]⟩
theorem head_all {a : List UInt8} (ha : ∀ c ∈ a, digit c = true) : headD a = a ∧ tailD a = [] := by
  have := head_of (b := []) ha (fun c r h => by cases h)
  simpa using this

theorem txt_whole {a : List UInt8} (ha : ∀ c ∈ a, digit c = true) : txtVal a = valN a * 10 ^ (500 + expOf []).toNat := by
  obtain ⟨h1, h2⟩ := head_all ha
  unfold txtVal
  rw [h2, h1]
theorem txt_point {a b : List UInt8} (ha : ∀ c ∈ a, digit c = true) (hb : ∀ c ∈ b, digit c = true) (hl : b.length ≤ 500) : txtVal (a ++ 46 :: b) = valN (a ++ b) * 10 ^ (500 - b.length) := by
  obtain ⟨h1, h2⟩ := head_of (b := 46 :: b) ha (fun c r h => by injection h with h _; subst h; decide)
  obtain ⟨h3, h4⟩ := head_all hb
  unfold txtVal
  rw [h2, h1]
  simp only []
  rw [h3, h4]
  show _ * 10 ^ (500 + 0 - (b.length : Int)).toNat = _
  rw [show (500 + 0 - (b.length : Int)).toNat = 500 - b.length by omega]
theorem txt_exp {a b x : List UInt8} (ha : ∀ c ∈ a, digit c = true) (hb : ∀ c ∈ b, digit c = true) (hx : ∃ s r, x = 101 :: s :: r) : txtVal (a ++ 46 :: (b ++ x)) = valN (a ++ b) * 10 ^ (500 + expOf x - b.length).toNat := by
  obtain ⟨s, r, rfl⟩ := hx
  obtain ⟨h1, h2⟩ := head_of (b := 46 :: (b ++ 101 :: s :: r)) ha (fun c r h => by injection h with h _; subst h; decide)
  obtain ⟨h3, h4⟩ := head_of (b := 101 :: s :: r) hb (fun c r h => by injection h with h _; subst h; decide)
  unfold txtVal
  rw [h2, h1]
  simp only []
  rw [h3, h4]
theorem txt_exp0 {a x : List UInt8} (ha : ∀ c ∈ a, digit c = true) (hx : ∃ s r, x = 101 :: s :: r) : txtVal (a ++ x) = valN a * 10 ^ (500 + expOf x).toNat := by
  obtain ⟨s, r, rfl⟩ := hx
  obtain ⟨h1, h2⟩ := head_of (b := 101 :: s :: r) ha (fun c r h => by injection h with h _; subst h; decide)
  unfold txtVal
  rw [h2, h1]
  split
  · rename_i h; injection h with h _; cases h
  · rfl

theorem expOf_text (neg : Bool) (x : Nat) (hx : x ≤ 999) : expOf (expText neg x) = if neg then -(x : Int) else x := by
  have hd : ∀ n, n ≤ 9 → digit (dgt n) = true := fun n h => by unfold digit; rw [dgt_toNat n h]; simp; omega
  have hz : digit 48 = true := by decide
  have key : ∀ l : List UInt8, (∀ c ∈ l, digit c = true) → valN l = x → expOf ([101] ++ [if neg then 45 else 43] ++ l) = if neg then -(x : Int) else x := by
    intro l hl hv
    obtain ⟨h1, _⟩ := head_all hl
    cases neg
    · show ((valN (headD l) : Nat) : Int) = (x : Int); rw [h1, hv]
    · show -((valN (headD l) : Nat) : Int) = -(x : Int); rw [h1, hv]
  unfold expText
  apply key
  · split
    · intro c hc
      simp only [List.mem_cons, List.not_mem_nil, or_false] at hc
      rcases hc with rfl | rfl
      · exact hz
      · exact hd _ (by omega)
    · split
      · intro c hc
        simp only [List.mem_cons, List.not_mem_nil, or_false] at hc
        rcases hc with rfl | rfl <;> exact hd _ (by omega)
      · intro c hc
        simp only [List.mem_cons, List.not_mem_nil, or_false] at hc
        rcases hc with rfl | rfl | rfl <;> exact hd _ (by omega)
  · split
    · show (0 * 10 + ((48 : UInt8).toNat - 48)) * 10 + ((dgt x).toNat - 48) = x
      rw [dgt_toNat _ (by omega)]
      show (0 * 10 + (48 - 48)) * 10 + (48 + x - 48) = x
      omega
    · split
      · show (0 * 10 + ((dgt (x / 10)).toNat - 48)) * 10 + ((dgt (x % 10)).toNat - 48) = x
        rw [dgt_toNat _ (by omega), dgt_toNat _ (by omega)]
        omega
      · show ((0 * 10 + ((dgt (x / 100)).toNat - 48)) * 10 + ((dgt (x / 10 % 10)).toNat - 48)) * 10 + ((dgt (x % 10)).toNat - 48) = x
        rw [dgt_toNat _ (by omega), dgt_toNat _ (by omega), dgt_toNat _ (by omega)]
        omega

theorem digs_pos (d : Nat) (h : 1 ≤ d) : 1 ≤ (digs d).length ∧ (digs d).length ≤ Lib.nDigits d := by
  have hlen : (Lib.decDigits d).length = Lib.nDigits d := Lib.decDigits_length d
  have hle := stripTo_le (Lib.decDigits d) (Lib.nDigits d)
  have hp := stripTo_pos (Lib.decDigits d) (decDigits_head d h) (Lib.nDigits d) (Lib.nDigits_pos d)
  unfold digs
  rw [List.length_take]
  omega

theorem valD_digs (d : Nat) (p : Int) (h1 : 1 ≤ d) (hp0 : -400 ≤ p) : valD (d, p) * 10 ^ 100 = valN (digs d) * 10 ^ (500 + ((Lib.nDigits d : Int) + p) - ((digs d).length : Nat)).toNat := by
  have hl := digs_pos d h1
  unfold valD
  show d * 10 ^ (p + 400).toNat * 10 ^ 100 = _
  conv => lhs; rw [digs_val d]
  rw [Nat.mul_assoc, Nat.mul_assoc, ← Nat.pow_add, ← Nat.pow_add]
  congr 2
  omega
theorem txt_fix (d : Nat) (p : Int) (h1 : 1 ≤ d) (hp0 : -400 ≤ p) (_hn : Lib.nDigits d ≤ 20) : txtVal (fixText false d p) = valD (d, p) * 10 ^ 100 := by
  have hl := digs_pos d h1
  have hd := digs_digit d
  have hnp := Lib.nDigits_pos d
  rw [valD_digs d p h1 hp0]
  unfold fixText
  simp only []
  generalize hdp : (Lib.nDigits d : Int) + p = dp at *
  have hz48 : digit 48 = true := by decide
  split
  · rename_i h
    have e : sgn false ++ [48, 46] ++ List.replicate (-dp).toNat 48 ++ digs d = [48] ++ 46 :: (List.replicate (-dp).toNat 48 ++ digs d) := by simp [sgn]
    rw [e, txt_point (by simp [hz48]) (fun c hc => by
      rcases List.mem_append.1 hc with q | q
      · rw [(List.mem_replicate.1 q).2]; exact hz48
      · exact hd c q) (by rw [List.length_append, List.length_replicate]; omega)]
    rw [← List.append_assoc, valN_app, show [48] ++ List.replicate (-dp).toNat 48 = List.replicate ((-dp).toNat + 1) (48 : UInt8) from rfl, valN_zeros, Nat.zero_mul, Nat.zero_add, List.length_append, List.length_replicate]
    congr 2
    omega
  · split
    · rename_i h h2
      have e : sgn false ++ (digs d).take dp.toNat ++ [46] ++ (digs d).drop dp.toNat = (digs d).take dp.toNat ++ 46 :: (digs d).drop dp.toNat := by simp [sgn]
      rw [e, txt_point (fun c hc => hd c (List.mem_of_mem_take hc)) (fun c hc => hd c (List.mem_of_mem_drop hc)) (by rw [List.length_drop]; omega), List.take_append_drop, List.length_drop]
      congr 2
      omega
    · rename_i h h2
      have e : sgn false ++ digs d ++ List.replicate (dp.toNat - (digs d).length) 48 = digs d ++ List.replicate (dp.toNat - (digs d).length) 48 := by simp [sgn]
      rw [e, txt_whole (fun c hc => by
        rcases List.mem_append.1 hc with q | q
        · exact hd c q
        · rw [(List.mem_replicate.1 q).2]; exact hz48), valN_app, valN_zeros, List.length_replicate, Nat.add_zero, Nat.mul_assoc, ← Nat.pow_add, show expOf [] = 0 from rfl]
      congr 2
      omega
theorem txt_e (d : Nat) (p : Int) (h1 : 1 ≤ d) (hp0 : -400 ≤ p) (hp1 : p ≤ 400) (hn : Lib.nDigits d ≤ 20) : txtVal (eText false d p) = valD (d, p) * 10 ^ 100 := by
  have hl := digs_pos d h1
  have hd := digs_digit d
  rw [valD_digs d p h1 hp0]
  unfold eText
  have hnp := Lib.nDigits_pos d
  generalize hdp : (Lib.nDigits d : Int) + p = dp at *
  have hE := expOf_text (decide (dp - 1 < 0)) (dp - 1).natAbs (by omega)
  have hE2 : expOf (expText (decide (dp - 1 < 0)) (dp - 1).natAbs) = dp - 1 := by
    rw [hE]
    by_cases q : dp - 1 < 0
    · rw [decide_eq_true q, if_pos rfl]; omega
    · rw [decide_eq_false q, if_neg (by decide)]; omega
  have hshape : ∃ s r, expText (decide (dp - 1 < 0)) (dp - 1).natAbs = 101 :: s :: r := ⟨_, _, rfl⟩
  generalize expText (decide (dp - 1 < 0)) (dp - 1).natAbs = x at *
  obtain ⟨c, r, hcr⟩ : ∃ c r, digs d = c :: r := by
    cases h : digs d with
    | nil => rw [h] at hl; simp at hl
    | cons c r => exact ⟨c, r, rfl⟩
  rw [hcr] at hl hd ⊢
  have hc : ∀ c' ∈ [c], digit c' = true := fun c' h => hd c' (by rw [List.mem_singleton] at h; subst h; exact List.mem_cons_self ..)
  unfold mantText
  by_cases hr : (c :: r).length ≤ 1
  · have : r = [] := by
      rw [List.length_cons] at hr
      exact List.eq_nil_of_length_eq_zero (by omega)
    subst this
    rw [if_pos hr]
    show txtVal ([c] ++ x) = _
    rw [txt_exp0 hc hshape, hE2]
    congr 2
    rw [List.length_singleton]; omega
  · rw [if_neg hr]
    have e : sgn false ++ ([(c :: r).getD 0 0] ++ [46] ++ (c :: r).drop 1) ++ x = [c] ++ 46 :: (r ++ x) := by simp [sgn]
    rw [e, txt_exp hc (fun c' h => hd c' (List.mem_cons_of_mem _ h)) hshape, hE2]
    congr 2
    rw [List.length_cons]; omega

theorem nDigits_20 (u : Nat) (h : u < 18446744073709551616) : Lib.nDigits u ≤ 20 := Lib.nDigits_le20 u h
theorem body_val (r : Nat) (h0 : 1 ≤ r) (h1 : r < 9218868437227405312) : txtVal (bodyText r) = valD (nth r) * 10 ^ 100 := by
  obtain ⟨a, b, c, d⟩ := short_fits r h0 h1
  have hn := nDigits_20 _ b
  unfold bodyText
  rw [if_neg (by omega), if_neg (by omega)]
  split
  · exact txt_e (nth r).1 (nth r).2 a c d hn
  · exact txt_fix (nth r).1 (nth r).2 a c hn
theorem digs_cons (d : Nat) (h : 1 ≤ d) : ∃ c l, digs d = c :: l ∧ digit c = true := by
  have hl := digs_pos d h
  cases hc : digs d with
  | nil => rw [hc] at hl; simp at hl
  | cons c l => exact ⟨c, l, rfl, digs_digit d c (by rw [hc]; exact List.mem_cons_self ..)⟩
theorem e_head (d : Nat) (p : Int) (h : 1 ≤ d) : ∃ c l, eText false d p = c :: l ∧ digit c = true := by
  obtain ⟨c, l, hc, hd⟩ := digs_cons d h
  unfold eText mantText
  rw [hc]
  split
  · exact ⟨c, _, rfl, hd⟩
  · exact ⟨c, _, rfl, hd⟩
theorem fix_head (d : Nat) (p : Int) (h : 1 ≤ d) : ∃ c l, fixText false d p = c :: l ∧ digit c = true := by
  obtain ⟨c, l, hc, hd⟩ := digs_cons d h
  unfold fixText
  rw [hc]
  simp only []
  generalize (Lib.nDigits d : Int) + p = dp
  split
  · exact ⟨48, _, rfl, by decide⟩
  · split
    · obtain ⟨k, hk⟩ : ∃ k, dp.toNat = k + 1 := ⟨dp.toNat - 1, by omega⟩
      rw [hk]
      exact ⟨c, _, rfl, hd⟩
    · exact ⟨c, _, rfl, hd⟩
theorem body_head (r : Nat) (h : r < 9218868437227405312) : ∃ c l, bodyText r = c :: l ∧ digit c = true := by
  unfold bodyText
  rw [if_neg (by omega)]
  by_cases h0 : r = 0
  · rw [if_pos h0]; exact ⟨48, [], rfl, by decide⟩
  · rw [if_neg h0]
    have a := (short_fits r (by omega) h).1
    split
    · exact e_head (nth r).1 (nth r).2 a
    · exact fix_head (nth r).1 (nth r).2 a
theorem body_inf : bodyText 9218868437227405312 = [105, 110, 102] := by
  unfold bodyText
  rw [if_pos rfl]
theorem body_zero : bodyText 0 = [48] := by
  unfold bodyText
  rw [if_neg (by omega), if_pos rfl]
theorem zero_apart (b : Nat) (h0 : 1 ≤ b) (h1 : b < 9218868437227405312) : bodyText b ≠ [48] := by
  intro h
  have hv := body_val b h0 h1
  rw [h, show txtVal [48] = 0 by rw [txt_whole (by decide)]; rw [show valN [48] = 0 from rfl, Nat.zero_mul]] at hv
  obtain ⟨a, -, c, -⟩ := short_fits b h0 h1
  have h2 : 0 < valD (nth b) := Nat.mul_pos (by omega) (Nat.pow_pos (by omega))
  have h3 : 0 < valD (nth b) * 10 ^ 100 := Nat.mul_pos h2 (Nat.pow_pos (by omega))
  omega
theorem inf_apart (b : Nat) (h1 : b < 9218868437227405312) : bodyText b ≠ [105, 110, 102] := by
  intro h
  obtain ⟨c, l, e, hd⟩ := body_head b h1
  rw [e] at h
  injection h with h _
  subst h
  exact absurd hd (by decide)
/-- Unlike numbers have unlike texts. -/
theorem body_inj {a b : Nat} (ha : a ≤ 9218868437227405312) (hb : b ≤ 9218868437227405312) (h : bodyText a = bodyText b) : a = b := by
  by_cases ea : a = 9218868437227405312
  · by_cases eb : b = 9218868437227405312
    · omega
    · subst ea
      rw [body_inf] at h
      exact absurd h.symm (inf_apart b (by omega))
  · by_cases eb : b = 9218868437227405312
    · subst eb
      rw [body_inf] at h
      exact absurd h (inf_apart a (by omega))
    · by_cases za : a = 0
      · by_cases zb : b = 0
        · omega
        · subst za
          rw [body_zero] at h
          exact absurd h.symm (zero_apart b (by omega) (by omega))
      · by_cases zb : b = 0
        · subst zb
          rw [body_zero] at h
          exact absurd h (zero_apart a (by omega) (by omega))
        · have h1 := body_val a (by omega) (by omega)
          rw [h, body_val b (by omega) (by omega)] at h1
          exact val_inj (by omega) (by omega) (by omega) (by omega) (Nat.eq_of_mul_eq_mul_right (Nat.pow_pos (by omega)) h1.symm)

/-! No line ends within a number's text. -/
def plainC (c : UInt8) : Bool := decide (43 ≤ c.toNat)
theorem digit_plain {c : UInt8} (h : digit c = true) : plainC c = true := by
  unfold digit at h
  unfold plainC
  rw [decide_eq_true_eq] at h ⊢
  omega
theorem dgt_plain (n : Nat) (h : n ≤ 9) : plainC (dgt n) = true := by unfold plainC; rw [dgt_toNat n h, decide_eq_true_eq]; omega
theorem all_app {p : UInt8 → Bool} {a b : List UInt8} (ha : a.all p = true) (hb : b.all p = true) : (a ++ b).all p = true := by rw [List.all_append, ha, hb]; rfl
theorem digs_plain (d : Nat) : (digs d).all plainC = true := List.all_eq_true.2 fun c hc => digit_plain (digs_digit d c hc)
theorem exp_plain (neg : Bool) (x : Nat) (hx : x ≤ 999) : (expText neg x).all plainC = true := by
  unfold expText
  refine all_app (all_app (by decide) (by cases neg <;> decide)) ?_
  split
  · show (plainC 48 && (plainC (dgt x) && true)) = true
    rw [dgt_plain _ (by omega)]; decide
  · split
    · show (plainC _ && (plainC _ && true)) = true
      rw [dgt_plain _ (by omega), dgt_plain _ (by omega)]; rfl
    · show (plainC _ && (plainC _ && (plainC _ && true))) = true
      rw [dgt_plain _ (by omega), dgt_plain _ (by omega), dgt_plain _ (by omega)]; rfl
theorem all_sub {p : UInt8 → Bool} {a b : List UInt8} (hs : ∀ c ∈ a, c ∈ b) (hb : b.all p = true) : a.all p = true := List.all_eq_true.2 fun c hc => List.all_eq_true.1 hb c (hs c hc)
theorem mant_plain (c : UInt8) (r : List UInt8) (h : (c :: r).all plainC = true) : (mantText (c :: r)).all plainC = true := by
  rw [List.all_cons, Bool.and_eq_true] at h
  unfold mantText
  split
  · show (plainC c && true) = true
    rw [h.1]; rfl
  · refine all_app (all_app ?_ (by decide)) h.2
    show (plainC c && true) = true
    rw [h.1]; rfl
theorem e_plain (d : Nat) (p : Int) (h1 : 1 ≤ d) (hp0 : -400 ≤ p) (hp1 : p ≤ 400) (hn : Lib.nDigits d ≤ 20) : (eText false d p).all plainC = true := by
  have hd := digs_plain d
  obtain ⟨c, l, hc, -⟩ := digs_cons d h1
  unfold eText
  rw [hc] at hd ⊢
  exact all_app (all_app (by decide) (mant_plain c l hd)) (exp_plain _ _ (by omega))
theorem zeros_plain (k : Nat) : (List.replicate k (48 : UInt8)).all plainC = true := List.all_eq_true.2 fun c hc => by rw [(List.mem_replicate.1 hc).2]; decide
theorem fix_plain (d : Nat) (p : Int) : (fixText false d p).all plainC = true := by
  have hd := digs_plain d
  unfold fixText
  simp only []
  split
  · exact all_app (all_app (by decide) (zeros_plain _)) hd
  · split
    · exact all_app (all_app (all_app (by decide) (all_sub (fun c hc => List.mem_of_mem_take hc) hd)) (by decide)) (all_sub (fun c hc => List.mem_of_mem_drop hc) hd)
    · exact all_app (all_app (by decide) hd) (zeros_plain _)
theorem body_plain (r : Nat) (h1 : r ≤ 9218868437227405312) : (bodyText r).all plainC = true := by
  unfold bodyText
  split
  · decide
  · rename_i hi
    split
    · decide
    · rename_i h0
      obtain ⟨a, b, c, d⟩ := short_fits r (by omega) (by omega)
      split
      · exact e_plain (nth r).1 (nth r).2 a c d (nDigits_20 _ b)
      · exact fix_plain (nth r).1 (nth r).2
end Go.Proofs.YtlebpaneignfaaaDoor.Sh
