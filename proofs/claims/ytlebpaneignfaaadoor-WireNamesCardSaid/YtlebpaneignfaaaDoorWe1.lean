/- What a value is as bytes, as a plain function (no program): one's bytes are the beginning of another's, whatever follows, just where the two are the same. (Written by tools/gen_we1.py.) -/
import Derived.Test.YtlebpaneignfaaaDoorFm3
import Derived.Test.YtlebpaneignfaaaDoorNum
import Derived.Test.YtlebpaneignfaaaDoorVc2
import Derived.Test.YtlebpaneignfaaaDoorVb2
namespace Go.Proofs.YtlebpaneignfaaaDoor
open Go.ChangeShapes Go.WideShapes Go.ChangeAt Go.RowKit

def catTo (g : Nat → List UInt8) : Nat → List UInt8
  | 0 => []
  | i + 1 => catTo g i ++ g i
theorem catTo_succ (g : Nat → List UInt8) (i : Nat) : catTo g (i + 1) = catTo g i ++ g i := rfl
/-- A number with a point, whichever bits, as package real writes it. -/
def textOf (r : Nat) : List UInt8 := if 9218868437227405312 < r % 9223372036854775808 then [110, 97, 110] else sgn (below r) ++ bodyText (r % 9223372036854775808)
def lineOf (m : UInt8) (s : List UInt8) : List UInt8 := m :: (s ++ [13, 10])
def longOf (m : UInt8) (s : List UInt8) : List UInt8 := lineOf m (Lib.itoa (s.length : Nat)) ++ (s ++ [13, 10])
/-- A value as bytes, as older readers know it or as new ones do. -/
def encV (old : Bool) : Val → List UInt8
  | .no => []
  | .mk k t z r f _ _ n K =>
    if k = 1 then lineOf 43 t.data.toList
    else if k = 2 then lineOf 45 t.data.toList
    else if k = 9 then lineOf 40 t.data.toList
    else if k = 3 then lineOf 58 (Lib.itoa z)
    else if k = 7 then lineOf 44 (textOf r)
    else if k = 8 then lineOf 35 (if f then [116] else [102])
    else if k = 6 then (if old then [36, 45, 49, 13, 10] else [95, 13, 10])
    else if k = 4 then longOf 36 t.data.toList
    else if k = 10 then longOf 33 t.data.toList
    else if k = 11 then longOf 61 t.data.toList
    else if k = 12 then lineOf 37 (Lib.itoa ((n / 2 : Nat) : Int)) ++ catTo (fun i => encV old (K i)) n
    else if k = 5 then lineOf 42 (Lib.itoa (n : Nat)) ++ catTo (fun i => encV old (K i)) n
    else if k = 13 then lineOf 126 (Lib.itoa (n : Nat)) ++ catTo (fun i => encV old (K i)) n
    else if k = 14 then lineOf 62 (Lib.itoa (n : Nat)) ++ catTo (fun i => encV old (K i)) n
    else []
theorem enc_1 (old : Bool) (t : ByteArray) (z : Int) (r : Nat) (f : Bool) (a : Option Addr) (c n : Nat) (K : Nat → Val) : encV old (.mk 1 t z r f a c n K) = lineOf 43 t.data.toList := rfl
theorem enc_2 (old : Bool) (t : ByteArray) (z : Int) (r : Nat) (f : Bool) (a : Option Addr) (c n : Nat) (K : Nat → Val) : encV old (.mk 2 t z r f a c n K) = lineOf 45 t.data.toList := rfl
theorem enc_9 (old : Bool) (t : ByteArray) (z : Int) (r : Nat) (f : Bool) (a : Option Addr) (c n : Nat) (K : Nat → Val) : encV old (.mk 9 t z r f a c n K) = lineOf 40 t.data.toList := rfl
theorem enc_3 (old : Bool) (t : ByteArray) (z : Int) (r : Nat) (f : Bool) (a : Option Addr) (c n : Nat) (K : Nat → Val) : encV old (.mk 3 t z r f a c n K) = lineOf 58 (Lib.itoa z) := rfl
theorem enc_7 (old : Bool) (t : ByteArray) (z : Int) (r : Nat) (f : Bool) (a : Option Addr) (c n : Nat) (K : Nat → Val) : encV old (.mk 7 t z r f a c n K) = lineOf 44 (textOf r) := rfl
theorem enc_8 (old : Bool) (t : ByteArray) (z : Int) (r : Nat) (f : Bool) (a : Option Addr) (c n : Nat) (K : Nat → Val) : encV old (.mk 8 t z r f a c n K) = lineOf 35 (if f then [116] else [102]) := rfl
theorem enc_6 (old : Bool) (t : ByteArray) (z : Int) (r : Nat) (f : Bool) (a : Option Addr) (c n : Nat) (K : Nat → Val) : encV old (.mk 6 t z r f a c n K) = (if old then [36, 45, 49, 13, 10] else [95, 13, 10]) := rfl
theorem enc_4 (old : Bool) (t : ByteArray) (z : Int) (r : Nat) (f : Bool) (a : Option Addr) (c n : Nat) (K : Nat → Val) : encV old (.mk 4 t z r f a c n K) = longOf 36 t.data.toList := rfl
theorem enc_10 (old : Bool) (t : ByteArray) (z : Int) (r : Nat) (f : Bool) (a : Option Addr) (c n : Nat) (K : Nat → Val) : encV old (.mk 10 t z r f a c n K) = longOf 33 t.data.toList := rfl
theorem enc_11 (old : Bool) (t : ByteArray) (z : Int) (r : Nat) (f : Bool) (a : Option Addr) (c n : Nat) (K : Nat → Val) : encV old (.mk 11 t z r f a c n K) = longOf 61 t.data.toList := rfl
theorem enc_12 (old : Bool) (t : ByteArray) (z : Int) (r : Nat) (f : Bool) (a : Option Addr) (c n : Nat) (K : Nat → Val) : encV old (.mk 12 t z r f a c n K) = lineOf 37 (Lib.itoa ((n / 2 : Nat) : Int)) ++ catTo (fun i => encV old (K i)) n := rfl
theorem enc_5 (old : Bool) (t : ByteArray) (z : Int) (r : Nat) (f : Bool) (a : Option Addr) (c n : Nat) (K : Nat → Val) : encV old (.mk 5 t z r f a c n K) = lineOf 42 (Lib.itoa (n : Nat)) ++ catTo (fun i => encV old (K i)) n := rfl
theorem enc_13 (old : Bool) (t : ByteArray) (z : Int) (r : Nat) (f : Bool) (a : Option Addr) (c n : Nat) (K : Nat → Val) : encV old (.mk 13 t z r f a c n K) = lineOf 126 (Lib.itoa (n : Nat)) ++ catTo (fun i => encV old (K i)) n := rfl
theorem enc_14 (old : Bool) (t : ByteArray) (z : Int) (r : Nat) (f : Bool) (a : Option Addr) (c n : Nat) (K : Nat → Val) : encV old (.mk 14 t z r f a c n K) = lineOf 62 (Lib.itoa (n : Nat)) ++ catTo (fun i => encV old (K i)) n := rfl

/-- A value that can be: what it has is its own, and all in it likewise. -/
def okV : Val → Prop
  | .no => False
  | .mk k t z r f _ _ n K => headB k t z r f n = true ∧ (r < 18446744073709551616 ∧ -9223372036854775808 ≤ z ∧ z ≤ 9223372036854775807 ∧ n ≤ 4000000000000) ∧ ∀ i, i < n → okV (K i)

theorem split13 : ∀ {a b x y : List UInt8}, (∀ c ∈ a, c ≠ 13) → (∀ c ∈ b, c ≠ 13) → a ++ 13 :: x = b ++ 13 :: y → a = b ∧ x = y
  | [], [], x, y, _, _, h => by
    injection h with _ h
    exact ⟨rfl, h⟩
  | [], c :: b, x, y, _, hb, h => by
    injection h with h _
    exact absurd h.symm (hb c (List.mem_cons_self ..))
  | c :: a, [], x, y, ha, _, h => by
    injection h with h _
    exact absurd h (ha c (List.mem_cons_self ..))
  | c :: a, d :: b, x, y, ha, hb, h => by
    injection h with h1 h2
    obtain ⟨h3, h4⟩ := split13 (fun e he => ha e (List.mem_cons_of_mem _ he)) (fun e he => hb e (List.mem_cons_of_mem _ he)) h2
    exact ⟨by rw [h1, h3], h4⟩
theorem line_split {m m' : UInt8} {a b s t : List UInt8} (ha : ∀ c ∈ a, c ≠ 13) (hb : ∀ c ∈ b, c ≠ 13) (h : lineOf m a ++ s = lineOf m' b ++ t) : a = b ∧ s = t := by
  unfold lineOf at h
  rw [List.cons_append, List.cons_append, List.append_assoc, List.append_assoc] at h
  injection h with _ h
  obtain ⟨h1, h2⟩ := split13 ha hb h
  injection h2 with _ h2
  exact ⟨h1, h2⟩
theorem plain_ne {l : List UInt8} (h : l.all Sh.plainC = true) : ∀ c ∈ l, c ≠ 13 := fun c hc e => by
  have := List.all_eq_true.1 h c hc
  subst e
  exact absurd this (by decide)
theorem dec_plain (n : Nat) : (Lib.decDigits n).all Sh.plainC = true := List.all_eq_true.2 fun c hc => Sh.digit_plain (Sh.dec_digit n c hc)
theorem itoa_plain (n : Int) : (Lib.itoa n).all Sh.plainC = true := by
  unfold Lib.itoa
  split
  · rw [List.all_cons, dec_plain]; decide
  · exact dec_plain _
theorem itoa_ne (n : Int) : ∀ c ∈ Lib.itoa n, c ≠ 13 := plain_ne (itoa_plain n)
theorem itoa_nat_inj {a b : Nat} (h : Lib.itoa (a : Int) = Lib.itoa (b : Int)) : a = b := by
  unfold Lib.itoa at h
  rw [if_neg (by omega), if_neg (by omega)] at h
  have := Num.decDigits_inj h
  omega
theorem itoa_inj {a b : Int} (h : Lib.itoa a = Lib.itoa b) : a = b := by
  have hd : ∀ n : Nat, ∀ l, Lib.decDigits n ≠ 45 :: l := fun n l e => by
    have := Sh.dec_digit n 45 (by rw [e]; exact List.mem_cons_self ..)
    exact absurd this (by decide)
  unfold Lib.itoa at h
  split at h
  · split at h
    · injection h with _ h
      have := Num.decDigits_inj h
      omega
    · exact absurd h.symm (hd _ _)
  · split at h
    · exact absurd h (hd _ _)
    · have := Num.decDigits_inj h
      omega
theorem textOf_plain (r : Nat) : (textOf r).all Sh.plainC = true := by
  unfold textOf
  split
  · decide
  · exact Sh.all_app (by unfold sgn; split <;> decide) (Sh.body_plain _ (by omega))
theorem textOf_bits {r r' : Nat} (h : bitsN r = bitsN r') : textOf r = textOf r' := by
  unfold bitsN at h
  unfold textOf
  split at h
  · rename_i h1
    rw [if_pos h1]
    split at h
    · rename_i h2; rw [if_pos h2]
    · rename_i h2; omega
  · rename_i h1
    rw [if_neg h1]
    split at h
    · omega
    · rename_i h2; rw [if_neg h2, h]
theorem body_no (b : Nat) (hb : b ≤ 9218868437227405312) : (∀ l, bodyText b ≠ 45 :: l) ∧ (∀ l, bodyText b ≠ 110 :: l) := by
  by_cases e : b = 9218868437227405312
  · subst e
    rw [Sh.body_inf]
    exact ⟨fun l h => by injection h with h _; exact absurd h (by decide), fun l h => by injection h with h _; exact absurd h (by decide)⟩
  · obtain ⟨c, l, e2, hd⟩ := Sh.body_head b (by omega)
    rw [e2]
    exact ⟨fun l h => by injection h with h _; subst h; exact absurd hd (by decide), fun l h => by injection h with h _; subst h; exact absurd hd (by decide)⟩
/-- Unlike numbers have unlike texts. -/
theorem textOf_inj {r r' : Nat} (hr : r < 18446744073709551616) (hr' : r' < 18446744073709551616) (h : textOf r = textOf r') : bitsN r = bitsN r' := by
  unfold textOf at h
  unfold bitsN
  by_cases h1 : 9218868437227405312 < r % 9223372036854775808
  · rw [if_pos h1] at h ⊢
    by_cases h2 : 9218868437227405312 < r' % 9223372036854775808
    · rw [if_pos h2]
    · exfalso
      rw [if_neg h2] at h
      unfold sgn at h
      split at h
      · injection h with h _; exact absurd h (by decide)
      · exact (body_no _ (by omega)).2 _ h.symm
  · rw [if_neg h1] at h ⊢
    by_cases h2 : 9218868437227405312 < r' % 9223372036854775808
    · exfalso
      rw [if_pos h2] at h
      unfold sgn at h
      split at h
      · injection h with h _; exact absurd h (by decide)
      · exact (body_no _ (by omega)).2 _ h
    · rw [if_neg h2] at h ⊢
      unfold sgn below at h
      by_cases n1 : 9223372036854775808 ≤ r
      · by_cases n2 : 9223372036854775808 ≤ r'
        · rw [decide_eq_true n1, decide_eq_true n2, if_pos rfl] at h
          injection h with _ h
          have := Sh.body_inj (by omega) (by omega) h
          omega
        · rw [decide_eq_true n1, decide_eq_false n2, if_pos rfl, if_neg (by decide)] at h
          exact absurd h.symm ((body_no _ (by omega)).1 _)
      · by_cases n2 : 9223372036854775808 ≤ r'
        · rw [decide_eq_false n1, decide_eq_true n2, if_pos rfl, if_neg (by decide)] at h
          exact absurd h ((body_no _ (by omega)).1 _)
        · rw [decide_eq_false n1, decide_eq_false n2, if_neg (by decide)] at h
          have := Sh.body_inj (by omega) (by omega) h
          omega

/-! What a kind hasn't. -/
theorem head_parts {k : Int} {t : ByteArray} {z : Int} {r : Nat} {f : Bool} {n : Nat} (h : headB k t z r f n = true) :
    (z = 0 ∨ k = 3) ∧ (bitsN r = 0 ∨ k = 7) ∧ (f = false ∨ k = 8) ∧ textB k t.data.toList = true ∧ listB k n = true := by
  unfold headB ownB at h
  simp only [Bool.and_eq_true, Bool.or_eq_true, beq_iff_eq, decide_eq_true_eq, Bool.not_eq_true'] at h
  exact ⟨h.1.1.1.1, h.1.1.1.2, h.1.1.2, h.1.2, h.2⟩
theorem text_len {k : Int} {l : List UInt8} (h : textB k l = true) : l.length ≤ 4096 := by
  unfold textB at h
  simp only [Bool.and_eq_true, decide_eq_true_eq] at h
  exact h.1
theorem text_kind {k : Int} {l : List UInt8} (h : textB k l = true) : 1 ≤ k ∧ k ≤ 14 := by
  by_cases hk : 1 ≤ k ∧ k ≤ 14
  · exact hk
  · unfold textB at h
    rw [if_neg (by omega), if_neg (by omega), if_neg (by omega), if_neg (by omega), if_neg (by omega)] at h
    simp at h
theorem text_none {k : Int} {t : ByteArray} (h : textB k t.data.toList = true) (hk : k = 3 ∨ k = 5 ∨ k = 6 ∨ k = 7 ∨ k = 8 ∨ k = 12 ∨ k = 13 ∨ k = 14) : t.data.toList = [] := by
  unfold textB at h
  rw [if_neg (by omega), if_neg (by omega), if_neg (by omega), if_neg (by omega), if_pos (by omega)] at h
  simp only [Bool.and_eq_true] at h
  simpa using h.2
theorem text_line {k : Int} {t : ByteArray} (h : textB k t.data.toList = true) (hk : k = 1 ∨ k = 2) : ∀ c ∈ t.data.toList, c ≠ 13 := by
  unfold textB at h
  rw [if_pos hk] at h
  simp only [Bool.and_eq_true] at h
  intro c hc e
  have h2 := h.2
  rw [Bool.not_eq_true', List.any_eq_false] at h2
  have := h2 c hc
  subst e
  exact this (by decide)
theorem bigB_plain {l : List UInt8} (h : bigB l = true) : ∀ c ∈ l, c ≠ 13 := by
  intro c hc e
  subst e
  unfold bigB at h
  split at h
  · rename_i l'
    simp only [Bool.and_eq_true] at h
    rcases List.mem_cons.1 hc with q | q
    · exact absurd q (by decide)
    · exact absurd (List.all_eq_true.1 h.2 13 q) (by decide)
  · simp only [Bool.and_eq_true] at h
    exact absurd (List.all_eq_true.1 h.2 13 hc) (by decide)
theorem text_big {t : ByteArray} (h : textB 9 t.data.toList = true) : ∀ c ∈ t.data.toList, c ≠ 13 := by
  unfold textB at h
  rw [if_neg (by omega), if_neg (by omega), if_pos rfl] at h
  simp only [Bool.and_eq_true] at h
  exact bigB_plain h.2
theorem list_none {k : Int} {n : Nat} (h : listB k n = true) (hk : k ≠ 5 ∧ k ≠ 12 ∧ k ≠ 13 ∧ k ≠ 14) : n = 0 := by
  unfold listB at h
  rw [if_neg hk.1, if_neg hk.2.2.1, if_neg hk.2.1, if_neg hk.2.2.2] at h
  simpa using h
theorem list_even {n : Nat} (h : listB 12 n = true) : n % 2 = 0 := by
  unfold listB at h
  rw [if_neg (by omega), if_neg (by omega), if_pos rfl] at h
  simpa using h
theorem data_ext {a b : ByteArray} (h : a.data.toList = b.data.toList) : a = b := by
  cases a with
  | mk x => cases b with
    | mk y => exact congrArg ByteArray.mk (Array.toList_inj.1 h)

theorem same_mk {k : Int} {t t' : ByteArray} {z z' : Int} {r r' : Nat} {f f' : Bool} {a a' : Option Addr} {c c' n n' : Nat} {K K' : Nat → Val} (h1 : t = t') (h2 : z = z') (h3 : bitsN r = bitsN r') (h4 : f = f') (h5 : n = n')
    (h6 : allTo (fun i => same (K i) (K' i)) n = true) : same (.mk k t z r f a c n K) (.mk k t' z' r' f' a' c' n' K') = true := by
  show (decide _ && allTo _ n) = true
  rw [decide_eq_true ⟨rfl, h1, h2, h3, h4, h5⟩, h6]
  rfl
theorem cat_split {g g' : Nat → List UInt8} {p : Nat → Bool} : ∀ {n : Nat} {s t : List UInt8}, (∀ i, i < n → ∀ s t, g i ++ s = g' i ++ t → p i = true ∧ s = t) → catTo g n ++ s = catTo g' n ++ t → allTo p n = true ∧ s = t
  | 0, _, _, _, h => ⟨rfl, h⟩
  | n + 1, s, t, hk, h => by
    rw [catTo_succ, catTo_succ, List.append_assoc, List.append_assoc] at h
    obtain ⟨h1, h2⟩ := cat_split (fun i hi => hk i (by omega)) h
    obtain ⟨h3, h4⟩ := hk n (by omega) s t h2
    exact ⟨by rw [allTo_succ, h1, h3]; rfl, h4⟩

theorem enc_head {k : Int} {t : ByteArray} {z : Int} {r : Nat} {f : Bool} {a : Option Addr} {c n : Nat} {K : Nat → Val} (hk : 1 ≤ k ∧ k ≤ 14) : ∃ l, encV false (.mk k t z r f a c n K) = [0, 43, 45, 58, 36, 42, 95, 44, 35, 40, 33, 61, 37, 126, 62].getD k.toNat 0 :: l := by
  have h : k = 1 ∨ k = 2 ∨ k = 3 ∨ k = 4 ∨ k = 5 ∨ k = 6 ∨ k = 7 ∨ k = 8 ∨ k = 9 ∨ k = 10 ∨ k = 11 ∨ k = 12 ∨ k = 13 ∨ k = 14 := by omega
  rcases h with rfl | rfl | rfl | rfl | rfl | rfl | rfl | rfl | rfl | rfl | rfl | rfl | rfl | rfl
  all_goals exact ⟨_, rfl⟩
theorem marks_apart {k k' : Int} (hk : 1 ≤ k ∧ k ≤ 14) (hk' : 1 ≤ k' ∧ k' ≤ 14) (h : ([0, 43, 45, 58, 36, 42, 95, 44, 35, 40, 33, 61, 37, 126, 62] : List UInt8).getD k.toNat 0 = ([0, 43, 45, 58, 36, 42, 95, 44, 35, 40, 33, 61, 37, 126, 62] : List UInt8).getD k'.toNat 0) : k = k' := by
  have hall : ∀ i j : Fin 15, ([0, 43, 45, 58, 36, 42, 95, 44, 35, 40, 33, 61, 37, 126, 62] : List UInt8).getD i.val 0 = ([0, 43, 45, 58, 36, 42, 95, 44, 35, 40, 33, 61, 37, 126, 62] : List UInt8).getD j.val 0 → i.val = j.val := by decide
  have := hall ⟨k.toNat, by omega⟩ ⟨k'.toNat, by omega⟩ h
  simp only [] at this
  omega

theorem long_split {m : UInt8} {a b s t : List UInt8} (h : longOf m a ++ s = longOf m b ++ t) : a = b ∧ s = t := by
  unfold longOf at h
  simp only [List.append_assoc] at h
  obtain ⟨h1, h2⟩ := line_split (itoa_ne _) (itoa_ne _) h
  have hl := itoa_nat_inj h1
  obtain ⟨h3, h4⟩ := List.append_inj h2 hl
  injection h4 with _ h4
  injection h4 with _ h4
  exact ⟨h3, h4⟩

/-- One's bytes, and whatever follows, are another's, and whatever follows it, only where the two are the same. -/
theorem enc_split : ∀ (x y : Val), okV x → okV y → ∀ (s t : List UInt8), encV false x ++ s = encV false y ++ t → same x y = true ∧ s = t := by
  intro x
  induction x with
  | no => exact fun _ h => h.elim
  | mk k t z r f a c n K ih =>
    intro y hx hy s u h
    cases y with
    | no => exact hy.elim
    | mk k' t' z' r' f' a' c' n' K' =>
      obtain ⟨hx1, ⟨hx2, -, -, -⟩, hx3⟩ := hx
      obtain ⟨hy1, ⟨hy2, -, -, -⟩, hy3⟩ := hy
      obtain ⟨p1, p2, p3, p4, p5⟩ := head_parts hx1
      obtain ⟨q1, q2, q3, q4, q5⟩ := head_parts hy1
      have hk := text_kind p4
      have hk' := text_kind q4
      obtain ⟨l, hl⟩ := enc_head (t := t) (z := z) (r := r) (f := f) (a := a) (c := c) (n := n) (K := K) hk
      obtain ⟨l', hl'⟩ := enc_head (t := t') (z := z') (r := r') (f := f') (a := a') (c := c') (n := n') (K := K') hk'
      have h0 := h
      rw [hl, hl', List.cons_append, List.cons_append] at h0
      injection h0 with h0 h00
      obtain rfl := marks_apart hk hk' h0
      clear h0 h00 hl hl'
      have hcases : k = 1 ∨ k = 2 ∨ k = 3 ∨ k = 4 ∨ k = 5 ∨ k = 6 ∨ k = 7 ∨ k = 8 ∨ k = 9 ∨ k = 10 ∨ k = 11 ∨ k = 12 ∨ k = 13 ∨ k = 14 := by omega
      have hz : k ≠ 3 → z = z' := fun e => by
        rcases p1 with p1 | p1
        · rcases q1 with q1 | q1
          · rw [p1, q1]
          · exact absurd q1 e
        · exact absurd p1 e
      have hb : k ≠ 7 → bitsN r = bitsN r' := fun e => by
        rcases p2 with p2 | p2
        · rcases q2 with q2 | q2
          · rw [p2, q2]
          · exact absurd q2 e
        · exact absurd p2 e
      have hf : k ≠ 8 → f = f' := fun e => by
        rcases p3 with p3 | p3
        · rcases q3 with q3 | q3
          · rw [p3, q3]
          · exact absurd q3 e
        · exact absurd p3 e
      have ht : (k = 3 ∨ k = 5 ∨ k = 6 ∨ k = 7 ∨ k = 8 ∨ k = 12 ∨ k = 13 ∨ k = 14) → t = t' := fun e => data_ext (by rw [text_none p4 e, text_none q4 e])
      have hn : (k ≠ 5 ∧ k ≠ 12 ∧ k ≠ 13 ∧ k ≠ 14) → n = 0 ∧ n' = 0 := fun e => ⟨list_none p5 e, list_none q5 e⟩
      have hkids : ∀ s u, n = n' → catTo (fun i => encV false (K i)) n ++ s = catTo (fun i => encV false (K' i)) n' ++ u → allTo (fun i => same (K i) (K' i)) n = true ∧ s = u := fun s u e h => by
        subst e
        exact cat_split (fun i hi s t h => ih i (K' i) (hx3 i hi) (hy3 i hi) s t h) h
      rcases hcases with rfl | rfl | rfl | rfl | rfl | rfl | rfl | rfl | rfl | rfl | rfl | rfl | rfl | rfl
      · rw [enc_1, enc_1] at h
        obtain ⟨e1, e2⟩ := line_split (text_line p4 (by decide)) (text_line q4 (by decide)) h
        obtain ⟨n0, n1⟩ := hn (by decide)
        subst n0 n1
        exact ⟨same_mk (data_ext e1) (hz (by decide)) (hb (by decide)) (hf (by decide)) rfl rfl, e2⟩
      · rw [enc_2, enc_2] at h
        obtain ⟨e1, e2⟩ := line_split (text_line p4 (by decide)) (text_line q4 (by decide)) h
        obtain ⟨n0, n1⟩ := hn (by decide)
        subst n0 n1
        exact ⟨same_mk (data_ext e1) (hz (by decide)) (hb (by decide)) (hf (by decide)) rfl rfl, e2⟩
      · rw [enc_3, enc_3] at h
        obtain ⟨e1, e2⟩ := line_split (itoa_ne _) (itoa_ne _) h
        obtain ⟨n0, n1⟩ := hn (by decide)
        subst n0 n1
        exact ⟨same_mk (ht (by decide)) (itoa_inj e1) (hb (by decide)) (hf (by decide)) rfl rfl, e2⟩
      · rw [enc_4, enc_4] at h
        obtain ⟨e1, e2⟩ := long_split h
        obtain ⟨n0, n1⟩ := hn (by decide)
        subst n0 n1
        exact ⟨same_mk (data_ext e1) (hz (by decide)) (hb (by decide)) (hf (by decide)) rfl rfl, e2⟩
      · rw [enc_5, enc_5] at h
        simp only [List.append_assoc] at h
        obtain ⟨e1, e2⟩ := line_split (itoa_ne _) (itoa_ne _) h
        have e4 := itoa_nat_inj e1
        obtain ⟨e5, e6⟩ := hkids s u e4 e2
        exact ⟨same_mk (ht (by decide)) (hz (by decide)) (hb (by decide)) (hf (by decide)) e4 e5, e6⟩
      · rw [enc_6, enc_6] at h
        obtain ⟨n0, n1⟩ := hn (by decide)
        subst n0 n1
        have e2 : s = u := List.append_cancel_left h
        exact ⟨same_mk (ht (by decide)) (hz (by decide)) (hb (by decide)) (hf (by decide)) rfl rfl, e2⟩
      · rw [enc_7, enc_7] at h
        obtain ⟨e1, e2⟩ := line_split (plain_ne (textOf_plain _)) (plain_ne (textOf_plain _)) h
        obtain ⟨n0, n1⟩ := hn (by decide)
        subst n0 n1
        exact ⟨same_mk (ht (by decide)) (hz (by decide)) (textOf_inj hx2 hy2 e1) (hf (by decide)) rfl rfl, e2⟩
      · rw [enc_8, enc_8] at h
        obtain ⟨e1, e2⟩ := line_split (by cases f <;> decide) (by cases f' <;> decide) h
        obtain ⟨n0, n1⟩ := hn (by decide)
        subst n0 n1
        have e3 : f = f' := by cases f <;> cases f' <;> first | rfl | exact absurd e1 (by decide)
        exact ⟨same_mk (ht (by decide)) (hz (by decide)) (hb (by decide)) e3 rfl rfl, e2⟩
      · rw [enc_9, enc_9] at h
        obtain ⟨e1, e2⟩ := line_split (text_big p4) (text_big q4) h
        obtain ⟨n0, n1⟩ := hn (by decide)
        subst n0 n1
        exact ⟨same_mk (data_ext e1) (hz (by decide)) (hb (by decide)) (hf (by decide)) rfl rfl, e2⟩
      · rw [enc_10, enc_10] at h
        obtain ⟨e1, e2⟩ := long_split h
        obtain ⟨n0, n1⟩ := hn (by decide)
        subst n0 n1
        exact ⟨same_mk (data_ext e1) (hz (by decide)) (hb (by decide)) (hf (by decide)) rfl rfl, e2⟩
      · rw [enc_11, enc_11] at h
        obtain ⟨e1, e2⟩ := long_split h
        obtain ⟨n0, n1⟩ := hn (by decide)
        subst n0 n1
        exact ⟨same_mk (data_ext e1) (hz (by decide)) (hb (by decide)) (hf (by decide)) rfl rfl, e2⟩
      · rw [enc_12, enc_12] at h
        simp only [List.append_assoc] at h
        obtain ⟨e1, e2⟩ := line_split (itoa_ne _) (itoa_ne _) h
        have e3 := itoa_nat_inj e1
        have v1 := list_even p5
        have v2 := list_even q5
        have e4 : n = n' := by omega
        obtain ⟨e5, e6⟩ := hkids s u e4 e2
        exact ⟨same_mk (ht (by decide)) (hz (by decide)) (hb (by decide)) (hf (by decide)) e4 e5, e6⟩
      · rw [enc_13, enc_13] at h
        simp only [List.append_assoc] at h
        obtain ⟨e1, e2⟩ := line_split (itoa_ne _) (itoa_ne _) h
        have e4 := itoa_nat_inj e1
        obtain ⟨e5, e6⟩ := hkids s u e4 e2
        exact ⟨same_mk (ht (by decide)) (hz (by decide)) (hb (by decide)) (hf (by decide)) e4 e5, e6⟩
      · rw [enc_14, enc_14] at h
        simp only [List.append_assoc] at h
        obtain ⟨e1, e2⟩ := line_split (itoa_ne _) (itoa_ne _) h
        have e4 := itoa_nat_inj e1
        obtain ⟨e5, e6⟩ := hkids s u e4 e2
        exact ⟨same_mk (ht (by decide)) (hz (by decide)) (hb (by decide)) (hf (by decide)) e4 e5, e6⟩

theorem cat_same {g g' : Nat → List UInt8} : ∀ {n : Nat}, (∀ i, i < n → g i = g' i) → catTo g n = catTo g' n
  | 0, _ => rfl
  | n + 1, h => by rw [catTo_succ, catTo_succ, cat_same (fun i hi => h i (by omega)), h n (by omega)]
theorem enc_same (old : Bool) : ∀ (x y : Val), same x y = true → encV old x = encV old y := by
  intro x
  induction x with
  | no => intro y h; cases h
  | mk k t z r f a c n K ih =>
    intro y h
    cases y with
    | no => cases h
    | mk k' t' z' r' f' a' c' n' K' =>
      have h : (decide (k = k' ∧ t = t' ∧ z = z' ∧ bitsN r = bitsN r' ∧ f = f' ∧ n = n') && allTo (fun i => same (K i) (K' i)) n) = true := h
      rw [Bool.and_eq_true, decide_eq_true_eq] at h
      obtain ⟨⟨rfl, rfl, rfl, h3, rfl, rfl⟩, h6⟩ := h
      have hk : catTo (fun i => encV old (K i)) n = catTo (fun i => encV old (K' i)) n := cat_same fun i hi => ih i (K' i) (by
        have : ∀ m, i < m → allTo (fun i => same (K i) (K' i)) m = true → same (K i) (K' i) = true := by
          intro m
          induction m with
          | zero => intro h; omega
          | succ m ihm =>
            intro h1 h2
            rw [allTo_succ, Bool.and_eq_true] at h2
            by_cases e : i = m
            · subst e; exact h2.2
            · exact ihm (by omega) h2.1
        exact this n hi h6)
      unfold encV
      rw [hk, textOf_bits h3]
end Go.Proofs.YtlebpaneignfaaaDoor
