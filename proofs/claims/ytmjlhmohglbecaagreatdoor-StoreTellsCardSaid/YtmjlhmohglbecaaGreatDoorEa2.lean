/- Layer 11, plain: dues in order; one put, one dropped, those that have ended. No program, no condition. -/
import Derived.Lib.Bytealg
import Derived.Sort.Walk0
import Derived.Test.YtmjlhmohglbecaaGreatDoorEaB
namespace Go.Proofs.YtmjlhmohglbecaaGreatDoor.Ea
open Go
theorem ba_eq {x y : ByteArray} (h : x.toList = y.toList) : x = y := by
  rw [ByteArray.toList_eq, ByteArray.toList_eq] at h
  obtain ⟨x⟩ := x
  obtain ⟨y⟩ := y
  exact congrArg ByteArray.mk (Array.toList_inj.1 h)
/-- Is a's text below b's? -/
def ltK (a b : ByteArray) : Bool := Op.bytesLess a.toList b.toList
theorem ltK_iff {a b : ByteArray} : ltK a b = true ↔ a.toList < b.toList := by unfold ltK; rw [bytesLess_eq]; exact decide_eq_true_iff
theorem ltK_irrefl (a : ByteArray) : ltK a a = false := by
  cases h : ltK a a with
  | false => rfl
  | true => exact absurd (ltK_iff.1 h) (List.lt_irrefl _)
theorem ltK_trans {a b c : ByteArray} (h : ltK a b = true) (k : ltK b c = true) : ltK a c = true := ltK_iff.2 (List.lt_trans (ltK_iff.1 h) (ltK_iff.1 k))
theorem ltK_total {a b : ByteArray} (h : ltK a b = false) (k : ltK b a = false) : a = b := by
  refine ba_eq (List.le_antisymm ?_ ?_)
  · exact List.not_lt.1 (fun e => by rw [ltK_iff.2 e] at k; cases k)
  · exact List.not_lt.1 (fun e => by rw [ltK_iff.2 e] at h; cases h)
/-- A due: when, and whose. -/
abbrev Du : Type := Int × ByteArray
/-- Does a end ahead of b? -/
def ltE (a b : Du) : Bool := if a.1 = b.1 then ltK a.2 b.2 else decide (a.1 < b.1)
theorem ltE_iff {a b : Du} : ltE a b = true ↔ a.1 < b.1 ∨ a.1 = b.1 ∧ ltK a.2 b.2 = true := by
  unfold ltE
  split
  · rename_i h; simp [h]
  · rename_i h; simp [h]
theorem ltE_irrefl (a : Du) : ltE a a = false := by
  cases h : ltE a a with
  | false => rfl
  | true =>
    rcases ltE_iff.1 h with h | ⟨-, h⟩
    · omega
    · rw [ltK_irrefl] at h; cases h
theorem ltE_trans {a b c : Du} (h : ltE a b = true) (k : ltE b c = true) : ltE a c = true := by
  rw [ltE_iff] at h k ⊢
  rcases h with h | ⟨h, h'⟩
  · rcases k with k | ⟨k, -⟩ <;> exact .inl (by omega)
  · rcases k with k | ⟨k, k'⟩
    · exact .inl (by omega)
    · exact .inr ⟨by omega, ltK_trans h' k'⟩
theorem ltE_asymm {a b : Du} (h : ltE a b = true) : ltE b a = false := by
  cases k : ltE b a with
  | false => rfl
  | true => have := ltE_trans h k; rw [ltE_irrefl] at this; cases this
theorem ltE_total {a b : Du} (h : ltE a b = false) (k : ltE b a = false) : a = b := by
  have h1 := mt ltE_iff.2 (by rw [h]; decide)
  have k1 := mt ltE_iff.2 (by rw [k]; decide)
  rw [not_or] at h1 k1
  have e : a.1 = b.1 := by omega
  have h2 : ltK a.2 b.2 = false := by cases hh : ltK a.2 b.2 with | false => rfl | true => exact absurd ⟨e, hh⟩ h1.2
  have k2 : ltK b.2 a.2 = false := by cases hh : ltK b.2 a.2 with | false => rfl | true => exact absurd ⟨e.symm, hh⟩ k1.2
  exact Prod.ext e (ltK_total h2 k2)
theorem ltE_le_trans {a b c : Du} (h : ltE a b = true) (k : ltE c b = false) : ltE a c = true := by
  cases e : ltE b c with
  | true => exact ltE_trans h e
  | false => rw [← ltE_total e k]; exact h
/-- In order, each once. -/
def UpD (S : List Du) : Prop := S.Pairwise fun a b => ltE a b = true
theorem UpD.nodup {S : List Du} (h : UpD S) : S.Nodup := List.Pairwise.imp (fun {a b} hab e => by rw [e, ltE_irrefl] at hab; cases hab) h
/-- What is in order, in S, and ahead of what is in S besides: the first ones of S. -/
theorem first_of : ∀ {out S : List Du}, UpD out → UpD S → (∀ o ∈ out, o ∈ S) → (∀ s ∈ S, s ∈ out ∨ ∀ o ∈ out, ltE o s = true) → out = S.take out.length
  | [], _, _, _, _, _ => rfl
  | o :: out, [], _, _, h1, _ => absurd (h1 o (List.mem_cons_self ..)) (by simp)
  | o :: out, s :: S, hO, hS, h1, h2 => by
    obtain ⟨o1, o2⟩ := List.pairwise_cons.1 hO
    obtain ⟨s1, s2⟩ := List.pairwise_cons.1 hS
    have e : s = o := Classical.byContradiction fun hne => by
      have hl : ltE s o = true := by
        rcases List.mem_cons.1 (h1 o (List.mem_cons_self ..)) with h | h
        · exact absurd h.symm hne
        · exact s1 o h
      have h3 := ltE_asymm hl
      rcases h2 s (List.mem_cons_self ..) with h | h
      · rcases List.mem_cons.1 h with h | h
        · exact hne h
        · rw [o1 s h] at h3; cases h3
      · rw [h o (List.mem_cons_self ..)] at h3; cases h3
    subst e
    show s :: out = s :: S.take out.length
    refine congrArg _ (first_of o2 s2 (fun x hx => ?_) fun x hx => ?_)
    · rcases List.mem_cons.1 (h1 x (List.mem_cons_of_mem _ hx)) with h | h
      · have := o1 x hx; rw [h, ltE_irrefl] at this; cases this
      · exact h
    · rcases h2 x (List.mem_cons_of_mem _ hx) with h | h
      · rcases List.mem_cons.1 h with h | h
        · have := s1 x hx; rw [h, ltE_irrefl] at this; cases this
        · exact .inl h
      · exact .inr fun y hy => h y (List.mem_cons_of_mem _ hy)
theorem up_eq {A B : List Du} (hA : UpD A) (hB : UpD B) (h : ∀ x, x ∈ A ↔ x ∈ B) : A = B := by
  have h1 := first_of hA hB (fun x hx => (h x).1 hx) (fun x hx => .inl ((h x).2 hx))
  have h2 := first_of hB hA (fun x hx => (h x).2 hx) (fun x hx => .inl ((h x).1 hx))
  have l1 := congrArg List.length h1
  have l2 := congrArg List.length h2
  rw [List.length_take] at l1 l2
  rw [h1, List.take_of_length_le (by omega)]
/-- One put among dues, ahead of the first that ends behind it. -/
def insD (d : Du) : List Du → List Du
  | [] => [d]
  | x :: r => if ltE d x = true then d :: x :: r else x :: insD d r
def dropD (k : ByteArray) (S : List Du) : List Du := S.filter fun d => !decide (d.2 = k)
def putD (k : ByteArray) (t : Int) (S : List Du) : List Du := insD (t, k) (dropD k S)
def inD (k : ByteArray) (S : List Du) : Bool := S.any fun d => decide (d.2 = k)
def getD (k : ByteArray) (S : List Du) : Int := ((S.find? fun d => decide (d.2 = k)).map (·.1)).getD 0
/-- The first ones that have ended. -/
def dueD (now : Int) (most : Nat) (S : List Du) : List Du := (S.filter fun d => decide (d.1 ≤ now)).take most
theorem mem_insD {d x : Du} : ∀ {S : List Du}, x ∈ insD d S ↔ x = d ∨ x ∈ S
  | [] => by simp [insD]
  | y :: r => by
    unfold insD
    split
    · simp
    · rw [List.mem_cons, mem_insD, List.mem_cons]
      constructor
      · rintro (h | h | h) <;> simp [h]
      · rintro (h | h | h) <;> simp [h]
theorem mem_dropD {k : ByteArray} {x : Du} {S : List Du} : x ∈ dropD k S ↔ x ∈ S ∧ x.2 ≠ k := by simp [dropD]
theorem UpD.ins {d : Du} : ∀ {S : List Du}, UpD S → d ∉ S → UpD (insD d S)
  | [], _, _ => List.pairwise_singleton _ _
  | y :: r, h, hd => by
    obtain ⟨h1, h2⟩ := List.pairwise_cons.1 h
    unfold insD
    split
    · rename_i hl
      exact List.pairwise_cons.2 ⟨fun z hz => by
        rcases List.mem_cons.1 hz with e | e
        · rw [e]; exact hl
        · exact ltE_trans hl (h1 z e), h⟩
    · rename_i hl
      have hl : ltE d y = false := by simpa using hl
      refine List.pairwise_cons.2 ⟨fun z hz => ?_, UpD.ins h2 (fun hm => hd (List.mem_cons_of_mem _ hm))⟩
      rcases mem_insD.1 hz with e | e
      · subst e
        cases hy : ltE y z with
        | true => rfl
        | false => exact absurd (ltE_total hl hy) (fun e => hd (e ▸ List.mem_cons_self ..))
      · exact h1 z e
theorem UpD.drop {k : ByteArray} {S : List Du} (h : UpD S) : UpD (dropD k S) := List.Pairwise.filter _ h
theorem UpD.put {k : ByteArray} {t : Int} {S : List Du} (h : UpD S) : UpD (putD k t S) := h.drop.ins fun hm => (mem_dropD.1 hm).2 rfl
theorem len_insD {d : Du} : ∀ {S : List Du}, (insD d S).length = S.length + 1
  | [] => rfl
  | y :: r => by
    unfold insD
    split
    · rfl
    · rw [List.length_cons, len_insD]; rfl
theorem dropD_le (k : ByteArray) (S : List Du) : (dropD k S).length ≤ S.length := List.length_filter_le _ _
theorem dropD_lt (k : ByteArray) (S : List Du) : decide ((dropD k S).length < S.length) = inD k S := by
  unfold inD
  cases h : S.any fun d => decide (d.2 = k) with
  | true =>
    obtain ⟨d, hd, e⟩ := List.any_eq_true.1 h
    refine decide_eq_true ?_
    rcases Nat.lt_or_eq_of_le (dropD_le k S) with h2 | h2
    · exact h2
    · have := List.length_filter_eq_length_iff.1 h2 d hd
      simp [of_decide_eq_true e] at this
  | false =>
    refine decide_eq_false fun hlt => ?_
    have : dropD k S = S := List.filter_eq_self.2 fun d hd => by
      have := List.any_eq_false.1 h d hd
      simpa using this
    rw [this] at hlt
    omega
theorem putD_le (k : ByteArray) (t : Int) (S : List Du) : (putD k t S).length ≤ S.length + 1 := by
  unfold putD
  rw [len_insD]
  have := dropD_le k S
  omega
theorem inD_iff {k : ByteArray} {S : List Du} : inD k S = true ↔ k ∈ S.map (·.2) := by
  unfold inD
  rw [List.any_eq_true]
  simp only [decide_eq_true_eq, List.mem_map]
/-- The first of what has ended: what is in order, with what is behind it. -/
theorem due_of {S out rest : List Du} {now : Int} {most : Nat} (e : S = out ++ rest) (h1 : ∀ o ∈ out, o.1 ≤ now) (h2 : out.length = most ∨ out.length ≤ most ∧ ∀ r ∈ rest, now < r.1) : dueD now most S = out := by
  unfold dueD
  rw [e, List.filter_append, List.filter_eq_self.2 fun o ho => decide_eq_true (h1 o ho)]
  rcases h2 with h | ⟨h, hr⟩
  · rw [← h]; exact List.take_left
  · rw [List.filter_eq_nil_iff.2 fun r hr' => by have := hr r hr'; simp; omega, List.append_nil]
    exact List.take_of_length_le h
/-- A heap's order. -/
structure En where
  b : Nat
  t : Int
  k : ByteArray
def En.d (e : En) : Du := (e.t, e.k)
def ltN (a b : En) : Bool := ltE a.d b.d
theorem ordN : Ord (leB ltN) := by
  refine ⟨fun a b => ?_, fun a b c h1 h2 => ?_⟩
  · cases h : ltE b.d a.d with
    | false => exact .inl h
    | true => exact .inr (ltE_asymm h)
  · show ltE c.d a.d = false
    have h1 : ltE b.d a.d = false := h1
    have h2 : ltE c.d b.d = false := h2
    cases h : ltE c.d a.d with
    | false => rfl
    | true =>
      have := ltE_le_trans h h1
      rw [h2] at this; cases this
end Go.Proofs.YtmjlhmohglbecaaGreatDoor.Ea
