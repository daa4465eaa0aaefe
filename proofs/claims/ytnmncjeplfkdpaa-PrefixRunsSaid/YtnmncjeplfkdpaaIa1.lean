/- Plain facts of layer 9, of no program: fields in order, where a name stands among them, what is put and dropped. No condition. -/
import Derived.Lib.Bytealg
import Derived.Sort.Walk0
namespace Go.Proofs.Ytnmncjeplfkdpaa.Ia
open Go
/-- A field: its name, its text. -/
abbrev Fd : Type := ByteArray × ByteArray
/-- An item: its kind, its text, its fields. -/
structure It where
  k : Int
  t : ByteArray
  l : List Fd
theorem ba_eq {x y : ByteArray} (h : x.toList = y.toList) : x = y := by
  rw [ByteArray.toList_eq, ByteArray.toList_eq] at h
  obtain ⟨x⟩ := x
  obtain ⟨y⟩ := y
  exact congrArg ByteArray.mk (Array.toList_inj.1 h)
/-- Is a's text below b's? -/
def lt (a b : ByteArray) : Bool := Op.bytesLess a.toList b.toList
theorem lt_iff {a b : ByteArray} : lt a b = true ↔ a.toList < b.toList := by unfold lt; rw [bytesLess_eq]; exact decide_eq_true_iff
theorem lt_irrefl (a : ByteArray) : lt a a = false := by
  cases h : lt a a with
  | false => rfl
  | true => exact absurd (lt_iff.1 h) (List.lt_irrefl _)
theorem lt_trans {a b c : ByteArray} (h : lt a b = true) (k : lt b c = true) : lt a c = true := lt_iff.2 (List.lt_trans (lt_iff.1 h) (lt_iff.1 k))
theorem lt_asymm {a b : ByteArray} (h : lt a b = true) : lt b a = false := by
  cases k : lt b a with
  | false => rfl
  | true => exact absurd (lt_trans h k) (by rw [lt_irrefl]; decide)
theorem lt_total {a b : ByteArray} (h : lt a b = false) (k : lt b a = false) : a = b := by
  refine ba_eq (List.le_antisymm ?_ ?_)
  · exact List.not_lt.1 (fun e => by rw [lt_iff.2 e] at k; cases k)
  · exact List.not_lt.1 (fun e => by rw [lt_iff.2 e] at h; cases h)
theorem lt_ne {a b : ByteArray} (h : lt a b = true) : (a.toList == b.toList) = false := by
  rw [beq_eq_false_iff_ne]
  intro e
  rw [ba_eq e, lt_irrefl] at h
  cases h
theorem cmp_neg {x y : List UInt8} : (Lib.compareBytes x y < 0) ↔ Op.bytesLess x y = true := by
  induction x generalizing y with
  | nil => cases y <;> simp [Lib.compareBytes, Op.bytesLess]
  | cons a x ih =>
    cases y with
    | nil => simp [Lib.compareBytes, Op.bytesLess]
    | cons b y =>
      simp only [Lib.compareBytes, Op.bytesLess]
      by_cases h : a < b
      · simp [h]
      · by_cases h2 : b < a
        · have hne : (a == b) = false := by rw [beq_eq_false_iff_ne]; intro e; subst e; exact absurd h2 (UInt8.lt_irrefl _)
          simp [h, h2, hne]
        · have he : a = b := UInt8.le_antisymm (UInt8.not_lt.1 h2) (UInt8.not_lt.1 h)
          subst he
          simp [h, ih]
theorem cmp_zero {x y : List UInt8} : (Lib.compareBytes x y = 0) ↔ x = y := by
  induction x generalizing y with
  | nil => cases y <;> simp [Lib.compareBytes]
  | cons a x ih =>
    cases y with
    | nil => simp [Lib.compareBytes]
    | cons b y =>
      simp only [Lib.compareBytes]
      by_cases h : a < b
      · have hne : ¬ a = b := by intro e; subst e; exact absurd h (UInt8.lt_irrefl _)
        simp [h, hne]
      · by_cases h2 : b < a
        · have hne : ¬ a = b := by intro e; subst e; exact absurd h2 (UInt8.lt_irrefl _)
          simp [h, h2, hne]
        · have he : a = b := UInt8.le_antisymm (UInt8.not_lt.1 h2) (UInt8.not_lt.1 h)
          subst he
          simp [h, ih]
theorem cmp_rng (x y : List UInt8) : -1 ≤ Lib.compareBytes x y ∧ Lib.compareBytes x y ≤ 1 := by
  induction x generalizing y with
  | nil => cases y <;> simp [Lib.compareBytes]
  | cons a x ih =>
    cases y with
    | nil => simp [Lib.compareBytes]
    | cons b y =>
      simp only [Lib.compareBytes]
      by_cases h : a < b
      · simp [h]
      · by_cases h2 : b < a
        · simp [h, h2]
        · simp [h, h2, ih]
/-- What lies below a name, the name's own field, what lies above it. -/
structure Split (n : ByteArray) (l A M B : List Fd) : Prop where
  e : l = A ++ M ++ B
  a : ∀ f ∈ A, lt f.1 n = true
  m : ∀ f ∈ M, f.1 = n
  ml : M.length ≤ 1
  b : ∀ f ∈ B, lt n f.1 = true
/-- Fields whose names rise. -/
def Up (l : List Fd) : Prop := l.Pairwise fun f g => lt f.1 g.1 = true
theorem split_of (n : ByteArray) : ∀ {l : List Fd}, Up l → ∃ A M B, Split n l A M B
  | [], _ => ⟨[], [], [], rfl, by simp, by simp, by simp, by simp⟩
  | f :: r, h => by
    have h1 := List.pairwise_cons.1 h
    cases hf : lt f.1 n with
    | true =>
      obtain ⟨A, M, B, e, a, m, ml, b⟩ := split_of n h1.2
      refine ⟨f :: A, M, B, by rw [e]; rfl, fun g hg => ?_, m, ml, b⟩
      rcases List.mem_cons.1 hg with rfl | hg
      · exact hf
      · exact a g hg
    | false =>
      cases hg : lt n f.1 with
      | true =>
        refine ⟨[], [], f :: r, rfl, by simp, by simp, by simp, fun g hg2 => ?_⟩
        rcases List.mem_cons.1 hg2 with rfl | hg2
        · exact hg
        · exact lt_trans hg (h1.1 g hg2)
      | false =>
        have e := lt_total hf hg
        refine ⟨[], [f], r, rfl, by simp, by simp [e], by simp, fun g hg2 => ?_⟩
        rw [← e]
        exact h1.1 g hg2
theorem Split.len {n : ByteArray} {l A M B : List Fd} (h : Split n l A M B) : l.length = A.length + M.length + B.length := by rw [h.e]; simp only [List.length_append]
theorem Split.up {n t : ByteArray} {l A M B : List Fd} (h : Split n l A M B) (hl : Up l) : Up (A ++ (n, t) :: B) := by
  have e := h.e
  subst e
  unfold Up at hl ⊢
  rw [List.pairwise_append] at hl ⊢
  obtain ⟨h1, h2, h3⟩ := hl
  rw [List.pairwise_append] at h1
  refine ⟨h1.1, List.pairwise_cons.2 ⟨fun g hg => h.b g hg, h2⟩, fun f hf g hg => ?_⟩
  rcases List.mem_cons.1 hg with rfl | hg
  · exact h.a f hf
  · exact lt_trans (h.a f hf) (h.b g hg)
theorem Split.up0 {n : ByteArray} {l A M B : List Fd} (h : Split n l A M B) (hl : Up l) : Up (A ++ B) := by
  have e := h.e
  subst e
  unfold Up at hl ⊢
  rw [List.pairwise_append] at hl ⊢
  obtain ⟨h1, h2, h3⟩ := hl
  rw [List.pairwise_append] at h1
  exact ⟨h1.1, h2, fun f hf g hg => h3 f (List.mem_append.2 (.inl hf)) g hg⟩
/-- Of a part that is put, the name's own field. -/
theorem Split.put {n t : ByteArray} {l A M B : List Fd} (h : Split n l A M B) : Split n (A ++ [(n, t)] ++ B) A [(n, t)] B := ⟨rfl, h.a, by simp, by simp, h.b⟩
theorem Split.drop {n : ByteArray} {l A M B : List Fd} (h : Split n l A M B) : Split n (A ++ B) A [] B := ⟨by simp, h.a, by simp, by simp, h.b⟩
/-- The text of the name's own field. -/
def txt (M : List Fd) : ByteArray := (M.head?.map (·.2)).getD ⟨#[]⟩
def there (M : List Fd) : Bool := !M.isEmpty
theorem M_cases {n : ByteArray} {l A M B : List Fd} (h : Split n l A M B) : M = [] ∨ ∃ t, M = [(n, t)] := by
  have hm := h.m
  have hl := h.ml
  match M, hm, hl with
  | [], _, _ => exact .inl rfl
  | [f], hm, _ =>
    have e := hm f (List.mem_singleton.2 rfl)
    exact .inr ⟨f.2, by rw [← e]⟩
  | _ :: _ :: _, _, hl => simp at hl
/-- Where a field stands: below the name, at it, or above it. -/
theorem Split.at_a {n : ByteArray} {l A M B : List Fd} (h : Split n l A M B) {i : Nat} (hi : i < l.length) (ha : i < A.length) : lt l[i].1 n = true := by
  have e : l[i] = A[i] := by
    have h1 : l[i]? = A[i]? := by rw [h.e, List.append_assoc, List.getElem?_append_left ha]
    rw [List.getElem?_eq_getElem hi, List.getElem?_eq_getElem ha] at h1
    exact Option.some.inj h1
  rw [e]
  exact h.a _ (List.getElem_mem ha)
theorem Split.at_m {n : ByteArray} {l A M B : List Fd} (h : Split n l A M B) {i : Nat} (hi : i < l.length) (ha : i = A.length) (hm : 0 < M.length) : l[i] = (n, txt M) := by
  subst ha
  rcases M_cases h with rfl | ⟨t, rfl⟩
  · simp at hm
  · have h1 : l[A.length]? = some (n, t) := by rw [h.e]; simp
    rw [List.getElem?_eq_getElem hi] at h1
    exact Option.some.inj h1
theorem Split.at_b {n : ByteArray} {l A M B : List Fd} (h : Split n l A M B) {i : Nat} (hi : i < l.length) (hb : A.length + M.length ≤ i) : lt n l[i].1 = true := by
  have hl := h.len
  have h2 : i - (A.length + M.length) < B.length := by omega
  have e : l[i] = B[i - (A.length + M.length)] := by
    have h1 : l[i]? = B[i - (A.length + M.length)]? := by rw [h.e, List.getElem?_append_right (by simpa using hb), List.length_append]
    rw [List.getElem?_eq_getElem hi, List.getElem?_eq_getElem h2] at h1
    exact Option.some.inj h1
  rw [e]
  exact h.b _ (List.getElem_mem h2)
end Go.Proofs.Ytnmncjeplfkdpaa.Ia
