/- Heaps on lists, plain: what going up and going down keep. No program, no condition. -/
import Derived.Test.YtmjlhmohglbecaaGreatDoorProg
namespace Go.Proofs.YtmjlhmohglbecaaGreatDoor.Ea
/-- Two of a list change places. -/
def swp {α : Type} (l : List α) (i j : Nat) : List α := if h : i < l.length ∧ j < l.length then (l.set i l[j]).set j l[i] else l
section
variable {α : Type} {l : List α} {i j k : Nat}
theorem swp_len : (swp l i j).length = l.length := by
  unfold swp
  split <;> simp
theorem swp_perm : List.Perm (swp l i j) l := by
  unfold swp
  split
  · rename_i h; exact List.set_set_perm h.1 h.2
  · exact List.Perm.refl _
theorem swp_get (hi : i < l.length) (hj : j < l.length) (k : Nat) : (swp l i j)[k]? = if k = i then l[j]? else if k = j then l[i]? else l[k]? := by
  unfold swp
  rw [dif_pos ⟨hi, hj⟩, List.getElem?_set, List.getElem?_set]
  by_cases h1 : k = i
  · subst h1
    rw [if_pos rfl]
    by_cases h2 : j = k
    · subst h2; simp [hj]
    · rw [if_neg h2, if_pos rfl, if_pos hi, List.getElem?_eq_getElem hj]
  · rw [if_neg h1]
    by_cases h2 : k = j
    · subst h2; rw [if_pos rfl, if_pos (by simpa using hj), if_pos rfl, List.getElem?_eq_getElem hi]
    · rw [if_neg (fun e => h2 e.symm), if_neg (fun e => h1 e.symm), if_neg h2]
theorem swp_at (hi : i < l.length) (hj : j < l.length) (hk : k < (swp l i j).length) : (swp l i j)[k] = if k = i then l[j] else if k = j then l[i] else l[k]'(by rw [swp_len] at hk; exact hk) := by
  have h := swp_get hi hj k
  have hk' : k < l.length := by rw [swp_len] at hk; exact hk
  rw [List.getElem?_eq_getElem hk, List.getElem?_eq_getElem hi, List.getElem?_eq_getElem hj, List.getElem?_eq_getElem hk'] at h
  apply Option.some.inj
  rw [h]
  split
  · rfl
  · split <;> rfl
end
/-- An order: whole, and it goes on. -/
structure Ord {α : Type} (le : α → α → Prop) : Prop where
  total : ∀ a b, le a b ∨ le b a
  trans : ∀ a b c, le a b → le b c → le a c
def par (k : Nat) : Nat := (k - 1) / 2
/-- The elements at k and at m are in order. -/
def leA {α : Type} (le : α → α → Prop) (l : List α) (k m : Nat) : Prop := ∀ a b, l[k]? = some a → l[m]? = some b → le a b
/-- Of the first n each one is behind its parent. -/
def Hp {α : Type} (le : α → α → Prop) (l : List α) (n : Nat) : Prop := ∀ k, 0 < k → k < n → leA le l (par k) k
/-- .. but j, whose children are behind its parent. -/
def Up {α : Type} (le : α → α → Prop) (l : List α) (n j : Nat) : Prop := (∀ k, 0 < k → k < n → k ≠ j → leA le l (par k) k) ∧ ∀ k, 0 < k → k < n → 0 < j → par k = j → leA le l (par j) k
/-- .. but i and its children, which are behind its parent. -/
def Dn {α : Type} (le : α → α → Prop) (l : List α) (n i : Nat) : Prop := (∀ k, 0 < k → k < n → k ≠ i → par k ≠ i → leA le l (par k) k) ∧ ∀ k, 0 < k → k < n → 0 < i → par k = i → leA le l (par i) k
section
variable {α : Type} {le : α → α → Prop} {l : List α} {n i j : Nat}
theorem leA_refl (h : Ord le) (k : Nat) : leA le l k k := fun a b ha hb => by
  rw [ha] at hb
  cases hb
  exact (h.total a a).elim id id
theorem leA_trans (h : Ord le) {a b c : Nat} (hb : b < l.length) (h1 : leA le l a b) (h2 : leA le l b c) : leA le l a c := fun x z hx hz =>
  h.trans _ _ _ (h1 x l[b] hx (List.getElem?_eq_getElem hb)) (h2 l[b] z (List.getElem?_eq_getElem hb) hz)
theorem leA_of (hi : i < l.length) (hj : j < l.length) (h : le l[i] l[j]) : leA le l i j := fun a b ha hb => by
  rw [List.getElem?_eq_getElem hi] at ha
  rw [List.getElem?_eq_getElem hj] at hb
  cases ha; cases hb; exact h
/-- How two places read behind an exchange. -/
def tr (i j k : Nat) : Nat := if k = i then j else if k = j then i else k
theorem leA_swp (hi : i < l.length) (hj : j < l.length) (a b : Nat) : leA le (swp l i j) a b ↔ leA le l (tr i j a) (tr i j b) := by
  have e : ∀ k, (swp l i j)[k]? = l[tr i j k]? := fun k => by
    rw [swp_get hi hj]
    unfold tr
    split
    · rfl
    · split <;> rfl
  unfold leA
  rw [e, e]
theorem Hp.up (h : Hp le l n) (o : Ord le) (hn : n ≤ l.length) (j : Nat) (hj : j < n) : Up le l n j := by
  refine ⟨fun k h0 hk _ => h k h0 hk, fun k h0 hk hj0 e => ?_⟩
  have := h k h0 hk
  rw [e] at this
  exact leA_trans o (by omega) (h j hj0 hj) this
theorem Up.done (h : Up le l n j) (hj : j = 0 ∨ leA le l (par j) j) : Hp le l n := fun k h0 hk => by
  by_cases e : k = j
  · subst e
    rcases hj with hj | hj
    · omega
    · exact hj
  · exact h.1 k h0 hk e
theorem par_lt {k : Nat} (h : 0 < k) : par k < k := by unfold par; omega
theorem Up.step (h : Up le l n j) (o : Ord le) (hn : n ≤ l.length) (hj : j < n) (h0 : 0 < j) (hl : leA le l j (par j)) : Up le (swp l (par j) j) n (par j) := by
  have hp := par_lt h0
  have hpl : par j < l.length := by omega
  have hjl : j < l.length := by omega
  have t1 : tr (par j) j (par j) = j := by unfold tr; rw [if_pos rfl]
  have t2 : tr (par j) j j = par j := by unfold tr; rw [if_neg (by omega), if_pos rfl]
  have t3 : ∀ k, k ≠ par j → k ≠ j → tr (par j) j k = k := fun k a b => by unfold tr; rw [if_neg a, if_neg b]
  refine ⟨fun k k0 hk hne => ?_, fun k k0 hk hpj e => ?_⟩
  · rw [leA_swp hpl hjl]
    by_cases e1 : k = j
    · subst e1; rw [t2, t1]; exact hl
    · rw [t3 k hne e1]
      by_cases e2 : par k = par j
      · rw [e2, t1]
        have := h.1 k k0 hk e1
        rw [e2] at this
        exact leA_trans o hpl hl this
      · by_cases e3 : par k = j
        · rw [e3, t2]; exact h.2 k k0 hk h0 e3
        · rw [t3 _ e2 e3]; exact h.1 k k0 hk e1
  · rw [leA_swp hpl hjl]
    have hpp := par_lt hpj
    rw [t3 (par (par j)) (by omega) (by omega)]
    have h1 := h.1 (par j) hpj (by omega) (by omega)
    by_cases e1 : k = j
    · subst e1; rw [t2]; exact h1
    · have hk2 : k ≠ par j := fun e2 => by have := par_lt k0; omega
      rw [t3 k hk2 e1]
      have := h.1 k k0 hk e1
      rw [e] at this
      exact leA_trans o hpl h1 this
theorem Up.dn (h : Up le l n j) : Dn le l n j := ⟨fun k h0 hk hne _ => h.1 k h0 hk hne, h.2⟩
/-- Where i goes no further down. -/
theorem Dn.done (h : Dn le l n i) (hc : ∀ k, 0 < k → k < n → par k = i → leA le l i k) : Up le l n i := by
  refine ⟨fun k h0 hk hne => ?_, h.2⟩
  by_cases e : par k = i
  · rw [e]; exact hc k h0 hk e
  · exact h.1 k h0 hk hne e
/-- One step down, to the lesser child. -/
theorem Dn.step (h : Dn le l n i) (hn : n ≤ l.length) (hj : j < n) (h0 : 0 < j) (hp : par j = i) (hm : ∀ k, 0 < k → k < n → par k = i → leA le l j k) (hl : leA le l j i) : Dn le (swp l i j) n j ∧ leA le (swp l i j) i j := by
  have hlt := par_lt h0
  have hil : i < l.length := by omega
  have hjl : j < l.length := by omega
  have t1 : tr i j i = j := by unfold tr; rw [if_pos rfl]
  have t2 : tr i j j = i := by unfold tr; rw [if_neg (by omega), if_pos rfl]
  have t3 : ∀ k, k ≠ i → k ≠ j → tr i j k = k := fun k a b => by unfold tr; rw [if_neg a, if_neg b]
  refine ⟨⟨fun k k0 hk hne hpne => ?_, fun k k0 hk _ e => ?_⟩, ?_⟩
  · rw [leA_swp hil hjl]
    by_cases e1 : k = i
    · subst e1
      have := par_lt k0
      rw [t1, t3 (par k) (by omega) hpne]
      exact h.2 j h0 hj k0 hp
    · rw [t3 k e1 hne]
      by_cases e2 : par k = i
      · rw [e2, t1]; exact hm k k0 hk e2
      · rw [t3 _ e2 hpne]; exact h.1 k k0 hk e1 e2
  · rw [leA_swp hil hjl, hp, t1]
    have hk1 : k ≠ i := fun e2 => by subst e2; have := par_lt k0; omega
    have hk2 : k ≠ j := fun e2 => by subst e2; have := par_lt k0; omega
    rw [t3 k hk1 hk2]
    have := h.1 k k0 hk hk1 (by omega)
    rw [e] at this
    exact this
  · rw [leA_swp hil hjl, t1, t2]; exact hl
/-- The first of a heap is ahead of all. -/
theorem Hp.first (h : Hp le l n) (o : Ord le) (hn : n ≤ l.length) : ∀ k, k < n → leA le l 0 k := by
  intro k
  induction k using Nat.strongRecOn with
  | _ k ih =>
    intro hk
    by_cases k0 : k = 0
    · subst k0; exact leA_refl o 0
    · have hp := par_lt (k := k) (by omega)
      exact leA_trans o (by omega) (ih _ hp (by omega)) (h k (by omega) hk)
theorem Hp.mono (h : Hp le l n) {m : Nat} (hm : m ≤ n) : Hp le l m := fun k h0 hk => h k h0 (by omega)
/-- A heap but for the last one, which has come behind. -/
theorem Hp.more (h : Hp le l n) (x : α) (hn : l.length = n) : Up le (l ++ [x]) (n + 1) n := by
  have e : ∀ k, k < n → (l ++ [x])[k]? = l[k]? := fun k hk => List.getElem?_append_left (by omega)
  refine ⟨fun k h0 hk hne => ?_, fun k h0 hk _ ek => ?_⟩
  · have hkn : k < n := by omega
    have hp := par_lt h0
    unfold leA
    rw [e _ hkn, e _ (by omega)]
    exact h k h0 hkn
  · have := par_lt h0
    omega
/-- Where one of a heap holds another value now. -/
theorem Hp.turned {l' : List α} (h : Hp le l n) (o : Ord le) (hn : n ≤ l.length) (hi : i < n) (he : ∀ k, k ≠ i → l'[k]? = l[k]?) : Dn le l' n i := by
  refine ⟨fun k h0 hk hne hpne => ?_, fun k h0 hk hi0 e => ?_⟩
  · unfold leA
    rw [he _ hne, he _ hpne]
    exact h k h0 hk
  · have hlt := par_lt hi0
    have hk2 : k ≠ i := fun e2 => by subst e2; have := par_lt h0; omega
    unfold leA
    rw [he _ (by omega), he _ hk2]
    have := h k h0 hk
    rw [e] at this
    exact leA_trans o (by omega) (h i hi0 hi) this
end
end Go.Proofs.YtmjlhmohglbecaaGreatDoor.Ea
