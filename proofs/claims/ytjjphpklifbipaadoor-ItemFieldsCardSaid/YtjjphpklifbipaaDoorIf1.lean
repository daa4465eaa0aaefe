/- Plain facts for ItemFields: fields that are put one by one, what a name's text is among them, and when two rows of fields are the same. No condition. -/
import Derived.Test.YtjjphpklifbipaaDoorIe2
namespace Go.Proofs.YtjjphpklifbipaaDoor.Ia
open Go
/-- A name's text among fields: the first one's. -/
def lk : List Fd → ByteArray → Option ByteArray
  | [], _ => none
  | f :: r, n => if f.1 = n then some f.2 else lk r n
/-- A field put into fields in order. -/
def ins (n t : ByteArray) : List Fd → List Fd
  | [] => [(n, t)]
  | f :: r => if lt f.1 n = true then f :: ins n t r else if lt n f.1 = true then (n, t) :: f :: r else (n, t) :: r
theorem Split.ins {n t : ByteArray} : ∀ {A l M B : List Fd}, Split n l A M B → A ++ [(n, t)] ++ B = Ia.ins n t l
  | f :: A, l, M, B, h => by
    have e := h.e
    subst e
    have h1 : Split n (A ++ M ++ B) A M B := ⟨rfl, fun g hg => h.a g (List.mem_cons_of_mem _ hg), h.m, h.ml, h.b⟩
    have h2 : lt f.1 n = true := h.a f (List.mem_cons_self ..)
    have h3 := h1.ins (t := t)
    show f :: (A ++ [(n, t)] ++ B) = Ia.ins n t (f :: (A ++ M ++ B))
    rw [Ia.ins, if_pos h2, h3]
  | [], l, M, B, h => by
    have e := h.e
    subst e
    rcases M_cases h with rfl | ⟨u, rfl⟩
    · cases B with
      | nil => rfl
      | cons g B =>
        have h1 : lt n g.1 = true := h.b g (List.mem_cons_self ..)
        show (n, t) :: g :: B = Ia.ins n t (g :: B)
        rw [Ia.ins, if_neg (by rw [lt_asymm h1]; decide), if_pos h1]
    · show (n, t) :: B = Ia.ins n t ((n, u) :: B)
      rw [Ia.ins, if_neg (by rw [lt_irrefl]; decide), if_neg (by rw [lt_irrefl]; decide)]
theorem lk_ins (n t m : ByteArray) : ∀ l : List Fd, lk (ins n t l) m = if n = m then some t else lk l m
  | [] => rfl
  | f :: r => by
    rw [ins]
    split
    · rename_i h
      rw [lk, lk, lk_ins n t m r]
      by_cases hm : n = m
      · subst hm
        rw [if_neg (fun e => by rw [e, lt_irrefl] at h; cases h), if_pos rfl, if_pos rfl]
      · rw [if_neg hm, if_neg hm]
    · rename_i h
      split
      · rw [lk]
      · rename_i h2
        have e : f.1 = n := lt_total (by simpa using h) (by simpa using h2)
        rw [lk, lk, e]
        by_cases hm : n = m
        · rw [if_pos hm, if_pos hm]
        · rw [if_neg hm, if_neg hm, if_neg hm]
theorem ins_up {l : List Fd} (h : Up l) (n t : ByteArray) : Up (ins n t l) := by
  obtain ⟨A, M, B, hs⟩ := split_of n h
  rw [← hs.ins (t := t), List.append_assoc]
  exact hs.up (t := t) h
theorem ins_len (n t : ByteArray) : ∀ l : List Fd, 0 < (ins n t l).length ∧ (ins n t l).length ≤ l.length + 1
  | [] => by simp [ins]
  | f :: r => by
    have := ins_len n t r
    rw [ins]
    split
    · simp only [List.length_cons]; omega
    · split
      · simp only [List.length_cons]; omega
      · simp only [List.length_cons]; omega
theorem ins_mem {n t : ByteArray} {f : Fd} : ∀ {l : List Fd}, f ∈ ins n t l → f = (n, t) ∨ f ∈ l
  | [], h => by simpa [ins] using h
  | g :: r, h => by
    rw [ins] at h
    split at h
    · rcases List.mem_cons.1 h with h | h
      · exact .inr (by rw [h]; exact List.mem_cons_self ..)
      · rcases ins_mem h with h | h
        · exact .inl h
        · exact .inr (List.mem_cons_of_mem _ h)
    · split at h
      · rcases List.mem_cons.1 h with h | h
        · exact .inl h
        · exact .inr h
      · rcases List.mem_cons.1 h with h | h
        · exact .inl h
        · exact .inr (List.mem_cons_of_mem _ h)
theorem lk_above {n : ByteArray} : ∀ {l : List Fd}, (∀ f ∈ l, lt n f.1 = true) → lk l n = none
  | [], _ => rfl
  | f :: r, h => by
    rw [lk, if_neg (fun e => by have := h f (List.mem_cons_self ..); rw [e, lt_irrefl] at this; cases this)]
    exact lk_above fun g hg => h g (List.mem_cons_of_mem _ hg)
/-- Two rows in order that say the same of every name are the same. -/
theorem up_ext : ∀ {l r : List Fd}, Up l → Up r → (∀ m, lk l m = lk r m) → l = r
  | [], [], _, _, _ => rfl
  | [], g :: s, _, _, h => by
    have := h g.1
    rw [lk, lk, if_pos rfl] at this
    cases this
  | f :: r, [], _, _, h => by
    have := h f.1
    rw [lk, lk, if_pos rfl] at this
    cases this
  | f :: r, g :: s, hl, hr, h => by
    have h1 := List.pairwise_cons.1 hl
    have h2 := List.pairwise_cons.1 hr
    have e1 : f.1 = g.1 := by
      refine lt_total ?_ ?_
      · rw [Bool.eq_false_iff]
        intro k
        have h3 : lk (g :: s) f.1 = none := lk_above fun x hx => by
          rcases List.mem_cons.1 hx with rfl | hx
          · exact k
          · exact lt_trans k (h2.1 x hx)
        rw [← h, lk, if_pos rfl] at h3
        cases h3
      · rw [Bool.eq_false_iff]
        intro k
        have h3 : lk (f :: r) g.1 = none := lk_above fun x hx => by
          rcases List.mem_cons.1 hx with rfl | hx
          · exact k
          · exact lt_trans k (h1.1 x hx)
        rw [h, lk, if_pos rfl] at h3
        cases h3
    have e2 : f.2 = g.2 := by
      have := h f.1
      rw [lk, lk, if_pos rfl, if_pos e1.symm] at this
      exact Option.some.inj this
    have e3 : r = s := up_ext h1.2 h2.2 fun m => by
      by_cases hm : f.1 = m
      · subst hm
        rw [lk_above h1.1, lk_above (fun x hx => by rw [e1]; exact h2.1 x hx)]
      · have := h m
        rw [lk, lk, if_neg hm, if_neg (by rw [← e1]; exact hm)] at this
        exact this
    rw [e3, Prod.ext e1 e2]
theorem lk_mem {n t : ByteArray} : ∀ {l : List Fd}, lk l n = some t → (n, t) ∈ l
  | f :: r, h => by
    rw [lk] at h
    split at h
    · rename_i e
      have e2 := Option.some.inj h
      rw [← e, ← e2]
      exact List.mem_cons_self ..
    · exact List.mem_cons_of_mem _ (lk_mem h)
theorem lk_some {f : Fd} : ∀ {l : List Fd}, f ∈ l → (lk l f.1).isSome = true
  | g :: r, h => by
    rw [lk]
    split
    · rfl
    · rename_i hn
      rcases List.mem_cons.1 h with e | h
      · exact absurd (by rw [e]) hn
      · exact lk_some h
theorem Split.lk {n : ByteArray} : ∀ {A l M B : List Fd}, Split n l A M B → Ia.lk l n = if there M = true then some (txt M) else none
  | f :: A, l, M, B, h => by
    have e := h.e
    subst e
    have h1 : Split n (A ++ M ++ B) A M B := ⟨rfl, fun g hg => h.a g (List.mem_cons_of_mem _ hg), h.m, h.ml, h.b⟩
    have h2 : lt f.1 n = true := h.a f (List.mem_cons_self ..)
    show Ia.lk (f :: (A ++ M ++ B)) n = _
    rw [Ia.lk, if_neg (fun e => by rw [e, lt_irrefl] at h2; cases h2), h1.lk]
  | [], l, M, B, h => by
    have e := h.e
    subst e
    rcases M_cases h with rfl | ⟨u, rfl⟩
    · rw [if_neg (by decide)]
      exact lk_above h.b
    · show Ia.lk ((n, u) :: B) n = _
      rw [Ia.lk, if_pos rfl]
      rfl
/-- Behind j fields: each once, in order, a name's text is the last one's. -/
structure FI (l : List Fd) (j : Nat) (r : List Fd) : Prop where
  up : Up r
  len : r.length ≤ j
  pos : 0 < j → 0 < r.length
  sz : ∀ f ∈ r, f.1.size ≤ 500 ∧ f.2.size ≤ 4000
  lk : ∀ m, lk r m = Ia.lk (l.take j).reverse m
theorem FI.nil (l : List Fd) : FI l 0 [] := ⟨List.Pairwise.nil, Nat.le_refl _, fun h => absurd h (Nat.lt_irrefl _), by simp, fun m => by simp [Ia.lk]⟩
theorem FI.step {l r : List Fd} {j : Nat} (h : FI l j r) (hj : j < l.length) (h1 : l[j].1.size ≤ 500) (h2 : l[j].2.size ≤ 4000) : FI l (j + 1) (ins l[j].1 l[j].2 r) := by
  refine ⟨ins_up h.up _ _, ?_, fun _ => (ins_len _ _ _).1, fun f hf => ?_, fun m => ?_⟩
  · have := (ins_len l[j].1 l[j].2 r).2
    have := h.len
    omega
  · rcases ins_mem hf with rfl | hf
    · exact ⟨h1, h2⟩
    · exact h.sz f hf
  · rw [lk_ins, h.lk, List.take_succ_eq_append_getElem hj, List.reverse_append]
    rfl
/-- Behind the fields from i on, taken backward with the last's texts. -/
structure BI (l a : List Fd) (i : Nat) (r : List Fd) : Prop where
  up : Up r
  len : r.length ≤ l.length - i
  sz : ∀ f ∈ r, f.1.size ≤ 500 ∧ f.2.size ≤ 4000
  lk : ∀ m, lk r m = if (Ia.lk (l.drop i) m).isSome = true then Ia.lk a m else none
theorem BI.nil (l a : List Fd) : BI l a l.length [] := ⟨List.Pairwise.nil, by simp, by simp, fun m => by simp [Ia.lk]⟩
theorem BI.step {l a r : List Fd} {i : Nat} (ha : FI l l.length a) (h : BI l a (i + 1) r) (hi : i < l.length) (h1 : l[i].1.size ≤ 500) {t : ByteArray} (ht : Ia.lk a l[i].1 = some t) : BI l a i (ins l[i].1 t r) := by
  refine ⟨ins_up h.up _ _, ?_, fun f hf => ?_, fun m => ?_⟩
  · have := (ins_len l[i].1 t r).2
    have := h.len
    omega
  · rcases ins_mem hf with rfl | hf
    · exact ⟨h1, (ha.sz _ (lk_mem ht)).2⟩
    · exact h.sz f hf
  · rw [lk_ins, h.lk, List.drop_eq_getElem_cons hi, Ia.lk]
    by_cases hm : l[i].1 = m
    · subst hm
      rw [if_pos rfl, if_pos rfl, if_pos (show (Option.some l[i].2).isSome = true from rfl), ht]
    · rw [if_neg hm, if_neg hm]
theorem FI.some {l a : List Fd} (ha : FI l l.length a) {i : Nat} (hi : i < l.length) : ∃ t, Ia.lk a l[i].1 = Option.some t := by
  have h : (Ia.lk a l[i].1).isSome = true := by
    rw [ha.lk, List.take_length]
    exact lk_some (List.mem_reverse.2 (List.getElem_mem hi))
  exact Option.isSome_iff_exists.1 h
theorem BI.same {l a r : List Fd} (ha : FI l l.length a) (h : BI l a 0 r) : r = a := by
  refine up_ext h.up ha.up fun m => ?_
  rw [h.lk, List.drop_zero]
  cases hm : Ia.lk l m with
  | some t => rfl
  | none =>
    cases ht : Ia.lk a m with
    | none => rfl
    | some t =>
      rw [ha.lk, List.take_length] at ht
      have h1 := lk_some (List.mem_reverse.1 (lk_mem ht))
      rw [hm] at h1
      cases h1
end Go.Proofs.YtjjphpklifbipaaDoor.Ia
