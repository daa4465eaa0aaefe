/- Layer 11, plain: a heap's first ones in order: what has been taken, and whose turn comes. No program, no condition. -/
import Derived.Test.YtmjlhmohglbecaaGreatDoorEaT
namespace Go.Proofs.YtmjlhmohglbecaaGreatDoor.Ea
def ent (l : List En) (p : Nat) : Du := (l.getD p enD).d
theorem ltT_ent (l : List En) (i j : Nat) : ltT l i j = ltE (ent l i) (ent l j) := rfl
theorem ent_at {l : List En} {p : Nat} (h : p < l.length) : ent l p = l[p].d := by
  unfold ent
  rw [List.getD_eq_getElem?_getD, List.getElem?_eq_getElem h]; rfl
/-- The places taken, in order; those whose turn comes. -/
structure Fro (l : List En) (tk fr : List Nat) : Prop where
  nd : (tk ++ fr).Nodup
  lt : ∀ p ∈ tk ++ fr, p < l.length
  cl : ∀ p ∈ tk ++ fr, p = 0 ∨ par p ∈ tk
  co : ∀ p, p < l.length → (p = 0 ∨ par p ∈ tk) → p ∈ tk ++ fr
  up : UpD (tk.map (ent l))
  ah : ∀ p ∈ tk, ∀ q, q < l.length → q ∉ tk → ltE (ent l p) (ent l q) = true
/-- The children of a place. -/
def kidsOf (n p : Nat) : List Nat := [2 * p + 1, 2 * p + 2].filter fun c => decide (c < n)
section
variable {l : List En} {tk fr fr' : List Nat}
theorem Fro.perm (h : Fro l tk fr) (hp : List.Perm fr' fr) : Fro l tk fr' := by
  have hm : ∀ p, p ∈ tk ++ fr' ↔ p ∈ tk ++ fr := fun p => by simp [hp.mem_iff]
  exact ⟨(hp.append_left tk).nodup_iff.2 h.nd, fun p hm' => h.lt p ((hm p).1 hm'), fun p hm' => h.cl p ((hm p).1 hm'), fun p a b => (hm p).2 (h.co p a b), h.up, h.ah⟩
theorem Fro.start (l : List En) : Fro l [] (if 0 < l.length then [0] else []) := by
  have hm : ∀ p, p ∈ ([] : List Nat) ++ (if 0 < l.length then [0] else []) ↔ p = 0 ∧ 0 < l.length := fun p => by
    by_cases h : 0 < l.length
    · simp [h]
    · simp [h]
  refine ⟨?_, fun p hp => ?_, fun p hp => .inl ((hm p).1 hp).1, fun p hp h => ?_, List.Pairwise.nil, fun p hp => absurd hp (by simp)⟩
  · by_cases h : 0 < l.length <;> simp [h]
  · obtain ⟨e, h⟩ := (hm p).1 hp
    omega
  · rcases h with h | h
    · exact (hm p).2 ⟨h, by omega⟩
    · cases h
/-- Whoever hasn't been taken stands behind one whose turn comes. -/
theorem Fro.anc (h : Fro l tk fr) (hH : Hp (leB ltN) l l.length) : ∀ q, q < l.length → q ∉ tk → ∃ a ∈ fr, ltE (ent l q) (ent l a) = false := by
  intro q
  induction q using Nat.strongRecOn with
  | _ q ih =>
    intro hq hn
    by_cases hc : q = 0 ∨ par q ∈ tk
    · rcases List.mem_append.1 (h.co q hq hc) with h1 | h1
      · exact absurd h1 hn
      · exact ⟨q, h1, ltE_irrefl _⟩
    · rw [not_or] at hc
      have hp := par_lt (k := q) (by omega)
      obtain ⟨a, ha, hle⟩ := ih (par q) hp (by omega) hc.2
      refine ⟨a, ha, ?_⟩
      have h1 : ltE (ent l q) (ent l (par q)) = false := by
        rw [ent_at hq, ent_at (by omega)]
        exact hH q (by omega) hq _ _ (List.getElem?_eq_getElem (by omega)) (List.getElem?_eq_getElem hq)
      cases h2 : ltE (ent l q) (ent l a) with
      | false => rfl
      | true =>
        have := ltE_le_trans h2 hle
        rw [h1] at this; cases this
theorem ent_inj (hk : (l.map (·.k)).Nodup) {p q : Nat} (hp : p < l.length) (hq : q < l.length) (e : ent l p = ent l q) : p = q := by
  rw [ent_at hp, ent_at hq] at e
  have e2 : l[p].k = l[q].k := congrArg Prod.snd e
  exact (List.getElem_inj (h₀ := by rw [List.length_map]; exact hp) (h₁ := by rw [List.length_map]; exact hq) hk (i := p) (j := q)).1 (by simpa using e2)
/-- The least one whose turn comes is ahead of all that haven't been taken. -/
theorem Fro.least (h : Fro l tk fr) (hH : Hp (leB ltN) l l.length) (hk : (l.map (·.k)).Nodup) {p : Nat} (hp : p ∈ fr) (hm : ∀ q ∈ fr, ltE (ent l q) (ent l p) = false) : ∀ q, q < l.length → q ∉ tk → q ≠ p → ltE (ent l p) (ent l q) = true := fun q hq hn hne => by
  obtain ⟨a, ha, hle⟩ := h.anc hH q hq hn
  have hpl := h.lt p (List.mem_append_right _ hp)
  cases e : ltE (ent l p) (ent l q) with
  | true => rfl
  | false =>
    have e2 : ltE (ent l q) (ent l p) = false := by
      cases e3 : ltE (ent l q) (ent l p) with
      | false => rfl
      | true =>
        have := ltE_le_trans e3 (hm a ha)
        rw [hle] at this; cases this
    exact absurd (ent_inj hk hq hpl (ltE_total e2 e)) hne
theorem mem_kidsOf {n p c : Nat} : c ∈ kidsOf n p ↔ c < n ∧ 0 < c ∧ par c = p := by
  unfold kidsOf
  rw [List.mem_filter]
  constructor
  · rintro ⟨h, hc⟩
    have hc := of_decide_eq_true hc
    simp only [List.mem_cons, List.not_mem_nil, or_false] at h
    unfold par
    omega
  · rintro ⟨h1, h2, h3⟩
    refine ⟨?_, decide_eq_true h1⟩
    rcases kids h2 h3 with h | h <;> simp [h]
/-- One more taken. -/
theorem Fro.take (h : Fro l tk fr) (hH : Hp (leB ltN) l l.length) (hk : (l.map (·.k)).Nodup) {p : Nat} (hp : List.Perm (fr' ++ [p]) fr) (hm : ∀ q ∈ fr, ltE (ent l q) (ent l p) = false) : Fro l (tk ++ [p]) (fr' ++ kidsOf l.length p) := by
  have hpf : p ∈ fr := hp.mem_iff.1 (by simp)
  have h' := h.perm hp
  have hnd := h'.nd
  have hpl := h.lt p (List.mem_append_right _ hpf)
  have hpt : p ∉ tk := fun hx => by
    have := (List.nodup_append.1 h.nd).2.2 p hx p hpf
    exact this rfl
  have hL := h.least hH hk hpf hm
  have hkn : ∀ c ∈ kidsOf l.length p, c ∉ tk ++ (fr' ++ [p]) := fun c hc hx => by
    obtain ⟨h1, h2, h3⟩ := mem_kidsOf.1 hc
    rcases h'.cl c hx with e | e
    · omega
    · rw [h3] at e; exact hpt e
  have hmem : ∀ q, q ∈ (tk ++ [p]) ++ (fr' ++ kidsOf l.length p) ↔ q ∈ tk ++ (fr' ++ [p]) ∨ q ∈ kidsOf l.length p := fun q => by
    simp only [List.mem_append]
    constructor
    · rintro ((h | h) | (h | h)) <;> simp [h]
    · rintro ((h | (h | h)) | h) <;> simp [h]
  refine ⟨?_, fun q hq => ?_, fun q hq => ?_, fun q hq hc => ?_, ?_, fun o ho q hq hn => ?_⟩
  · have e : List.Perm ((tk ++ [p]) ++ (fr' ++ kidsOf l.length p)) ((tk ++ (fr' ++ [p])) ++ kidsOf l.length p) := by
      rw [List.append_assoc, List.append_assoc, List.append_assoc]
      refine List.Perm.append_left _ ?_
      rw [← List.append_assoc, ← List.append_assoc]
      exact List.perm_append_comm.append_right _
    refine e.nodup_iff.2 (List.nodup_append.2 ⟨hnd, ?_, fun a ha b hb e => ?_⟩)
    · unfold kidsOf
      refine List.Pairwise.filter _ ?_
      simp
    · exact hkn b hb (e ▸ ha)
  · rcases (hmem q).1 hq with h1 | h1
    · exact h'.lt q h1
    · exact (mem_kidsOf.1 h1).1
  · rcases (hmem q).1 hq with h1 | h1
    · rcases h'.cl q h1 with e | e
      · exact .inl e
      · exact .inr (List.mem_append_left _ e)
    · exact .inr (List.mem_append_right _ (by simp [(mem_kidsOf.1 h1).2.2]))
  · refine (hmem q).2 ?_
    rcases hc with e | e
    · exact .inl (h'.co q hq (.inl e))
    · rcases List.mem_append.1 e with e | e
      · exact .inl (h'.co q hq (.inr e))
      · have e : par q = p := by simpa using e
        by_cases q0 : q = 0
        · exact .inl (h'.co q hq (.inl q0))
        · exact .inr (mem_kidsOf.2 ⟨hq, by omega, e⟩)
  · rw [List.map_append]
    refine List.pairwise_append.2 ⟨h.up, List.pairwise_singleton _ _, fun a ha b hb => ?_⟩
    obtain ⟨o, ho, rfl⟩ := List.mem_map.1 ha
    have hb : b = ent l p := by simpa using hb
    subst hb
    exact h.ah o ho p hpl hpt
  · rw [List.mem_append, not_or] at hn
    have hqp : q ≠ p := by simpa using hn.2
    rcases List.mem_append.1 ho with ho | ho
    · exact h.ah o ho q hq hn.1
    · have : o = p := by simpa using ho
      subst this
      exact hL q hq hn.1 hqp
/-- What has been taken are the first ones; what hasn't, the others. -/
theorem Fro.out (h : Fro l tk fr) {S : List Du} (hS : UpD S) (hp : List.Perm (l.map En.d) S) : ∃ rest, S = tk.map (ent l) ++ rest ∧ ∀ r ∈ rest, ∃ q, q < l.length ∧ q ∉ tk ∧ ent l q = r := by
  have hin : ∀ p, p < l.length → ent l p ∈ S := fun p hp' => hp.mem_iff.1 (by rw [ent_at hp']; exact List.mem_map_of_mem (List.getElem_mem hp'))
  have hex : ∀ s ∈ S, ∃ q, q < l.length ∧ ent l q = s := fun s hs => by
    obtain ⟨e, he, rfl⟩ := List.mem_map.1 (hp.mem_iff.2 hs)
    obtain ⟨q, hq, rfl⟩ := List.mem_iff_getElem.1 he
    exact ⟨q, hq, ent_at hq⟩
  have h1 := first_of h.up hS (fun o ho => by
    obtain ⟨p, hp', rfl⟩ := List.mem_map.1 ho
    exact hin p (h.lt p (List.mem_append_left _ hp'))) (fun s hs => by
    obtain ⟨q, hq, rfl⟩ := hex s hs
    by_cases hqt : q ∈ tk
    · exact .inl (List.mem_map_of_mem hqt)
    · refine .inr fun o ho => ?_
      obtain ⟨p, hp', rfl⟩ := List.mem_map.1 ho
      exact h.ah p hp' q hq hqt)
  refine ⟨S.drop (tk.map (ent l)).length, ?_, fun r hr => ?_⟩
  · have e := List.take_append_drop (tk.map (ent l)).length S
    rw [← h1] at e
    exact e.symm
  · obtain ⟨q, hq, rfl⟩ := hex r (List.mem_of_mem_drop hr)
    refine ⟨q, hq, fun hqt => ?_, rfl⟩
    have hnd := hS.nodup
    have e := List.take_append_drop (tk.map (ent l)).length S
    rw [← h1] at e
    rw [← e] at hnd
    exact (List.nodup_append.1 hnd).2.2 _ (List.mem_map_of_mem hqt) _ hr rfl
end
end Go.Proofs.YtmjlhmohglbecaaGreatDoor.Ea
