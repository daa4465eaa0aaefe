/- Plain: a way as a chain; a node less on it. No program, no condition. -/
import Derived.Test.YtjfcdkmnccafaaaPd4
import Derived.Test.YtjfcdkmnccafaaaPd5
namespace Go.Proofs.Ytjfcdkmnccafaaa.Pb
/-- f 0, f 1, .. f i: each below the one before, the root first. -/
structure Chn (t : Tr) (f : Nat → Nat) (i : Nat) : Prop where
  rt : f 0 = t.rt
  mem : ∀ j, j ≤ i → f j ∈ t.B
  kid : ∀ j, j < i → f (j + 1) ∈ t.ks (f j)
theorem Chn.lt {t : Tr} {f : Nat → Nat} {i : Nat} (h : Chn t f i) (ho : Ok t) {j : Nat} : ∀ {k : Nat}, j < k → k ≤ i → (t.tx (f j)).length < (t.tx (f k)).length := by
  intro k hjk hk
  induction k with
  | zero => omega
  | succ k ih =>
    obtain ⟨-, p, n⟩ := ho.kin (f k) (h.mem k (by omega)) (f (k + 1)) (h.kid k (by omega))
    have h1 : (t.tx (f k)).length < (t.tx (f (k + 1))).length := by
      have := p.length_le
      rcases Nat.lt_or_eq_of_le this with e | e
      · exact e
      · exact absurd (p.eq_of_length e) n
    rcases Nat.lt_or_eq_of_le (Nat.lt_succ_iff.1 hjk) with e | e
    · exact Nat.lt_trans (ih e (by omega)) h1
    · subst e; exact h1
theorem Chn.ne {t : Tr} {f : Nat → Nat} {i : Nat} (h : Chn t f i) (ho : Ok t) {j k : Nat} (hjk : j < k) (hk : k ≤ i) : f j ≠ f k := fun e => by
  have := h.lt ho hjk hk
  rw [e] at this
  omega
theorem Chn.mark {t : Tr} {f : Nat → Nat} {i : Nat} (h : Chn t f i) (b : Nat) (o : Option Int) : Chn (t.mark b o) f i := ⟨h.rt, h.mem, h.kid⟩
theorem Chn.skip {t : Tr} {f : Nat → Nat} {i : Nat} (h : Chn t f (i + 1)) (ho : Ok t) (l : List Nat) : Chn (t.skip (f i) (f (i + 1)) l) f i := by
  refine ⟨h.rt, fun j hj => ?_, fun j hj => ?_⟩
  · show f j ∈ t.B.filter _
    rw [List.mem_filter]
    exact ⟨h.mem j (by omega), by have := h.ne ho (j := j) (k := i + 1) (by omega) (Nat.le_refl _); simp [this]⟩
  · show f (j + 1) ∈ (if f j = f i then l else t.ks (f j))
    rw [if_neg (h.ne ho (by omega) (by omega))]
    exact h.kid j (by omega)
theorem way_chain {t : Tr} {K : T} (ho : Ok t) {b : Nat} {xs : List Nat} (h : Way t K b xs) (hb : b ∈ t.B) : xs.getD 0 0 = b ∧ 0 < xs.length ∧ (∀ j, j < xs.length → xs.getD j 0 ∈ t.B) ∧ ∀ j, j + 1 < xs.length → xs.getD (j + 1) 0 ∈ t.ks (xs.getD j 0) := by
  induction h with
  | @last b h => exact ⟨rfl, by simp, fun j hj => by
      have : j = 0 := by simpa using hj
      subst this; exact hb, fun j hj => by simp at hj⟩
  | @more b c l h hl ih =>
    have hc : c ∈ t.ks b := by
      rcases h with ⟨e, -⟩ | ⟨-, d, hd, e, -⟩
      · cases e
      · cases e; exact hd
    obtain ⟨h1, h2, h3, h4⟩ := ih (ho.kin b hb c hc).1
    refine ⟨rfl, by simp, fun j hj => ?_, fun j hj => ?_⟩
    · cases j with
      | zero => exact hb
      | succ j => exact h3 j (by simpa using hj)
    · cases j with
      | zero => show l.getD 0 0 ∈ t.ks b; rw [h1]; exact hc
      | succ j => exact h4 j (by simpa using hj)
theorem way_chn {t : Tr} {K : T} (ho : Ok t) {xs : List Nat} (h : Way t K t.rt xs) : 0 < xs.length ∧ Chn t (fun j => xs.getD j 0) (xs.length - 1) := by
  obtain ⟨h1, h2, h3, h4⟩ := way_chain ho h ho.rin
  exact ⟨h2, h1, fun j hj => h3 j (by omega), fun j hj => h4 j (by omega)⟩
theorem way_len {t : Tr} {K : T} (ho : Ok t) {xs : List Nat} (h : Way t K t.rt xs) (N : Nat) (hN : ∀ b ∈ t.B, (t.tx b).length ≤ N) : xs.length ≤ N + 1 := by
  obtain ⟨h1, hc⟩ := way_chn ho h
  generalize (fun j => xs.getD j 0) = f at hc
  have key : ∀ k, k ≤ xs.length - 1 → k ≤ (t.tx (f k)).length := by
    intro k
    induction k with
    | zero => intro _; exact Nat.zero_le _
    | succ k ih =>
      intro hk
      have := hc.lt ho (j := k) (k := k + 1) (by omega) hk
      have := ih (by omega)
      omega
  have h2 := key _ (Nat.le_refl _)
  have h3 := hN _ (hc.mem _ (Nat.le_refl _))
  omega
theorem Mn.unmark {t : Tr} {b : Nat} (h : Mn t none) : Mn (t.mark b none) (some b) := fun c hc hr hcb => by
  have hcb : c ≠ b := fun e => hcb (by rw [e])
  rcases h c hc hr (by simp) with h | h
  · exact .inl (by show (if c = b then none else t.nm c) ≠ none; rw [if_neg hcb]; exact h)
  · exact .inr h
theorem Mn.skip {t : Tr} {b x : Nat} {l : List Nat} (h : Mn t (some x)) : Mn (t.skip b x l) (some b) := fun c hc hr hcb => by
  have hcb : c ≠ b := fun e => hcb (by rw [e])
  have hc : c ∈ t.B.filter (fun c => !decide (c = x)) := hc
  rw [List.mem_filter] at hc
  have hcx : c ≠ x := by have := hc.2; simpa using this
  rcases h c hc.1 hr (fun e => hcx (by injection e)) with h | h
  · exact .inl h
  · exact .inr (by show 2 ≤ (if c = b then l else t.ks c).length; rw [if_neg hcb]; exact h)
theorem look_skip {t : Tr} {b x : Nat} {l : List Nat} (ho : Ok t) (ho' : Ok (t.skip b x l)) (hx : x ∈ t.B) (hn : t.nm x = none) (K : T) : look (t.skip b x l) K = look t K := by
  have mem : ∀ c, c ∈ (t.skip b x l).B ↔ c ∈ t.B ∧ c ≠ x := fun c => by show c ∈ t.B.filter _ ↔ _; simp
  by_cases hK : ∃ c ∈ t.B, t.tx c = K
  · obtain ⟨c, hc, rfl⟩ := hK
    rw [look_at ho hc]
    by_cases hcx : c = x
    · subst hcx
      rw [hn, look_no]
      intro d hd e
      exact ((mem d).1 hd).2 (ho.inj d ((mem d).1 hd).1 c hc e)
    · exact look_at ho' (b := c) ((mem c).2 ⟨hc, hcx⟩)
  · rw [look_no (t := t) (fun c hc e => hK ⟨c, hc, e⟩)]
    exact look_no (fun c hc e => hK ⟨c, ((mem c).1 hc).1, e⟩)
end Go.Proofs.Ytjfcdkmnccafaaa.Pb
