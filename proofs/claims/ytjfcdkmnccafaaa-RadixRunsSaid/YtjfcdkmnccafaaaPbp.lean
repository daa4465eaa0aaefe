/- A tree's marks in order, as one list: what Walk's and Above's answers are cut of. No condition. -/
import Derived.Test.YtjfcdkmnccafaaaPbm
namespace Go.Proofs.Ytjfcdkmnccafaaa.Pb
open Go.RowKit Go.Shelf
theorem Lt.asymm {p q : T} (h : Lt p q) (k : Lt q p) : False := by
  rcases h with ⟨h1, h2⟩ | ⟨r, x, y, h1, h2, h3⟩
  · rcases k with ⟨k1, k2⟩ | ⟨r, x, y, k1, k2, k3⟩
    · exact h2 (h1.eq_of_length (Nat.le_antisymm h1.length_le k1.length_le))
    · have := ext_one k1 (k2.trans h1)
      subst this
      exact ulirr x k3
  · rcases k with ⟨k1, k2⟩ | ⟨r', x', y', k1, k2, k3⟩
    · have := ext_one (h1) (h2.trans k1)
      subst this
      exact ulirr x h3
    · have hr1 : r <+: p := (List.prefix_append r [x]).trans h1
      have hr2 : r <+: q := (List.prefix_append r [y]).trans h2
      have hr3 : r' <+: q := (List.prefix_append r' [x']).trans k1
      have hr4 : r' <+: p := (List.prefix_append r' [y']).trans k2
      have e1 : (r ++ [x]).length = r.length + 1 := by simp
      have e2 : (r' ++ [y']).length = r'.length + 1 := by simp
      rcases Nat.lt_trichotomy r.length r'.length with hl | hl | hl
      · have := ext_one ((List.prefix_of_prefix_length_le h1 hr4 (by omega)).trans hr3) h2
        subst this
        exact ulirr x h3
      · have e : r = r' := (List.prefix_of_prefix_length_le hr1 hr4 (by omega)).eq_of_length hl
        subst e
        have a1 := ext_one h1 k2
        have a2 := ext_one h2 k1
        subst a1 a2
        exact ulirr _ (UInt8.lt_trans h3 k3)
      · have := ext_one ((List.prefix_of_prefix_length_le k2 hr1 (by omega)).trans hr2) k1
        subst this
        exact ulirr _ k3
/-- Two lists in the same strict order with the same members are one. -/
theorem sorted_ext {α : Type} {R : α → α → Prop} (hi : ∀ x, ¬ R x x) (ha : ∀ x y, R x y → R y x → False) : ∀ {l r : List α}, l.Pairwise R → r.Pairwise R → (∀ x, x ∈ l ↔ x ∈ r) → l = r
  | [], [], _, _, _ => rfl
  | [], y :: r, _, _, h => by cases (h y).2 (List.mem_cons_self ..)
  | x :: l, [], _, _, h => by cases (h x).1 (List.mem_cons_self ..)
  | x :: l, y :: r, hl, hr, h => by
    obtain ⟨hx, hl'⟩ := List.pairwise_cons.1 hl
    obtain ⟨hy, hr'⟩ := List.pairwise_cons.1 hr
    clear hl hr
    have e : x = y := by
      rcases List.mem_cons.1 ((h x).1 (List.mem_cons_self ..)) with e | e
      · exact e
      · rcases List.mem_cons.1 ((h y).2 (List.mem_cons_self ..)) with e' | e'
        · exact e'.symm
        · exact (ha _ _ (hy x e) (hx y e')).elim
    subst e
    congr 1
    refine sorted_ext hi ha hl' hr' fun z => ⟨fun hz => ?_, fun hz => ?_⟩
    · rcases List.mem_cons.1 ((h z).1 (List.mem_cons_of_mem _ hz)) with e | e
      · subst e
        exact (hi z (hx z hz)).elim
      · exact e
    · rcases List.mem_cons.1 ((h z).2 (List.mem_cons_of_mem _ hz)) with e | e
      · subst e
        exact (hi z (hy z hz)).elim
      · exact e
def MLt (p q : Pa.Mk) : Prop := Lt p.1.data.toList q.1.data.toList
theorem MLt.irr (p : Pa.Mk) : ¬ MLt p p := fun h => Lt.irr h
theorem MLt.asymm (p q : Pa.Mk) (h : MLt p q) (k : MLt q p) : False := Lt.asymm h k
theorem data_of_bs (x : T) : (bs x).data.toList = x := by simp [bs]
theorem mem_mkL {t : Tr} {l : List Nat} {p : Pa.Mk} : p ∈ mkL t l ↔ ∃ c ∈ l, t.nm c = some p.2 ∧ bs (t.tx c) = p.1 := by
  unfold mkL
  rw [List.mem_filterMap]
  constructor
  · rintro ⟨c, hc, e⟩
    cases hn : t.nm c with
    | none => rw [hn] at e; cases e
    | some n =>
      rw [hn] at e
      injection e with e
      subst e
      exact ⟨c, hc, hn, rfl⟩
  · rintro ⟨c, hc, e1, e2⟩
    exact ⟨c, hc, by rw [e1]; show some (bs (t.tx c), p.2) = some p; rw [e2]⟩
theorem mkL_sorted {t : Tr} (ho : Ok t) {M : Nat} (hM : ∀ b ∈ t.B, (t.tx b).length ≤ M) {b : Nat} (hb : b ∈ t.B) : (mkL t (sub t M b)).Pairwise MLt := by
  unfold mkL
  rw [List.pairwise_filterMap]
  refine (subF_lt ho hM _ b hb (Nat.le_refl _)).imp fun {c d} h p hp q hq => ?_
  cases hc : t.nm c with
  | none => rw [hc] at hp; cases hp
  | some n =>
    cases hd : t.nm d with
    | none => rw [hd] at hq; cases hq
    | some k =>
      rw [hc] at hp
      rw [hd] at hq
      cases hp
      cases hq
      show Lt (bs (t.tx c)).data.toList (bs (t.tx d)).data.toList
      rw [data_of_bs, data_of_bs]
      exact h
/-- The marks from b on: those of all whose keys begin with b's text. -/
theorem mkL_filter {t : Tr} (ho : Ok t) {M : Nat} (hM : ∀ b ∈ t.B, (t.tx b).length ≤ M) {b : Nat} (hb : b ∈ t.B) : mkL t (sub t M b) = (mkL t (sub t M t.rt)).filter fun p => (t.tx b).isPrefixOf p.1.data.toList := by
  refine sorted_ext MLt.irr MLt.asymm (mkL_sorted ho hM hb) ((mkL_sorted ho hM ho.rin).filter _) fun p => ?_
  rw [List.mem_filter, mem_mkL, mem_mkL]
  constructor
  · rintro ⟨c, hc, h1, h2⟩
    obtain ⟨h3, h4⟩ := (mem_sub ho hM hb c).1 hc
    refine ⟨⟨c, (mem_sub ho hM ho.rin c).2 ⟨h3, by rw [ho.rtx]; exact List.nil_prefix⟩, h1, h2⟩, ?_⟩
    rw [← h2, data_of_bs]
    exact List.isPrefixOf_iff_prefix.2 h4
  · rintro ⟨⟨c, hc, h1, h2⟩, h3⟩
    rw [← h2, data_of_bs] at h3
    exact ⟨c, (mem_sub ho hM hb c).2 ⟨((mem_sub ho hM ho.rin c).1 hc).1, List.isPrefixOf_iff_prefix.1 h3⟩, h1, h2⟩
end Go.Proofs.Ytjfcdkmnccafaaa.Pb
