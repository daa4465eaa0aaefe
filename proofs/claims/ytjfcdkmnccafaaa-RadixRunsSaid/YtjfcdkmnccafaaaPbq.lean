/- Walk's and Above's answers, as parts of the one list of marks. No condition. -/
import Derived.Test.YtjfcdkmnccafaaaPbo
import Derived.Test.YtjfcdkmnccafaaaPbp
namespace Go.Proofs.Ytjfcdkmnccafaaa.Pb
open Go.RowKit Go.Shelf
/-- All marks, in order. -/
def allM (t : Tr) : List Pa.Mk := mkL t (sub t 1000000 t.rt)
theorem mem_allM {t : Tr} (ho : Ok t) (hM : ∀ b ∈ t.B, (t.tx b).length ≤ 1000000) {p : Pa.Mk} : p ∈ allM t ↔ ∃ c ∈ t.B, t.nm c = some p.2 ∧ bs (t.tx c) = p.1 := by
  unfold allM
  rw [mem_mkL]
  constructor
  · rintro ⟨c, hc, h⟩
    exact ⟨c, ((mem_sub ho hM ho.rin c).1 hc).1, h⟩
  · rintro ⟨c, hc, h⟩
    exact ⟨c, (mem_sub ho hM ho.rin c).2 ⟨hc, by rw [ho.rtx]; exact List.nil_prefix⟩, h⟩
theorem allM_sorted {t : Tr} (ho : Ok t) (hM : ∀ b ∈ t.B, (t.tx b).length ≤ 1000000) : (allM t).Pairwise MLt := mkL_sorted ho hM ho.rin
/-- Walk: the marks whose keys begin so. -/
theorem WalkL.eq {t : Tr} (ho : Ok t) (hM : ∀ b ∈ t.B, (t.tx b).length ≤ 1000000) {K : T} {ys : List Pa.Mk} (h : WalkL t K ys) : ys = (allM t).filter fun p => K.isPrefixOf p.1.data.toList := by
  obtain ⟨b, hL, h⟩ := h
  have hb := hL.on.1
  rcases h with ⟨hl, rfl⟩ | ⟨hl, rfl⟩
  · symm
    rw [List.filter_eq_nil_iff]
    intro p hp hk
    obtain ⟨d, hd, h1, h2⟩ := (mem_allM ho hM).1 hp
    rw [← h2, data_of_bs, List.isPrefixOf_iff_prefix] at hk
    have h3 := hL.inv d hd hk
    obtain ⟨c, hc, h4⟩ := ho.kid b hb d hd h3 (fun e => by have := hk.length_le; rw [← e] at this; omega)
    rcases hL.nx with ⟨-, h5 | h5⟩ | ⟨-, c', -, e, -⟩
    · omega
    · obtain ⟨n1, n2⟩ := h5 c hc
      rcases pre_cmp h4 hk with h6 | h6
      · exact n1 h6
      · exact n2 h6
    · cases e
  · have hKb : K <+: t.tx b := by
      rcases hL.on.2 with h1 | h1
      · have e := h1.eq_of_length (Nat.le_antisymm h1.length_le hl)
        rw [e]
        exact List.prefix_refl _
      · exact h1
    refine sorted_ext MLt.irr MLt.asymm (mkL_sorted ho hM hb) ((allM_sorted ho hM).filter _) fun p => ?_
    rw [List.mem_filter, mem_allM ho hM, mem_mkL]
    constructor
    · rintro ⟨c, hc, h1, h2⟩
      obtain ⟨h3, h4⟩ := (mem_sub ho hM hb c).1 hc
      refine ⟨⟨c, h3, h1, h2⟩, ?_⟩
      rw [← h2, data_of_bs]
      exact List.isPrefixOf_iff_prefix.2 (hKb.trans h4)
    · rintro ⟨⟨c, hc, h1, h2⟩, h3⟩
      rw [← h2, data_of_bs] at h3
      exact ⟨c, (mem_sub ho hM hb c).2 ⟨hc, hL.inv c hc (List.isPrefixOf_iff_prefix.1 h3)⟩, h1, h2⟩
/-- The texts along a way rise. -/
theorem way_rise {t : Tr} {K : T} (ho : Ok t) {b : Nat} {xs : List Nat} (h : Way t K b xs) (hb : b ∈ t.B) : (∀ x ∈ xs, t.tx b <+: t.tx x) ∧ xs.Pairwise (fun x y => t.tx x <+: t.tx y ∧ t.tx x ≠ t.tx y) := by
  induction h with
  | last h => exact ⟨fun x hx => by rw [List.mem_singleton.1 hx]; exact List.prefix_refl _, List.pairwise_singleton ..⟩
  | @more b c l h hl ih =>
    have hc : c ∈ t.ks b := by
      rcases h with ⟨e, -⟩ | ⟨-, d, hd, e, -⟩
      · cases e
      · injection e with e
        rw [e]; exact hd
    obtain ⟨k1, k2, k3⟩ := ho.kin b hb c hc
    obtain ⟨i1, i2⟩ := ih k1
    have hlen : (t.tx b).length < (t.tx c).length := Nat.lt_of_le_of_ne k2.length_le (fun e => k3 (k2.eq_of_length e))
    refine ⟨fun x hx => ?_, List.pairwise_cons.2 ⟨fun x hx => ⟨k2.trans (i1 x hx), fun e => ?_⟩, i2⟩⟩
    · rcases List.mem_cons.1 hx with rfl | hx
      · exact List.prefix_refl _
      · exact k2.trans (i1 x hx)
    · have := (i1 x hx).length_le
      rw [← e] at this
      omega
/-- Above: the marks with which the key begins. -/
theorem above_eq {t : Tr} (ho : Ok t) (hM : ∀ b ∈ t.B, (t.tx b).length ≤ 1000000) {K : T} {xs : List Nat} (hw : Way t K t.rt xs) {ys : List (Nd t)} (hy : ys.map (·.1) = xs) : aboveF t K ys = (allM t).filter fun p => p.1.data.toList.isPrefixOf K := by
  have hon := (root_on ho K).1
  obtain ⟨-, hrise⟩ := way_rise ho hw ho.rin
  have hmem : ∀ p : Pa.Mk, p ∈ aboveF t K ys ↔ ∃ c ∈ xs, (t.tx c).length ≤ K.length ∧ t.nm c = some p.2 ∧ bs (t.tx c) = p.1 := by
    intro p
    unfold aboveF
    rw [List.mem_filterMap]
    constructor
    · rintro ⟨x, hx, e⟩
      by_cases hl : (t.tx x.1).length ≤ K.length
      · rw [if_pos hl] at e
        cases hn : t.nm x.1 with
        | none => rw [hn] at e; cases e
        | some n =>
          rw [hn] at e
          injection e with e
          subst e
          exact ⟨x.1, by rw [← hy]; exact List.mem_map_of_mem hx, hl, hn, rfl⟩
      · rw [if_neg hl] at e
        cases e
    · rintro ⟨c, hc, hl, h1, h2⟩
      rw [← hy] at hc
      obtain ⟨x, hx, rfl⟩ := List.mem_map.1 hc
      refine ⟨x, hx, ?_⟩
      rw [if_pos hl, h1]
      show some (bs (t.tx x.1), p.2) = some p
      rw [h2]
  have hsort : (aboveF t K ys).Pairwise MLt := by
    unfold aboveF
    rw [List.pairwise_filterMap]
    have h1 : ys.Pairwise (fun x y => t.tx x.1 <+: t.tx y.1 ∧ t.tx x.1 ≠ t.tx y.1) := by
      rw [← hy, List.pairwise_map] at hrise
      exact hrise
    refine h1.imp fun {x y} h p hp q hq => ?_
    split at hp
    · split at hq
      · cases hc : t.nm x.1 with
        | none => rw [hc] at hp; cases hp
        | some n =>
          cases hd : t.nm y.1 with
          | none => rw [hd] at hq; cases hq
          | some k =>
            rw [hc] at hp
            rw [hd] at hq
            cases hp
            cases hq
            show Lt (bs (t.tx x.1)).data.toList (bs (t.tx y.1)).data.toList
            rw [data_of_bs, data_of_bs]
            exact .pre h.1 h.2
      · cases hq
    · cases hp
  refine sorted_ext MLt.irr MLt.asymm hsort ((allM_sorted ho hM).filter _) fun p => ?_
  rw [hmem, List.mem_filter, mem_allM ho hM]
  constructor
  · rintro ⟨c, hc, hl, h1, h2⟩
    have hcon := way_on ho hw hon c hc
    refine ⟨⟨c, hcon.1, h1, h2⟩, ?_⟩
    rw [← h2, data_of_bs, List.isPrefixOf_iff_prefix]
    rcases hcon.2 with h3 | h3
    · exact h3
    · rw [h3.eq_of_length (Nat.le_antisymm h3.length_le hl)]
      exact List.prefix_refl _
  · rintro ⟨⟨c, hc, h1, h2⟩, h3⟩
    rw [← h2, data_of_bs, List.isPrefixOf_iff_prefix] at h3
    exact ⟨c, way_mem ho hw hon hc (by rw [ho.rtx]; exact List.nil_prefix) h3, h3.length_le, h1, h2⟩
end Go.Proofs.Ytjfcdkmnccafaaa.Pb
