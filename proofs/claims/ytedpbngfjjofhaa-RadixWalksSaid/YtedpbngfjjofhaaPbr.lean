/- Plain: how many nodes there are; the last mark of Above. No condition. -/
import Derived.Test.YtedpbngfjjofhaaPbq
namespace Go.Proofs.Ytedpbngfjjofhaa.Pb
open Go.RowKit Go.Shelf
theorem Lt.no_pre {p q : T} (h : Lt p q) (k : q <+: p) : False := by
  rcases h with ⟨h1, h2⟩ | ⟨r, x, y, h1, h2, h3⟩
  · exact h2 (h1.eq_of_length (Nat.le_antisymm h1.length_le k.length_le))
  · have := ext_one h1 (h2.trans k)
    subst this
    exact ulirr x h3
theorem last_of {α : Type} {R : α → α → Prop} {l : List α} (h : l.Pairwise R) {p : α} (hp : p ∈ l) (hn : ∀ q ∈ l, ¬ R p q) : l.getLast? = some p := by
  obtain ⟨s, u, rfl⟩ := List.append_of_mem hp
  cases u with
  | nil => simp
  | cons b u =>
    have h2 := (List.pairwise_append.1 h).2.1
    exact (hn b (by simp) ((List.pairwise_cons.1 h2).1 b (List.mem_cons_self ..))).elim
theorem above_last {t : Tr} (ho : Ok t) (hM : ∀ b ∈ t.B, (t.tx b).length ≤ 1000000) {K : T} {n : Int} (h : (bs K, n) ∈ allM t) : ((allM t).filter fun p => p.1.data.toList.isPrefixOf K).getLast? = some (bs K, n) := by
  refine last_of ((allM_sorted ho hM).filter _) (List.mem_filter.2 ⟨h, by
    show ((bs K).data.toList).isPrefixOf K = true
    rw [data_of_bs]
    exact List.isPrefixOf_iff_prefix.2 (List.prefix_refl _)⟩) fun q hq hR => ?_
  have h2 := (List.mem_filter.1 hq).2
  have h3 : Lt (bs K).data.toList q.1.data.toList := hR
  rw [data_of_bs] at h3
  exact h3.no_pre (List.isPrefixOf_iff_prefix.1 h2)
theorem kids_le {t : Tr} (ho : Ok t) : (t.B.flatMap t.ks).length + 1 ≤ t.B.length := by
  have hnd : (t.B.flatMap t.ks).Nodup := by
    unfold List.Nodup
    rw [List.pairwise_flatMap]
    refine ⟨fun b hb => ho.knd hb, ho.nd.imp_of_mem fun {b c} hb hc hbc x hx y hy e => ?_⟩
    subst e
    exact hbc (ho.par_one hb hc hx hy)
  have h1 := nd_le (r := t.B.erase t.rt) hnd fun x hx => by
    obtain ⟨b, hb, hx⟩ := List.mem_flatMap.1 hx
    obtain ⟨k1, k2, k3⟩ := ho.kin b hb x hx
    refine (List.mem_erase_of_ne fun e => ?_).2 k1
    subst e
    rw [ho.rtx] at k2 k3
    exact k3 (List.prefix_nil.1 k2)
  rw [List.length_erase_of_mem ho.rin] at h1
  have := List.length_pos_of_mem ho.rin
  omega
theorem nodes_sum {t : Tr} (hm : Mn t none) : ∀ {l : List Nat}, (∀ b ∈ l, b ∈ t.B) → 2 * l.length ≤ (l.flatMap t.ks).length + 2 * (l.filter fun b => (t.nm b).isSome).length + 2 * (l.filter fun b => decide (b = t.rt)).length
  | [], _ => Nat.zero_le _
  | b :: l, h => by
    have ih := nodes_sum hm (l := l) fun c hc => h c (List.mem_cons_of_mem _ hc)
    rw [List.flatMap_cons, List.length_append, List.length_cons, List.filter_cons, List.filter_cons]
    by_cases e1 : b = t.rt
    · rw [decide_eq_true e1]
      cases hs : (t.nm b).isSome <;> simp only [↓reduceIte, Bool.false_eq_true, List.length_cons] <;> omega
    · rw [decide_eq_false e1]
      rcases hm b (h b (List.mem_cons_self ..)) e1 (by simp) with h1 | h1
      · have h2 : (t.nm b).isSome = true := by
          cases hn : t.nm b with
          | none => exact (h1 hn).elim
          | some n => rfl
        rw [h2]
        simp only [↓reduceIte, Bool.false_eq_true, List.length_cons]
        omega
      · cases hs : (t.nm b).isSome <;> simp only [↓reduceIte, Bool.false_eq_true, List.length_cons] <;> omega
/-- Nodes: at most two for each mark, and the root. -/
theorem nodes_le {t : Tr} (ho : Ok t) (hm : Mn t none) : t.B.length ≤ 2 * (t.B.filter fun b => (t.nm b).isSome).length + 1 := by
  have h1 := nodes_sum hm (l := t.B) fun b hb => hb
  have h2 := kids_le ho
  have h3 := nd_le (l := t.B.filter fun b => decide (b = t.rt)) (r := [t.rt]) (ho.nd.filter _) fun x hx => by
    have := of_decide_eq_true (List.mem_filter.1 hx).2
    rw [this]
    simp
  have h4 : [t.rt].length = 1 := rfl
  omega
theorem nd_leT {α : Type} [DecidableEq α] : ∀ {l r : List α}, l.Nodup → (∀ x ∈ l, x ∈ r) → l.length ≤ r.length
  | [], _, _, _ => Nat.zero_le _
  | x :: l, r, hn, hs => by
    obtain ⟨h1, h2⟩ := List.nodup_cons.1 hn
    have hx := hs x (List.mem_cons_self ..)
    have h3 := nd_leT (r := r.erase x) h2 (fun y hy => (List.mem_erase_of_ne (fun (e : y = x) => h1 (by rw [← e]; exact hy))).2 (hs y (List.mem_cons_of_mem _ hy)))
    rw [List.length_erase_of_mem hx] at h3
    have := List.length_pos_of_mem hx
    rw [List.length_cons]
    omega
/-- A key is there: a node has it, and is marked. -/
theorem look_ex {t : Tr} (ho : Ok t) {K : T} {n : Int} : look t K = some n ↔ ∃ b ∈ t.B, t.tx b = K ∧ t.nm b = some n := by
  constructor
  · intro h
    by_cases hb : ∃ b ∈ t.B, t.tx b = K
    · obtain ⟨b, hb, rfl⟩ := hb
      rw [look_at ho hb] at h
      exact ⟨b, hb, rfl, h⟩
    · rw [look_no fun b hb' e => hb ⟨b, hb', e⟩] at h
      cases h
  · rintro ⟨b, hb, rfl, h⟩
    rw [look_at ho hb]
    exact h
theorem allM_look {t : Tr} (ho : Ok t) (hM : ∀ b ∈ t.B, (t.tx b).length ≤ 1000000) {K : T} {n : Int} : (bs K, n) ∈ allM t ↔ look t K = some n := by
  rw [mem_allM ho hM, look_ex ho]
  constructor
  · rintro ⟨c, hc, h1, h2⟩
    refine ⟨c, hc, ?_, h1⟩
    rw [← data_of_bs (t.tx c), ← data_of_bs K]
    exact congrArg (fun x : ByteArray => x.data.toList) h2
  · rintro ⟨c, hc, h1, h2⟩
    exact ⟨c, hc, h2, by rw [h1]⟩
/-- As many marked nodes as keys. -/
theorem marked_len {t : Tr} (ho : Ok t) {D : List T} (hD : D.Nodup) (h : ∀ K, look t K ≠ none ↔ K ∈ D) : (t.B.filter fun b => (t.nm b).isSome).length = D.length := by
  refine Nat.le_antisymm ?_ ?_
  · have h1 := nd_leT (l := (t.B.filter fun b => (t.nm b).isSome).map t.tx) (r := D) (by
      unfold List.Nodup
      rw [List.pairwise_map]
      exact (ho.nd.filter _).imp_of_mem fun {b c} hb hc hbc e => hbc (ho.inj b (List.mem_filter.1 hb).1 c (List.mem_filter.1 hc).1 e)) (fun K hK => by
      obtain ⟨b, hb, rfl⟩ := List.mem_map.1 hK
      obtain ⟨h1, h2⟩ := List.mem_filter.1 hb
      refine (h _).1 fun e => ?_
      rw [look_at ho h1] at e
      rw [e] at h2
      cases h2)
    rw [List.length_map] at h1
    exact h1
  · have h1 := nd_leT (l := D) (r := (t.B.filter fun b => (t.nm b).isSome).map t.tx) hD (fun K hK => by
      cases hl : look t K with
      | none => exact ((h K).2 hK hl).elim
      | some n =>
        obtain ⟨b, hb, rfl, h2⟩ := (look_ex ho).1 hl
        exact List.mem_map_of_mem (List.mem_filter.2 ⟨hb, by rw [h2]; rfl⟩))
    rw [List.length_map] at h1
    exact h1
end Go.Proofs.Ytedpbngfjjofhaa.Pb
