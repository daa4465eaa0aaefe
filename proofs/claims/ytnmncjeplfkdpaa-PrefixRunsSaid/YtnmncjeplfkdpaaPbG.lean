/- A tree's marks in order, as one list: what Walk's and Above's answers are cut of. No condition. -/
import Derived.Test.YtnmncjeplfkdpaaPbF
namespace Go.Proofs.Ytnmncjeplfkdpaa.Pb
open Go.RowKit Go.Shelf
theorem Lt.asymm {p q : T} (h : Lt p q) (k : Lt q p) : False := by
  rcases h with ⟨h1, h2⟩ | ⟨r, x, y, h1, h2, h3⟩
  · rcases k with ⟨k1, k2⟩ | ⟨r, x, y, k1, k2, k3⟩
    · exact h2 (h1.eq_of_length (Nat.le_antisymm h1.length_le k1.length_le))
    · have := ext_one k1 (k2.trans h1)
      subst this
      exact ulirr x k3
  · rcases k with ⟨k1, k2⟩ | ⟨r', x', y', k1, k2, k3⟩
    · have := ext_one (h1) (h2.trans k1)
      subst this
      exact ulirr x h3
    · have hr1 : r <+: p := (List.prefix_append r [x]).trans h1
      have hr2 : r <+: q := (List.prefix_append r [y]).trans h2
      have hr3 : r' <+: q := (List.prefix_append r' [x']).trans k1
      have hr4 : r' <+: p := (List.prefix_append r' [y']).trans k2
      have e1 : (r ++ [x]).length = r.length + 1 := by simp
      have e2 : (r' ++ [y']).length = r'.length + 1 := by simp
      rcases Nat.lt_trichotomy r.length r'.length with hl | hl | hl
      · have := ext_one ((List.prefix_of_prefix_length_le h1 hr4 (by omega)).trans hr3) h2
        subst this
        exact ulirr x h3
      · have e : r = r' := (List.prefix_of_prefix_length_le hr1 hr4 (by omega)).eq_of_length hl
        subst e
        have a1 := ext_one h1 k2
        have a2 := ext_one h2 k1
        subst a1 a2
        exact ulirr _ (UInt8.lt_trans h3 k3)
      · have := ext_one ((List.prefix_of_prefix_length_le k2 hr1 (by omega)).trans hr2) k1
        subst this
        exact ulirr _ k3
/-- Two lists in the same strict order with the same members are one. -/
theorem sorted_ext {α : Type} {R : α → α → Prop} (hi : ∀ x, ¬ R x x) (ha : ∀ x y, R x y → R y x → False) : ∀ {l r : List α}, l.Pairwise R → r.Pairwise R → (∀ x, x ∈ l ↔ x ∈ r) → l = r
  | [], [], _, _, _ => rfl
  | [], y :: r, _, _, h => by cases (h y).2 (List.mem_cons_self ..)
  | x :: l, [], _, _, h => by cases (h x).1 (List.mem_cons_self ..)
  | x :: l, y :: r, hl, hr, h => by
    obtain ⟨hx, hl'⟩ := List.pairwise_cons.1 hl
    obtain ⟨hy, hr'⟩ := List.pairwise_cons.1 hr
    clear hl hr
    have e : x = y := by
      rcases List.mem_cons.1 ((h x).1 (List.mem_cons_self ..)) with e | e
      · exact e
      · rcases List.mem_cons.1 ((h y).2 (List.mem_cons_self ..)) with e' | e'
        · exact e'.symm
        · exact (ha _ _ (hy x e) (hx y e')).elim
    subst e
    congr 1
    refine sorted_ext hi ha hl' hr' fun z => ⟨fun hz => ?_, fun hz => ?_⟩
    · rcases List.mem_cons.1 ((h z).1 (List.mem_cons_of_mem _ hz)) with e | e
      · subst e
        exact (hi z (hx z hz)).elim
      · exact e
    · rcases List.mem_cons.1 ((h z).2 (List.mem_cons_of_mem _ hz)) with e | e
      · subst e
        exact (hi z (hy z hz)).elim
      · exact e
def MLt (p q : Pa.Mk) : Prop := Lt p.1.data.toList q.1.data.toList
theorem MLt.irr (p : Pa.Mk) : ¬ MLt p p := fun h => Lt.irr h
theorem MLt.asymm (p q : Pa.Mk) (h : MLt p q) (k : MLt q p) : False := Lt.asymm h k
theorem data_of_bs (x : T) : (bs x).data.toList = x := by simp [bs]
theorem mem_mkL {t : Tr} {l : List Nat} {p : Pa.Mk} : p ∈ mkL t l ↔ ∃ c ∈ l, t.nm c = some p.2 ∧ bs (t.tx c) = p.1 := by
  unfold mkL
  rw [List.mem_filterMap]
  constructor
  · rintro ⟨c, hc, e⟩
    cases hn : t.nm c with
    | none => rw [hn] at e; cases e
    | some n =>
      rw [hn] at e
      injection e with e
      subst e
      exact ⟨c, hc, hn, rfl⟩
  · rintro ⟨c, hc, e1, e2⟩
    exact ⟨c, hc, by rw [e1]; show some (bs (t.tx c), p.2) = some p; rw [e2]⟩
theorem mkL_sorted {t : Tr} (ho : Ok t) {M : Nat} (hM : ∀ b ∈ t.B, (t.tx b).length ≤ M) {b : Nat} (hb : b ∈ t.B) : (mkL t (sub t M b)).Pairwise MLt := by
  unfold mkL
  rw [List.pairwise_filterMap]
  refine (subF_lt ho hM _ b hb (Nat.le_refl _)).imp fun {c d} h p hp q hq => ?_
  cases hc : t.nm c with
  | none => rw [hc] at hp; cases hp
  | some n =>
    cases hd : t.nm d with
    | none => rw [hd] at hq; cases hq
    | some k =>
      rw [hc] at hp
      rw [hd] at hq
      cases hp
      cases hq
      show Lt (bs (t.tx c)).data.toList (bs (t.tx d)).data.toList
      rw [data_of_bs, data_of_bs]
      exact h
/-- The marks from b on: those of all whose keys begin with b's text. -/
theorem mkL_filter {t : Tr} (ho : Ok t) {M : Nat} (hM : ∀ b ∈ t.B, (t.tx b).length ≤ M) {b : Nat} (hb : b ∈ t.B) : mkL t (sub t M b) = (mkL t (sub t M t.rt)).filter fun p => (t.tx b).isPrefixOf p.1.data.toList := by
  refine sorted_ext MLt.irr MLt.asymm (mkL_sorted ho hM hb) ((mkL_sorted ho hM ho.rin).filter _) fun p => ?_
  rw [List.mem_filter, mem_mkL, mem_mkL]
  constructor
  · rintro ⟨c, hc, h1, h2⟩
    obtain ⟨h3, h4⟩ := (mem_sub ho hM hb c).1 hc
    refine ⟨⟨c, (mem_sub ho hM ho.rin c).2 ⟨h3, by rw [ho.rtx]; exact List.nil_prefix⟩, h1, h2⟩, ?_⟩
    rw [← h2, data_of_bs]
    exact List.isPrefixOf_iff_prefix.2 h4
  · rintro ⟨⟨c, hc, h1, h2⟩, h3⟩
    rw [← h2, data_of_bs] at h3
    exact ⟨c, (mem_sub ho hM hb c).2 ⟨((mem_sub ho hM ho.rin c).1 hc).1, List.isPrefixOf_iff_prefix.1 h3⟩, h1, h2⟩
end Go.Proofs.Ytnmncjeplfkdpaa.Pb
/- Walk's and Above's answers, as parts of the one list of marks. No condition. -/
namespace Go.Proofs.Ytnmncjeplfkdpaa.Pb
open Go.RowKit Go.Shelf
/-- All marks, in order. -/
def allM (t : Tr) : List Pa.Mk := mkL t (sub t 140737488351232 t.rt)
theorem mem_allM {t : Tr} (ho : Ok t) (hM : ∀ b ∈ t.B, (t.tx b).length ≤ 140737488351232) {p : Pa.Mk} : p ∈ allM t ↔ ∃ c ∈ t.B, t.nm c = some p.2 ∧ bs (t.tx c) = p.1 := by
  unfold allM
  rw [mem_mkL]
  constructor
  · rintro ⟨c, hc, h⟩
    exact ⟨c, ((mem_sub ho hM ho.rin c).1 hc).1, h⟩
  · rintro ⟨c, hc, h⟩
    exact ⟨c, (mem_sub ho hM ho.rin c).2 ⟨hc, by rw [ho.rtx]; exact List.nil_prefix⟩, h⟩
theorem allM_sorted {t : Tr} (ho : Ok t) (hM : ∀ b ∈ t.B, (t.tx b).length ≤ 140737488351232) : (allM t).Pairwise MLt := mkL_sorted ho hM ho.rin
/-- Walk: the marks whose keys begin so. -/
theorem WalkL.eq {t : Tr} (ho : Ok t) (hM : ∀ b ∈ t.B, (t.tx b).length ≤ 140737488351232) {K : T} {ys : List Pa.Mk} (h : WalkL t K ys) : ys = (allM t).filter fun p => K.isPrefixOf p.1.data.toList := by
  obtain ⟨b, hL, h⟩ := h
  have hb := hL.on.1
  rcases h with ⟨hl, rfl⟩ | ⟨hl, rfl⟩
  · symm
    rw [List.filter_eq_nil_iff]
    intro p hp hk
    obtain ⟨d, hd, h1, h2⟩ := (mem_allM ho hM).1 hp
    rw [← h2, data_of_bs, List.isPrefixOf_iff_prefix] at hk
    have h3 := hL.inv d hd hk
    obtain ⟨c, hc, h4⟩ := ho.kid b hb d hd h3 (fun e => by have := hk.length_le; rw [← e] at this; omega)
    rcases hL.nx with ⟨-, h5 | h5⟩ | ⟨-, c', -, e, -⟩
    · omega
    · obtain ⟨n1, n2⟩ := h5 c hc
      rcases pre_cmp h4 hk with h6 | h6
      · exact n1 h6
      · exact n2 h6
    · cases e
  · have hKb : K <+: t.tx b := by
      rcases hL.on.2 with h1 | h1
      · have e := h1.eq_of_length (Nat.le_antisymm h1.length_le hl)
        rw [e]
        exact List.prefix_refl _
      · exact h1
    refine sorted_ext MLt.irr MLt.asymm (mkL_sorted ho hM hb) ((allM_sorted ho hM).filter _) fun p => ?_
    rw [List.mem_filter, mem_allM ho hM, mem_mkL]
    constructor
    · rintro ⟨c, hc, h1, h2⟩
      obtain ⟨h3, h4⟩ := (mem_sub ho hM hb c).1 hc
      refine ⟨⟨c, h3, h1, h2⟩, ?_⟩
      rw [← h2, data_of_bs]
      exact List.isPrefixOf_iff_prefix.2 (hKb.trans h4)
    · rintro ⟨⟨c, hc, h1, h2⟩, h3⟩
      rw [← h2, data_of_bs] at h3
      exact ⟨c, (mem_sub ho hM hb c).2 ⟨hc, hL.inv c hc (List.isPrefixOf_iff_prefix.1 h3)⟩, h1, h2⟩
/-- The texts along a way rise. -/
theorem way_rise {t : Tr} {K : T} (ho : Ok t) {b : Nat} {xs : List Nat} (h : Way t K b xs) (hb : b ∈ t.B) : (∀ x ∈ xs, t.tx b <+: t.tx x) ∧ xs.Pairwise (fun x y => t.tx x <+: t.tx y ∧ t.tx x ≠ t.tx y) := by
  induction h with
  | last h => exact ⟨fun x hx => by rw [List.mem_singleton.1 hx]; exact List.prefix_refl _, List.pairwise_singleton ..⟩
  | @more b c l h hl ih =>
    have hc : c ∈ t.ks b := by
      rcases h with ⟨e, -⟩ | ⟨-, d, hd, e, -⟩
      · cases e
      · injection e with e
        rw [e]; exact hd
    obtain ⟨k1, k2, k3⟩ := ho.kin b hb c hc
    obtain ⟨i1, i2⟩ := ih k1
    have hlen : (t.tx b).length < (t.tx c).length := Nat.lt_of_le_of_ne k2.length_le (fun e => k3 (k2.eq_of_length e))
    refine ⟨fun x hx => ?_, List.pairwise_cons.2 ⟨fun x hx => ⟨k2.trans (i1 x hx), fun e => ?_⟩, i2⟩⟩
    · rcases List.mem_cons.1 hx with rfl | hx
      · exact List.prefix_refl _
      · exact k2.trans (i1 x hx)
    · have := (i1 x hx).length_le
      rw [← e] at this
      omega
/-- Above: the marks with which the key begins. -/
theorem above_eq {t : Tr} (ho : Ok t) (hM : ∀ b ∈ t.B, (t.tx b).length ≤ 140737488351232) {K : T} {xs : List Nat} (hw : Way t K t.rt xs) {ys : List (Nd t)} (hy : ys.map (·.1) = xs) : aboveF t K ys = (allM t).filter fun p => p.1.data.toList.isPrefixOf K := by
  have hon := (root_on ho K).1
  obtain ⟨-, hrise⟩ := way_rise ho hw ho.rin
  have hmem : ∀ p : Pa.Mk, p ∈ aboveF t K ys ↔ ∃ c ∈ xs, (t.tx c).length ≤ K.length ∧ t.nm c = some p.2 ∧ bs (t.tx c) = p.1 := by
    intro p
    unfold aboveF
    rw [List.mem_filterMap]
    constructor
    · rintro ⟨x, hx, e⟩
      by_cases hl : (t.tx x.1).length ≤ K.length
      · rw [if_pos hl] at e
        cases hn : t.nm x.1 with
        | none => rw [hn] at e; cases e
        | some n =>
          rw [hn] at e
          injection e with e
          subst e
          exact ⟨x.1, by rw [← hy]; exact List.mem_map_of_mem hx, hl, hn, rfl⟩
      · rw [if_neg hl] at e
        cases e
    · rintro ⟨c, hc, hl, h1, h2⟩
      rw [← hy] at hc
      obtain ⟨x, hx, rfl⟩ := List.mem_map.1 hc
      refine ⟨x, hx, ?_⟩
      rw [if_pos hl, h1]
      show some (bs (t.tx x.1), p.2) = some p
      rw [h2]
  have hsort : (aboveF t K ys).Pairwise MLt := by
    unfold aboveF
    rw [List.pairwise_filterMap]
    have h1 : ys.Pairwise (fun x y => t.tx x.1 <+: t.tx y.1 ∧ t.tx x.1 ≠ t.tx y.1) := by
      rw [← hy, List.pairwise_map] at hrise
      exact hrise
    refine h1.imp fun {x y} h p hp q hq => ?_
    split at hp
    · split at hq
      · cases hc : t.nm x.1 with
        | none => rw [hc] at hp; cases hp
        | some n =>
          cases hd : t.nm y.1 with
          | none => rw [hd] at hq; cases hq
          | some k =>
            rw [hc] at hp
            rw [hd] at hq
            cases hp
            cases hq
            show Lt (bs (t.tx x.1)).data.toList (bs (t.tx y.1)).data.toList
            rw [data_of_bs, data_of_bs]
            exact .pre h.1 h.2
      · cases hq
    · cases hp
  refine sorted_ext MLt.irr MLt.asymm hsort ((allM_sorted ho hM).filter _) fun p => ?_
  rw [hmem, List.mem_filter, mem_allM ho hM]
  constructor
  · rintro ⟨c, hc, hl, h1, h2⟩
    have hcon := way_on ho hw hon c hc
    refine ⟨⟨c, hcon.1, h1, h2⟩, ?_⟩
    rw [← h2, data_of_bs, List.isPrefixOf_iff_prefix]
    rcases hcon.2 with h3 | h3
    · exact h3
    · rw [h3.eq_of_length (Nat.le_antisymm h3.length_le hl)]
      exact List.prefix_refl _
  · rintro ⟨⟨c, hc, h1, h2⟩, h3⟩
    rw [← h2, data_of_bs, List.isPrefixOf_iff_prefix] at h3
    exact ⟨c, way_mem ho hw hon hc (by rw [ho.rtx]; exact List.nil_prefix) h3, h3.length_le, h1, h2⟩
end Go.Proofs.Ytnmncjeplfkdpaa.Pb
/- Plain: how many nodes there are; the last mark of Above. No condition. -/
namespace Go.Proofs.Ytnmncjeplfkdpaa.Pb
open Go.RowKit Go.Shelf
theorem Lt.no_pre {p q : T} (h : Lt p q) (k : q <+: p) : False := by
  rcases h with ⟨h1, h2⟩ | ⟨r, x, y, h1, h2, h3⟩
  · exact h2 (h1.eq_of_length (Nat.le_antisymm h1.length_le k.length_le))
  · have := ext_one h1 (h2.trans k)
    subst this
    exact ulirr x h3
theorem last_of {α : Type} {R : α → α → Prop} {l : List α} (h : l.Pairwise R) {p : α} (hp : p ∈ l) (hn : ∀ q ∈ l, ¬ R p q) : l.getLast? = some p := by
  obtain ⟨s, u, rfl⟩ := List.append_of_mem hp
  cases u with
  | nil => simp
  | cons b u =>
    have h2 := (List.pairwise_append.1 h).2.1
    exact (hn b (by simp) ((List.pairwise_cons.1 h2).1 b (List.mem_cons_self ..))).elim
theorem above_last {t : Tr} (ho : Ok t) (hM : ∀ b ∈ t.B, (t.tx b).length ≤ 140737488351232) {K : T} {n : Int} (h : (bs K, n) ∈ allM t) : ((allM t).filter fun p => p.1.data.toList.isPrefixOf K).getLast? = some (bs K, n) := by
  refine last_of ((allM_sorted ho hM).filter _) (List.mem_filter.2 ⟨h, by
    show ((bs K).data.toList).isPrefixOf K = true
    rw [data_of_bs]
    exact List.isPrefixOf_iff_prefix.2 (List.prefix_refl _)⟩) fun q hq hR => ?_
  have h2 := (List.mem_filter.1 hq).2
  have h3 : Lt (bs K).data.toList q.1.data.toList := hR
  rw [data_of_bs] at h3
  exact h3.no_pre (List.isPrefixOf_iff_prefix.1 h2)
theorem kids_le {t : Tr} (ho : Ok t) : (t.B.flatMap t.ks).length + 1 ≤ t.B.length := by
  have hnd : (t.B.flatMap t.ks).Nodup := by
    unfold List.Nodup
    rw [List.pairwise_flatMap]
    refine ⟨fun b hb => ho.knd hb, ho.nd.imp_of_mem fun {b c} hb hc hbc x hx y hy e => ?_⟩
    subst e
    exact hbc (ho.par_one hb hc hx hy)
  have h1 := nd_le (r := t.B.erase t.rt) hnd fun x hx => by
    obtain ⟨b, hb, hx⟩ := List.mem_flatMap.1 hx
    obtain ⟨k1, k2, k3⟩ := ho.kin b hb x hx
    refine (List.mem_erase_of_ne fun e => ?_).2 k1
    subst e
    rw [ho.rtx] at k2 k3
    exact k3 (List.prefix_nil.1 k2)
  rw [List.length_erase_of_mem ho.rin] at h1
  have := List.length_pos_of_mem ho.rin
  omega
theorem nodes_sum {t : Tr} (hm : Mn t none) : ∀ {l : List Nat}, (∀ b ∈ l, b ∈ t.B) → 2 * l.length ≤ (l.flatMap t.ks).length + 2 * (l.filter fun b => (t.nm b).isSome).length + 2 * (l.filter fun b => decide (b = t.rt)).length
  | [], _ => Nat.zero_le _
  | b :: l, h => by
    have ih := nodes_sum hm (l := l) fun c hc => h c (List.mem_cons_of_mem _ hc)
    rw [List.flatMap_cons, List.length_append, List.length_cons, List.filter_cons, List.filter_cons]
    by_cases e1 : b = t.rt
    · rw [decide_eq_true e1]
      cases hs : (t.nm b).isSome <;> simp only [↓reduceIte, Bool.false_eq_true, List.length_cons] <;> omega
    · rw [decide_eq_false e1]
      rcases hm b (h b (List.mem_cons_self ..)) e1 (by simp) with h1 | h1
      · have h2 : (t.nm b).isSome = true := by
          cases hn : t.nm b with
          | none => exact (h1 hn).elim
          | some n => rfl
        rw [h2]
        simp only [↓reduceIte, Bool.false_eq_true, List.length_cons]
        omega
      · cases hs : (t.nm b).isSome <;> simp only [↓reduceIte, Bool.false_eq_true, List.length_cons] <;> omega
/-- Nodes: at most two for each mark, and the root. -/
theorem nodes_le {t : Tr} (ho : Ok t) (hm : Mn t none) : t.B.length ≤ 2 * (t.B.filter fun b => (t.nm b).isSome).length + 1 := by
  have h1 := nodes_sum hm (l := t.B) fun b hb => hb
  have h2 := kids_le ho
  have h3 := nd_le (l := t.B.filter fun b => decide (b = t.rt)) (r := [t.rt]) (ho.nd.filter _) fun x hx => by
    have := of_decide_eq_true (List.mem_filter.1 hx).2
    rw [this]
    simp
  have h4 : [t.rt].length = 1 := rfl
  omega
theorem nd_leT {α : Type} [DecidableEq α] : ∀ {l r : List α}, l.Nodup → (∀ x ∈ l, x ∈ r) → l.length ≤ r.length
  | [], _, _, _ => Nat.zero_le _
  | x :: l, r, hn, hs => by
    obtain ⟨h1, h2⟩ := List.nodup_cons.1 hn
    have hx := hs x (List.mem_cons_self ..)
    have h3 := nd_leT (r := r.erase x) h2 (fun y hy => (List.mem_erase_of_ne (fun (e : y = x) => h1 (by rw [← e]; exact hy))).2 (hs y (List.mem_cons_of_mem _ hy)))
    rw [List.length_erase_of_mem hx] at h3
    have := List.length_pos_of_mem hx
    rw [List.length_cons]
    omega
/-- A key is there: a node has it, and is marked. -/
theorem look_ex {t : Tr} (ho : Ok t) {K : T} {n : Int} : look t K = some n ↔ ∃ b ∈ t.B, t.tx b = K ∧ t.nm b = some n := by
  constructor
  · intro h
    by_cases hb : ∃ b ∈ t.B, t.tx b = K
    · obtain ⟨b, hb, rfl⟩ := hb
      rw [look_at ho hb] at h
      exact ⟨b, hb, rfl, h⟩
    · rw [look_no fun b hb' e => hb ⟨b, hb', e⟩] at h
      cases h
  · rintro ⟨b, hb, rfl, h⟩
    rw [look_at ho hb]
    exact h
theorem allM_look {t : Tr} (ho : Ok t) (hM : ∀ b ∈ t.B, (t.tx b).length ≤ 140737488351232) {K : T} {n : Int} : (bs K, n) ∈ allM t ↔ look t K = some n := by
  rw [mem_allM ho hM, look_ex ho]
  constructor
  · rintro ⟨c, hc, h1, h2⟩
    refine ⟨c, hc, ?_, h1⟩
    rw [← data_of_bs (t.tx c), ← data_of_bs K]
    exact congrArg (fun x : ByteArray => x.data.toList) h2
  · rintro ⟨c, hc, h1, h2⟩
    exact ⟨c, hc, h2, by rw [h1]⟩
/-- As many marked nodes as keys. -/
theorem marked_len {t : Tr} (ho : Ok t) {D : List T} (hD : D.Nodup) (h : ∀ K, look t K ≠ none ↔ K ∈ D) : (t.B.filter fun b => (t.nm b).isSome).length = D.length := by
  refine Nat.le_antisymm ?_ ?_
  · have h1 := nd_leT (l := (t.B.filter fun b => (t.nm b).isSome).map t.tx) (r := D) (by
      unfold List.Nodup
      rw [List.pairwise_map]
      exact (ho.nd.filter _).imp_of_mem fun {b c} hb hc hbc e => hbc (ho.inj b (List.mem_filter.1 hb).1 c (List.mem_filter.1 hc).1 e)) (fun K hK => by
      obtain ⟨b, hb, rfl⟩ := List.mem_map.1 hK
      obtain ⟨h1, h2⟩ := List.mem_filter.1 hb
      refine (h _).1 fun e => ?_
      rw [look_at ho h1] at e
      rw [e] at h2
      cases h2)
    rw [List.length_map] at h1
    exact h1
  · have h1 := nd_leT (l := D) (r := (t.B.filter fun b => (t.nm b).isSome).map t.tx) hD (fun K hK => by
      cases hl : look t K with
      | none => exact ((h K).2 hK hl).elim
      | some n =>
        obtain ⟨b, hb, rfl, h2⟩ := (look_ex ho).1 hl
        exact List.mem_map_of_mem (List.mem_filter.2 ⟨hb, by rw [h2]; rfl⟩))
    rw [List.length_map] at h1
    exact h1
end Go.Proofs.Ytnmncjeplfkdpaa.Pb
/- Plain: a node without a number parts two keys. No condition. -/
namespace Go.Proofs.Ytnmncjeplfkdpaa.Pb
open Go.RowKit Go.Shelf
theorem kid_ne_rt {t : Tr} (ho : Ok t) {b c : Nat} (hb : b ∈ t.B) (hc : c ∈ t.ks b) : c ≠ t.rt := fun e => by
  obtain ⟨-, h2, h3⟩ := ho.kin b hb c hc
  rw [e, ho.rtx] at h2 h3
  exact h3 (List.prefix_nil.1 h2)
theorem node_parts {t : Tr} (ho : Ok t) (hm : Mn t none) (hM : ∀ b ∈ t.B, (t.tx b).length ≤ 140737488351232) {b : Nat} (hb : b ∈ t.B) (hr : b ≠ t.rt) (hn : t.nm b = none) : ∃ d ∈ t.B, ∃ e ∈ t.B, t.nm d ≠ none ∧ t.nm e ≠ none ∧ ∃ x y : UInt8, x < y ∧ t.tx b ++ [x] <+: t.tx d ∧ t.tx b ++ [y] <+: t.tx e := by
  rcases hm b hb hr (by simp) with h | h
  · exact (h hn).elim
  · match hk : t.ks b, h with
    | c1 :: c2 :: l, _ =>
      have k1 : c1 ∈ t.ks b := by rw [hk]; simp
      have k2 : c2 ∈ t.ks b := by rw [hk]; simp
      have hs := ho.srt b hb
      rw [hk] at hs
      have h12 := (List.pairwise_cons.1 hs).1 c2 (by simp)
      obtain ⟨x, hx⟩ := ho.kext hb k1
      obtain ⟨y, hy⟩ := ho.kext hb k2
      obtain ⟨d, hd, d1, d2⟩ := marked_below ho hm 140737488351232 hM _ c1 (ho.kin b hb c1 k1).1 (kid_ne_rt ho hb k1) (Nat.le_refl _)
      obtain ⟨e, he, e1, e2⟩ := marked_below ho hm 140737488351232 hM _ c2 (ho.kin b hb c2 k2).1 (kid_ne_rt ho hb k2) (Nat.le_refl _)
      exact ⟨d, hd, e, he, d2, e2, x, y, h12 x y hx hy, hx.trans d1, hy.trans e1⟩
/-- Each text of a node is empty, a key, or where two keys part; in keys' words. -/
theorem node_text {t : Tr} (ho : Ok t) (hm : Mn t none) (hM : ∀ b ∈ t.B, (t.tx b).length ≤ 140737488351232) {b : Nat} (hb : b ∈ t.B) : t.tx b = [] ∨ look t (t.tx b) ≠ none ∨ ∃ K L x y, x < y ∧ look t K ≠ none ∧ look t L ≠ none ∧ t.tx b ++ [x] <+: K ∧ t.tx b ++ [y] <+: L := by
  by_cases hr : b = t.rt
  · subst hr
    exact .inl ho.rtx
  · cases hn : t.nm b with
    | some n => exact .inr (.inl (by rw [look_at ho hb, hn]; simp))
    | none =>
      obtain ⟨d, hd, e, he, h1, h2, x, y, hxy, h3, h4⟩ := node_parts ho hm hM hb hr hn
      exact .inr (.inr ⟨t.tx d, t.tx e, x, y, hxy, by rw [look_at ho hd]; exact h1, by rw [look_at ho he]; exact h2, h3, h4⟩)
/-- .. and each such text is a node's: a key's own. -/
theorem key_node {t : Tr} (ho : Ok t) {K : T} (h : look t K ≠ none) : ∃ b ∈ t.B, t.tx b = K := by
  cases hl : look t K with
  | none => exact (h hl).elim
  | some n =>
    obtain ⟨b, hb, e, -⟩ := (look_ex ho).1 hl
    exact ⟨b, hb, e⟩
/-- Where two keys part there is a node. -/
theorem part_node {t : Tr} (ho : Ok t) {p : T} {x y : UInt8} (hxy : x ≠ y) {d e : Nat} (hd : d ∈ t.B) (he : e ∈ t.B) (h1 : p ++ [x] <+: t.tx d) (h2 : p ++ [y] <+: t.tx e) : ∃ b ∈ t.B, t.tx b = p := by
  have key : ∀ (n : Nat) (b : Nat), b ∈ t.B → t.tx b <+: p → p.length - (t.tx b).length ≤ n → ∃ b ∈ t.B, t.tx b = p := by
    intro n
    induction n with
    | zero =>
      intro b hb hp hl
      exact ⟨b, hb, hp.eq_of_length (Nat.le_antisymm hp.length_le (by omega))⟩
    | succ n ih =>
      intro b hb hp hl
      by_cases hbp : t.tx b = p
      · exact ⟨b, hb, hbp⟩
      · have hlt : (t.tx b).length < p.length := Nat.lt_of_le_of_ne hp.length_le (fun e => hbp (hp.eq_of_length e))
        have hpd : p <+: t.tx d := (List.prefix_append p [x]).trans h1
        have hpe : p <+: t.tx e := (List.prefix_append p [y]).trans h2
        obtain ⟨c, hc, hcd⟩ := ho.kid b hb d hd (hp.trans hpd) (fun e0 => by have := hpd.length_le; rw [← e0] at this; omega)
        obtain ⟨c', hc', hce⟩ := ho.kid b hb e he (hp.trans hpe) (fun e0 => by have := hpe.length_le; rw [← e0] at this; omega)
        have hcb := (ho.kin b hb c hc)
        have hclen : (t.tx b).length < (t.tx c).length := ho.klen hb hc
        by_cases hcp : (t.tx c).length ≤ p.length
        · have hcp' : t.tx c <+: p := List.prefix_of_prefix_length_le hcd hpd hcp
          exact ih c hcb.1 hcp' (by omega)
        · have hpc : p <+: t.tx c := List.prefix_of_prefix_length_le hpd hcd (by omega)
          have hne : p.length < (t.tx c).length := by omega
          have hpx : p ++ [x] <+: t.tx c := List.prefix_of_prefix_length_le h1 hcd (by rw [List.length_append]; exact hne)
          have hclen' : (t.tx b).length < (t.tx c').length := ho.klen hb hc'
          have hec : c' = c := by
            by_cases e0 : (t.tx c').length ≤ p.length
            · have hcp' : t.tx c' <+: p := List.prefix_of_prefix_length_le hce hpe e0
              obtain ⟨u, hu⟩ := ho.kext hb hc
              obtain ⟨v, hv⟩ := ho.kext hb hc'
              have huv : u = v := ext_one hu (hv.trans (hcp'.trans hpc))
              subst huv
              exact ho.kone hb hc' hc hv hu
            · have hpc' : p <+: t.tx c' := List.prefix_of_prefix_length_le hpe hce (by omega)
              obtain ⟨u, hu⟩ := ho.kext hb hc
              obtain ⟨v, hv⟩ := ho.kext hb hc'
              have hu' : t.tx b ++ [u] <+: p := List.prefix_of_prefix_length_le hu hpc (by rw [List.length_append]; exact hlt)
              have hv' : t.tx b ++ [v] <+: p := List.prefix_of_prefix_length_le hv hpc' (by rw [List.length_append]; exact hlt)
              have huv : u = v := ext_one hu' hv'
              subst huv
              exact ho.kone hb hc' hc hv hu
          subst hec
          exact (hxy (ext_one (hpx.trans hce) h2)).elim
  exact key _ t.rt ho.rin (by rw [ho.rtx]; exact List.nil_prefix) (Nat.le_refl _)
end Go.Proofs.Ytnmncjeplfkdpaa.Pb
/- Plain: the order of texts is the program's own. No condition. -/
namespace Go.Proofs.Ytnmncjeplfkdpaa.Pb
open Go.RowKit Go.Shelf
theorem Lt.cons_iff (x y : UInt8) (p q : T) : Lt (x :: p) (y :: q) ↔ x < y ∨ (x = y ∧ Lt p q) := by
  constructor
  · rintro (⟨h1, h2⟩ | ⟨r, u, v, h1, h2, h3⟩)
    · obtain ⟨e, h⟩ := List.cons_prefix_cons.1 h1
      exact .inr ⟨e, .inl ⟨h, fun e' => h2 (by rw [e, e'])⟩⟩
    · cases r with
      | nil =>
        have e1 := (List.cons_prefix_cons.1 h1).1
        have e2 := (List.cons_prefix_cons.1 h2).1
        rw [← e1, ← e2]
        exact .inl h3
      | cons z r =>
        obtain ⟨e1, k1⟩ := List.cons_prefix_cons.1 h1
        obtain ⟨e2, k2⟩ := List.cons_prefix_cons.1 h2
        exact .inr ⟨e1.symm.trans e2, .inr ⟨r, u, v, k1, k2, h3⟩⟩
  · rintro (h | ⟨rfl, h⟩)
    · exact .inr ⟨[], x, y, List.cons_prefix_cons.2 ⟨rfl, List.nil_prefix⟩, List.cons_prefix_cons.2 ⟨rfl, List.nil_prefix⟩, h⟩
    · rcases h with ⟨h1, h2⟩ | ⟨r, u, v, h1, h2, h3⟩
      · exact .inl ⟨List.cons_prefix_cons.2 ⟨rfl, h1⟩, fun e => h2 (by injection e)⟩
      · exact .inr ⟨x :: r, u, v, List.cons_prefix_cons.2 ⟨rfl, h1⟩, List.cons_prefix_cons.2 ⟨rfl, h2⟩, h3⟩
theorem Lt.nil_right (p : T) : ¬ Lt p [] := by
  rintro (⟨h1, h2⟩ | ⟨r, u, v, h1, h2, h3⟩)
  · exact h2 (List.prefix_nil.1 h1)
  · have := List.prefix_nil.1 h2
    simp at this
theorem Lt.nil_left (y : UInt8) (q : T) : Lt [] (y :: q) := .inl ⟨List.nil_prefix, by simp⟩
theorem less_lt : ∀ p q : T, Op.bytesLess p q = true ↔ Lt p q
  | [], [] => ⟨fun h => by simp [Op.bytesLess] at h, fun h => (Lt.nil_right _ h).elim⟩
  | [], y :: q => ⟨fun _ => Lt.nil_left y q, fun _ => by simp [Op.bytesLess]⟩
  | x :: p, [] => ⟨fun h => by simp [Op.bytesLess] at h, fun h => (Lt.nil_right _ h).elim⟩
  | x :: p, y :: q => by
    rw [Lt.cons_iff, ← less_lt p q]
    simp [Op.bytesLess]
theorem lt_total : ∀ p q : T, Lt p q ∨ p = q ∨ Lt q p
  | [], [] => .inr (.inl rfl)
  | [], y :: q => .inl (Lt.nil_left y q)
  | x :: p, [] => .inr (.inr (Lt.nil_left x p))
  | x :: p, y :: q => by
    rw [Lt.cons_iff, Lt.cons_iff]
    by_cases h1 : x < y
    · exact .inl (.inl h1)
    · by_cases h2 : y < x
      · exact .inr (.inr (.inl h2))
      · have e : x = y := UInt8.le_antisymm (UInt8.not_lt.1 h2) (UInt8.not_lt.1 h1)
        subst e
        rcases lt_total p q with h | rfl | h
        · exact .inl (.inr ⟨rfl, h⟩)
        · exact .inr (.inl rfl)
        · exact .inr (.inr (.inr ⟨rfl, h⟩))
theorem Lt.trans_ : ∀ {p q s : T}, Lt p q → Lt q s → Lt p s
  | _, [], _, h, _ => (Lt.nil_right _ h).elim
  | _, _ :: _, [], _, k => (Lt.nil_right _ k).elim
  | [], _ :: _, z :: s, _, _ => Lt.nil_left z s
  | x :: p, y :: q, z :: s, h, k => by
    rw [Lt.cons_iff] at h k ⊢
    rcases h with h | ⟨rfl, h⟩
    · rcases k with k | ⟨rfl, k⟩
      · exact .inl (UInt8.lt_trans h k)
      · exact .inl h
    · rcases k with k | ⟨rfl, k⟩
      · exact .inl k
      · exact .inr ⟨rfl, h.trans_ k⟩
end Go.Proofs.Ytnmncjeplfkdpaa.Pb
