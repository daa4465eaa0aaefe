/- Over: does a key begin with another one? Conditions: the tree as it lies; bounds. -/
import Derived.Test.YtjfcdkmnccafaaaPbf
namespace Go.Proofs.Ytjfcdkmnccafaaa.Pb
open Go.RowKit Go.Shelf
attribute [local go_sem] Oper.semAt_some
theorem way_on {t : Tr} {K : T} (ho : Ok t) {b : Nat} {xs : List Nat} (h : Way t K b xs) (hon : On t K b) : ∀ x ∈ xs, On t K x := by
  induction h with
  | last h => intro x hx; rw [List.mem_singleton.1 hx]; exact hon
  | @more b c l h hl ih =>
    intro x hx
    rcases List.mem_cons.1 hx with rfl | hx
    · exact hon
    · exact ih (h.on ho hon.1).1 x hx
theorem way_mem {t : Tr} {K : T} (ho : Ok t) {b : Nat} {xs : List Nat} (h : Way t K b xs) (hon : On t K b) {d : Nat} (hd : d ∈ t.B) (hbd : t.tx b <+: t.tx d) (hdK : t.tx d <+: K) : d ∈ xs := by
  induction h with
  | @last b h =>
    by_cases e : t.tx b = t.tx d
    · rw [ho.inj b hon.1 d hd e]; simp
    · obtain ⟨c', h1, h2⟩ := ho.kid b hon.1 d hd hbd e
      have hl := ho.klen hon.1 h1
      have h3 : Nx t b K (some c') := .inr ⟨by have := (h2.trans hdK).length_le; omega, c', h1, rfl, .inl (h2.trans hdK)⟩
      cases h.det ho hon.1 h3
  | @more b c l h hl ih =>
    by_cases e : t.tx b = t.tx d
    · rw [ho.inj b hon.1 d hd e]; simp
    · obtain ⟨c', h1, h2⟩ := ho.kid b hon.1 d hd hbd e
      have hl := ho.klen hon.1 h1
      have h3 : Nx t b K (some c') := .inr ⟨by have := (h2.trans hdK).length_le; omega, c', h1, rfl, .inl (h2.trans hdK)⟩
      have := h.det ho hon.1 h3
      injection this with this
      subst this
      exact List.mem_cons_of_mem _ (ih (h.on ho hon.1).1 h2)
/-- Below each node but the root is a number. -/
theorem marked_below {t : Tr} (ho : Ok t) (hm : Mn t none) (N : Nat) (hN : ∀ b ∈ t.B, (t.tx b).length ≤ N) : ∀ (n b : Nat), b ∈ t.B → b ≠ t.rt → N - (t.tx b).length ≤ n → ∃ d ∈ t.B, t.tx b <+: t.tx d ∧ t.nm d ≠ none := by
  intro n
  induction n with
  | zero =>
    intro b hb hr hn
    rcases hm b hb hr (by simp) with h | h
    · exact ⟨b, hb, List.prefix_refl _, h⟩
    · have hc := List.getElem_mem (l := t.ks b) (n := 0) (by omega)
      have h1 := ho.klen hb hc
      have h2 := hN _ (ho.kin b hb _ hc).1
      omega
  | succ n ih =>
    intro b hb hr hn
    rcases hm b hb hr (by simp) with h | h
    · exact ⟨b, hb, List.prefix_refl _, h⟩
    · have hc := List.getElem_mem (l := t.ks b) (n := 0) (by omega)
      have h1 := ho.klen hb hc
      obtain ⟨h2, h3, -⟩ := ho.kin b hb _ hc
      obtain ⟨d, k1, k2, k3⟩ := ih _ h2 (fun e => ho.root_not hb (by rw [← e]; exact hc)) (by omega)
      exact ⟨d, k1, h3.trans k2, k3⟩
/-- What Over answers where nothing on the way has a number. -/
theorem over_ans {t : Tr} {K : T} (ho : Ok t) (hm : Mn t none) (hN : ∀ b ∈ t.B, (t.tx b).length ≤ 1000000) {xs : List Nat} (h : Way t K t.rt xs) {b : Nat} (hL : Lst t K b) (hb : b ∈ xs) (hx : ∀ x ∈ xs, t.nm x = none) :
    (K.length ≤ (t.tx b).length ∧ ∃ d ∈ t.B, t.nm d ≠ none) ↔ ∃ d ∈ t.B, t.nm d ≠ none ∧ (t.tx d <+: K ∨ K <+: t.tx d) := by
  have hron := root_on ho K
  constructor
  · rintro ⟨hl, d, hd, hn⟩
    by_cases hr : b = t.rt
    · subst hr
      refine ⟨d, hd, hn, .inr ?_⟩
      exact (hL.long hl hd).2 (hron.2 d hd (by rw [ho.rtx] at hl; rw [List.eq_nil_of_length_eq_zero (Nat.le_zero.1 hl)]; exact List.nil_prefix))
    · obtain ⟨e, h1, h2, h3⟩ := marked_below ho hm _ hN _ b hL.on.1 hr (Nat.le_refl _)
      exact ⟨e, h1, h3, .inr ((hL.long hl h1).2 h2)⟩
  · rintro ⟨d, hd, hn, hp | hp⟩
    · exact absurd (hx d (way_mem ho h hron.1 hd (by rw [ho.rtx]; exact List.nil_prefix) hp)) hn
    · refine ⟨?_, d, hd, hn⟩
      rcases Nat.lt_or_ge (t.tx b).length K.length with hl | hl
      · exact absurd hp (hL.short ho hl hd)
      · exact hl
open Classical in
/-- Is there a number whose key begins with K, or K with it? -/
noncomputable def overB (t : Tr) (K : T) : Bool := decide (∃ d ∈ t.B, t.nm d ≠ none ∧ (t.tx d <+: K ∨ K <+: t.tx d))
theorem overB_yes {t : Tr} {K : T} (h : ∃ d ∈ t.B, t.nm d ≠ none ∧ (t.tx d <+: K ∨ K <+: t.tx d)) : true = overB t K := by unfold overB; exact (decide_eq_true h).symm
theorem overB_no {t : Tr} {K : T} (h : ¬ ∃ d ∈ t.B, t.nm d ≠ none ∧ (t.tx d <+: K ∨ K <+: t.tx d)) : false = overB t K := by unfold overB; exact (decide_eq_false h).symm
set_option maxRecDepth 100000 in
set_option maxHeartbeats 8000000 in
theorem over_calls {w : World} {A : Nat} {t : Tr} {vs : Nat → Value} {m : Nat} (h : TObj w A t vs m) (key : ByteArray) (hK : key.size ≤ 1000000) (hm : Mn t none) (hmm : 0 < m ↔ ∃ d ∈ t.B, t.nm d ≠ none) :
    Calls Try.prog 21 #[.pointer (some ⟨A, 0, none⟩), .string key] w fun e w' => e = .returned (.bool (overB t key.data.toList)) ∧ Below w.heap.size w w' := by
  have HMM := Lib.hid hmm
  clear hmm
  obtain ⟨xs, hxs⟩ := way_ex h.ok key.data.toList _ t.rt h.ok.rin (Nat.le_refl _)
  obtain ⟨bl, hbl, hL⟩ := way_last h.ok hxs (root_on h.ok _).1 (root_on h.ok _).2
  have hblm : bl ∈ xs := List.mem_of_getLast? hbl
  refine (callsIn_wide (n := 3)).1 ?_
  refine callsIn_of_wp_marks Try.func21 rfl trivial ?_ rfl
  simp only [Try.ntmps21, List.size_toArray, List.length_cons, List.length_nil, Nat.reduceAdd, Nat.reduceSub, Array.replicate_succ, Array.replicate_zero, List.push_toArray, List.append_toArray, List.nil_append, List.cons_append]
  gi_wp2_with (refine ⟨trivial, ?_⟩; gi_at_call 24; refine (callsIn_wide.2 (way_calls _ A key)).mono ?_; rintro e w' ⟨rfl, rfl⟩)
  have c0 := cell_new_l w (.bool false) 4
  have c1 := cell_new_l (w.alloc (.cells #[.bool false] 4)) (.pointer (some ⟨A, 0, none⟩)) 25
  have c2 := cell_new_l ((w.alloc (.cells #[.bool false] 4)).alloc (.cells #[.pointer (some ⟨A, 0, none⟩)] 25)) (.string key) 9
  simp only [World.size_alloc] at c1 c2
  have hB0 : Below w.heap.size w (((w.alloc (.cells #[.bool false] 4)).alloc (.cells #[.pointer (some ⟨A, 0, none⟩)] 25)).alloc (.cells #[.string key] 9)) := (((Below.refl _ w).alloc (Nat.le_refl _) _).alloc (by simp) _).alloc (by simp; omega) _
  refine wpIn_rangeFunc_ownF rfl (by omega) (gf := 37) (lb := #[.pointer (some ⟨w.heap.size + 1, 0, none⟩), .pointer (some ⟨w.heap.size + 1 + 1, 0, none⟩)]) (by simp [Act.eval]) trivial (enters_of Try.func37 (by kernel_rfl) rfl)
    (way_stops (3 - 1) (by omega) (w.heap.size + 1) (w.heap.size + 1 + 1) w.heap.size A m key t vs xs hxs hK _ (h.below hB0) (fun y hy => h.lt hy) (by simp) (by simp) (cell_alloc_l _ c1.1) c2.1) (fun h k => Kps.trans h k) (Kps.put (by simp; omega) (by simp)) (Below.refl _ _) (fun _ => rfl)
    (fun pre W => ((∀ x ∈ pre, t.nm x.1 = none) ∧ W.cell? ⟨w.heap.size, 0, none⟩ = some (.bool false) ∧ W.frozen? ⟨w.heap.size, 0, none⟩ = false) ∧ Below w.heap.size w W)
    (fun c pre W => (c = .ret ∧ (∃ x ∈ pre, t.nm x.1 ≠ none) ∧ W.cell? ⟨w.heap.size, 0, none⟩ = some (.bool true)) ∧ Below w.heap.size w W)
    (OwnFrom.and (Own.from (fun s A B row hs hg hr => ⟨hs.1, cell_kept hs.2.1 hg hr, (frozen_kept hs.2.1 hg hr).trans hs.2.2⟩) _) (ownFrom_below (Nat.le_refl _) (by simp; omega)))
    (fun c => OwnFrom.and (Own.from (fun s A B row hs hg hr => ⟨hs.1, hs.2.1, cell_kept hs.2.2 hg hr⟩) _) (ownFrom_below (Nat.le_refl _) (by simp; omega)))
    ⟨⟨by simp, cell_alloc_l _ (cell_alloc_l _ c0.1), frozen_alloc_l _ (cell_alloc_l _ c0.1) (frozen_alloc_l _ c0.1 c0.2)⟩, hB0⟩
    (fun x : Nd t => { tmps := #[.pointer (some ⟨A, 0, none⟩), .string key, undef, undef, .pointer (some ⟨w.heap.size, 0, none⟩), .pointer (some ⟨x.1, 0, none⟩), .pointer (some ⟨A, 0, none⟩), .string key, .func (.func 37) #[] #[.pointer (some ⟨w.heap.size + 1, 0, none⟩), .pointer (some ⟨w.heap.size + 1 + 1, 0, none⟩)], .pointer (some ⟨x.1, 0, none⟩), undef, undef, undef, undef, undef, undef, undef, undef, undef, undef, undef, undef, undef, undef, undef, undef, undef, undef, undef, undef, undef], defers := [] }) ?assign ?body ?done ?stop
  case assign =>
    intro l x W K hK
    gi_wp2
    exact hK
  case body =>
    rintro l pre x W ⟨⟨hp, hc, hf⟩, hB⟩ _
    have x1 := ((h.below hB).tr.nod x.1 x.2).c1
    cases hnm : t.nm x.1 with
    | none =>
      rw [hnm] at x1
      simp only [Option.isSome_none] at x1
      gi_wp2
      exact ⟨KeepsOthers.refl _, fun y _ => rfl, ⟨fun y hy => (List.mem_append.1 hy).elim (hp y) (fun e => by rw [List.mem_singleton.1 e]; exact hnm), hc, hf⟩, hB⟩
    | some n =>
      rw [hnm] at x1
      simp only [Option.isSome_some] at x1
      gi_wp2
      exact ⟨KeepsOthers.setCell _ _ _, ⟨rfl, ⟨x, by simp, by rw [hnm]; simp⟩, World.cell?_setCell_same' _ _ _ (by rw [hc]; rfl)⟩, hB.setCell (p := ⟨w.heap.size, 0, none⟩) (Nat.le_refl _) _⟩
  case done =>
    rintro D ys W hD hys ⟨⟨hne, hc, hf⟩, hB⟩ hKd
    have hx : ∀ x ∈ xs, t.nm x = none := fun x hx => by rw [← hys] at hx; obtain ⟨y, hy, rfl⟩ := List.mem_map.1 hx; exact hne y hy
    have HA := Lib.hid (over_ans h.ok hm h.ln hxs hL hblm hx)
    have HE := Lib.hid (end_calls (h.below hB) key hK xs hxs)
    rw [hbl] at HE
    gi_wp2
    refine ⟨trivial, (callsIn_wide.2 HE.out).mono ?_⟩
    rintro e W2 ⟨rfl, hB2⟩
    simp only [ptrO]
    have hT2 := (h.below hB).below hB2
    have l0 := (hT2.tr.nod bl hL.on.1).c0
    have a1 := hT2.c1
    have hn0 := World.block_lt_of_cell? _ _ hc
    have cc := (hB2.cell (p := ⟨w.heap.size, 0, none⟩) hn0).trans hc
    have cf := (World.frozen?_of_block (a := ⟨w.heap.size, 0, none⟩) (hB2.block _ hn0)).trans hf
    have hK2 : W2.heap[D]? = some (.deferred (some [])) := (hB2.block D (Array.getElem?_eq_some_iff.1 hKd).1).trans hKd
    have hps : (bs (t.tx bl)).size = (t.tx bl).length := bs_size _
    have hdk := dlen key
    clear hT2 HE
    by_cases hl : (key.size : Int) ≤ ((bs (t.tx bl)).size : Int)
    · have hr : Hid (decide (0 < m) = overB t key.data.toList) := Lib.hid (by
        by_cases h0 : 0 < m
        · rw [decide_eq_true h0]; exact overB_yes (HA.out.1 ⟨by omega, HMM.out.1 h0⟩)
        · rw [decide_eq_false h0]; exact overB_no (fun e => absurd (HMM.out.2 (HA.out.2 e).2) h0))
      gi_wp2
      have hK' := (KeepsOthers.setCell W2 ⟨w.heap.size, 0, none⟩ (.bool (decide (0 < m)))).same D _ hK2 rfl
      refine ⟨by simp, .inl ⟨_, _, rfl, run_takeDeferred hK', ?_⟩⟩
      have hc5 := cell_kept (World.cell?_setCell_same' W2 ⟨w.heap.size, 0, none⟩ (.bool (decide (0 < m))) (by rw [cc]; rfl)) (grownBy_putObj' _ D (.deferred none)) (fun r e => by cases e; exact ⟨_, hK', rfl⟩)
      refine ⟨.bool (decide (0 < m)), ?_, by rw [hr.out], ((hB.trans (hB2.mono hB.size)).setCell (p := ⟨w.heap.size, 0, none⟩) (Nat.le_refl _) _).trans (belowK_b (w := w) (Nat.le_refl _) _ D _ _ (by simp at hD; omega) hK' rfl rfl)⟩
      simp [results, Try.results21, go_sem, hc5]
    · gi_wp2
      have hK' := (KeepsOthers.setCell W2 ⟨w.heap.size, 0, none⟩ (.bool false)).same D _ hK2 rfl
      refine ⟨by simp, .inl ⟨_, _, rfl, run_takeDeferred hK', ?_⟩⟩
      have hc5 := cell_kept (World.cell?_setCell_same' W2 ⟨w.heap.size, 0, none⟩ (.bool false) (by rw [cc]; rfl)) (grownBy_putObj' _ D (.deferred none)) (fun r e => by cases e; exact ⟨_, hK', rfl⟩)
      refine ⟨.bool false, ?_, by rw [overB_no (fun e => absurd (HA.out.2 e).1 (by omega))], ((hB.trans (hB2.mono hB.size)).setCell (p := ⟨w.heap.size, 0, none⟩) (Nat.le_refl _) _).trans (belowK_b (w := w) (Nat.le_refl _) _ D _ _ (by simp at hD; omega) hK' rfl rfl)⟩
      simp [results, Try.results21, go_sem, hc5]
  case stop =>
    rintro D c pre W hD hpre ⟨⟨rfl, hin, hcr⟩, hB⟩ hKd
    gi_wp2
    refine ⟨by simp, .inl ⟨_, _, rfl, run_takeDeferred hKd, ?_⟩⟩
    have hc5 := cell_kept hcr (grownBy_putObj' _ D (.deferred none)) (fun r e => by cases e; exact ⟨_, hKd, rfl⟩)
    refine ⟨.bool true, ?_, ?_, hB.trans (belowK_b (w := w) (Nat.le_refl _) W D _ _ (by simp at hD; omega) hKd rfl rfl)⟩
    · simp [results, Try.results21, go_sem, hc5]
    · obtain ⟨x, hx, hn⟩ := hin
      rw [overB_yes ⟨x.1, x.2, hn, (way_on h.ok hxs (root_on h.ok _).1 x.1 (hpre.subset (List.mem_map_of_mem hx))).2⟩]
end Go.Proofs.Ytjfcdkmnccafaaa.Pb
