/- Plain: how many nodes there are; the last mark of Above. No condition. -/
import Derived.Test.YtjfcdkmnccafaaaPbq
import Derived.Test.YtjfcdkmnccafaaaPa6
namespace Go.Proofs.Ytjfcdkmnccafaaa.Pb
open Go.RowKit Go.Shelf
theorem Lt.no_pre {p q : T} (h : Lt p q) (k : q <+: p) : False := by
  rcases h with ⟨h1, h2⟩ | ⟨r, x, y, h1, h2, h3⟩
  · exact h2 (h1.eq_of_length (Nat.le_antisymm h1.length_le k.length_le))
  · have := ext_one h1 (h2.trans k)
    subst this
    exact ulirr x h3
theorem last_of {α : Type} {R : α → α → Prop} {l : List α} (h : l.Pairwise R) {p : α} (hp : p ∈ l) (hn : ∀ q ∈ l, ¬ R p q) : l.getLast? = some p := by
  obtain ⟨s, u, rfl⟩ := List.append_of_mem hp
  cases u with
  | nil => simp
  | cons b u =>
    have h2 := (List.pairwise_append.1 h).2.1
    exact (hn b (by simp) ((List.pairwise_cons.1 h2).1 b (List.mem_cons_self ..))).elim
theorem above_last {t : Tr} (ho : Ok t) (hM : ∀ b ∈ t.B, (t.tx b).length ≤ 1000000) {K : T} {n : Int} (h : (bs K, n) ∈ allM t) : ((allM t).filter fun p => p.1.data.toList.isPrefixOf K).getLast? = some (bs K, n) := by
  refine last_of ((allM_sorted ho hM).filter _) (List.mem_filter.2 ⟨h, by
    show ((bs K).data.toList).isPrefixOf K = true
    rw [data_of_bs]
    exact List.isPrefixOf_iff_prefix.2 (List.prefix_refl _)⟩) fun q hq hR => ?_
  have h2 := (List.mem_filter.1 hq).2
  have h3 : Lt (bs K).data.toList q.1.data.toList := hR
  rw [data_of_bs] at h3
  exact h3.no_pre (List.isPrefixOf_iff_prefix.1 h2)
theorem kids_le {t : Tr} (ho : Ok t) : (t.B.flatMap t.ks).length + 1 ≤ t.B.length := by
  have hnd : (t.B.flatMap t.ks).Nodup := by
    unfold List.Nodup
    rw [List.pairwise_flatMap]
    refine ⟨fun b hb => ho.knd hb, ho.nd.imp_of_mem fun {b c} hb hc hbc x hx y hy e => ?_⟩
    subst e
    exact hbc (ho.par_one hb hc hx hy)
  have h1 := nd_le (r := t.B.erase t.rt) hnd fun x hx => by
    obtain ⟨b, hb, hx⟩ := List.mem_flatMap.1 hx
    obtain ⟨k1, k2, k3⟩ := ho.kin b hb x hx
    refine (List.mem_erase_of_ne fun e => ?_).2 k1
    subst e
    rw [ho.rtx] at k2 k3
    exact k3 (List.prefix_nil.1 k2)
  rw [List.length_erase_of_mem ho.rin] at h1
  have := List.length_pos_of_mem ho.rin
  omega
theorem nodes_sum {t : Tr} (hm : Mn t none) : ∀ {l : List Nat}, (∀ b ∈ l, b ∈ t.B) → 2 * l.length ≤ (l.flatMap t.ks).length + 2 * (l.filter fun b => (t.nm b).isSome).length + 2 * (l.filter fun b => decide (b = t.rt)).length
  | [], _ => Nat.zero_le _
  | b :: l, h => by
    have ih := nodes_sum hm (l := l) fun c hc => h c (List.mem_cons_of_mem _ hc)
    rw [List.flatMap_cons, List.length_append, List.length_cons, List.filter_cons, List.filter_cons]
    by_cases e1 : b = t.rt
    · rw [decide_eq_true e1]
      cases hs : (t.nm b).isSome <;> simp only [↓reduceIte, Bool.false_eq_true, List.length_cons] <;> omega
    · rw [decide_eq_false e1]
      rcases hm b (h b (List.mem_cons_self ..)) e1 (by simp) with h1 | h1
      · have h2 : (t.nm b).isSome = true := by
          cases hn : t.nm b with
          | none => exact (h1 hn).elim
          | some n => rfl
        rw [h2]
        simp only [↓reduceIte, Bool.false_eq_true, List.length_cons]
        omega
      · cases hs : (t.nm b).isSome <;> simp only [↓reduceIte, Bool.false_eq_true, List.length_cons] <;> omega
/-- Nodes: at most two for each mark, and the root. -/
theorem nodes_le {t : Tr} (ho : Ok t) (hm : Mn t none) : t.B.length ≤ 2 * (t.B.filter fun b => (t.nm b).isSome).length + 1 := by
  have h1 := nodes_sum hm (l := t.B) fun b hb => hb
  have h2 := kids_le ho
  have h3 := nd_le (l := t.B.filter fun b => decide (b = t.rt)) (r := [t.rt]) (ho.nd.filter _) fun x hx => by
    have := of_decide_eq_true (List.mem_filter.1 hx).2
    rw [this]
    simp
  have h4 : [t.rt].length = 1 := rfl
  omega
theorem nd_leT {α : Type} [DecidableEq α] : ∀ {l r : List α}, l.Nodup → (∀ x ∈ l, x ∈ r) → l.length ≤ r.length
  | [], _, _, _ => Nat.zero_le _
  | x :: l, r, hn, hs => by
    obtain ⟨h1, h2⟩ := List.nodup_cons.1 hn
    have hx := hs x (List.mem_cons_self ..)
    have h3 := nd_leT (r := r.erase x) h2 (fun y hy => (List.mem_erase_of_ne (fun (e : y = x) => h1 (by rw [← e]; exact hy))).2 (hs y (List.mem_cons_of_mem _ hy)))
    rw [List.length_erase_of_mem hx] at h3
    have := List.length_pos_of_mem hx
    rw [List.length_cons]
    omega
/-- A key is there: a node has it, and is marked. -/
theorem look_ex {t : Tr} (ho : Ok t) {K : T} {n : Int} : look t K = some n ↔ ∃ b ∈ t.B, t.tx b = K ∧ t.nm b = some n := by
  constructor
  · intro h
    by_cases hb : ∃ b ∈ t.B, t.tx b = K
    · obtain ⟨b, hb, rfl⟩ := hb
      rw [look_at ho hb] at h
      exact ⟨b, hb, rfl, h⟩
    · rw [look_no fun b hb' e => hb ⟨b, hb', e⟩] at h
      cases h
  · rintro ⟨b, hb, rfl, h⟩
    rw [look_at ho hb]
    exact h
theorem allM_look {t : Tr} (ho : Ok t) (hM : ∀ b ∈ t.B, (t.tx b).length ≤ 1000000) {K : T} {n : Int} : (bs K, n) ∈ allM t ↔ look t K = some n := by
  rw [mem_allM ho hM, look_ex ho]
  constructor
  · rintro ⟨c, hc, h1, h2⟩
    refine ⟨c, hc, ?_, h1⟩
    rw [← data_of_bs (t.tx c), ← data_of_bs K]
    exact congrArg (fun x : ByteArray => x.data.toList) h2
  · rintro ⟨c, hc, h1, h2⟩
    exact ⟨c, hc, h2, by rw [h1]⟩
/-- As many marked nodes as keys. -/
theorem marked_len {t : Tr} (ho : Ok t) {D : List T} (hD : D.Nodup) (h : ∀ K, look t K ≠ none ↔ K ∈ D) : (t.B.filter fun b => (t.nm b).isSome).length = D.length := by
  refine Nat.le_antisymm ?_ ?_
  · have h1 := nd_leT (l := (t.B.filter fun b => (t.nm b).isSome).map t.tx) (r := D) (by
      unfold List.Nodup
      rw [List.pairwise_map]
      exact (ho.nd.filter _).imp_of_mem fun {b c} hb hc hbc e => hbc (ho.inj b (List.mem_filter.1 hb).1 c (List.mem_filter.1 hc).1 e)) (fun K hK => by
      obtain ⟨b, hb, rfl⟩ := List.mem_map.1 hK
      obtain ⟨h1, h2⟩ := List.mem_filter.1 hb
      refine (h _).1 fun e => ?_
      rw [look_at ho h1] at e
      rw [e] at h2
      cases h2)
    rw [List.length_map] at h1
    exact h1
  · have h1 := nd_leT (l := D) (r := (t.B.filter fun b => (t.nm b).isSome).map t.tx) hD (fun K hK => by
      cases hl : look t K with
      | none => exact ((h K).2 hK hl).elim
      | some n =>
        obtain ⟨b, hb, rfl, h2⟩ := (look_ex ho).1 hl
        exact List.mem_map_of_mem (List.mem_filter.2 ⟨hb, by rw [h2]; rfl⟩))
    rw [List.length_map] at h1
    exact h1
end Go.Proofs.Ytjfcdkmnccafaaa.Pb
/- Plain: a node without a number parts two keys. No condition. -/
namespace Go.Proofs.Ytjfcdkmnccafaaa.Pb
open Go.RowKit Go.Shelf
theorem kid_ne_rt {t : Tr} (ho : Ok t) {b c : Nat} (hb : b ∈ t.B) (hc : c ∈ t.ks b) : c ≠ t.rt := fun e => by
  obtain ⟨-, h2, h3⟩ := ho.kin b hb c hc
  rw [e, ho.rtx] at h2 h3
  exact h3 (List.prefix_nil.1 h2)
theorem node_parts {t : Tr} (ho : Ok t) (hm : Mn t none) (hM : ∀ b ∈ t.B, (t.tx b).length ≤ 1000000) {b : Nat} (hb : b ∈ t.B) (hr : b ≠ t.rt) (hn : t.nm b = none) : ∃ d ∈ t.B, ∃ e ∈ t.B, t.nm d ≠ none ∧ t.nm e ≠ none ∧ ∃ x y : UInt8, x < y ∧ t.tx b ++ [x] <+: t.tx d ∧ t.tx b ++ [y] <+: t.tx e := by
  rcases hm b hb hr (by simp) with h | h
  · exact (h hn).elim
  · match hk : t.ks b, h with
    | c1 :: c2 :: l, _ =>
      have k1 : c1 ∈ t.ks b := by rw [hk]; simp
      have k2 : c2 ∈ t.ks b := by rw [hk]; simp
      have hs := ho.srt b hb
      rw [hk] at hs
      have h12 := (List.pairwise_cons.1 hs).1 c2 (by simp)
      obtain ⟨x, hx⟩ := ho.kext hb k1
      obtain ⟨y, hy⟩ := ho.kext hb k2
      obtain ⟨d, hd, d1, d2⟩ := marked_below ho hm 1000000 hM _ c1 (ho.kin b hb c1 k1).1 (kid_ne_rt ho hb k1) (Nat.le_refl _)
      obtain ⟨e, he, e1, e2⟩ := marked_below ho hm 1000000 hM _ c2 (ho.kin b hb c2 k2).1 (kid_ne_rt ho hb k2) (Nat.le_refl _)
      exact ⟨d, hd, e, he, d2, e2, x, y, h12 x y hx hy, hx.trans d1, hy.trans e1⟩
/-- Each text of a node is empty, a key, or where two keys part; in keys' words. -/
theorem node_text {t : Tr} (ho : Ok t) (hm : Mn t none) (hM : ∀ b ∈ t.B, (t.tx b).length ≤ 1000000) {b : Nat} (hb : b ∈ t.B) : t.tx b = [] ∨ look t (t.tx b) ≠ none ∨ ∃ K L x y, x < y ∧ look t K ≠ none ∧ look t L ≠ none ∧ t.tx b ++ [x] <+: K ∧ t.tx b ++ [y] <+: L := by
  by_cases hr : b = t.rt
  · subst hr
    exact .inl ho.rtx
  · cases hn : t.nm b with
    | some n => exact .inr (.inl (by rw [look_at ho hb, hn]; simp))
    | none =>
      obtain ⟨d, hd, e, he, h1, h2, x, y, hxy, h3, h4⟩ := node_parts ho hm hM hb hr hn
      exact .inr (.inr ⟨t.tx d, t.tx e, x, y, hxy, by rw [look_at ho hd]; exact h1, by rw [look_at ho he]; exact h2, h3, h4⟩)
/-- .. and each such text is a node's: a key's own. -/
theorem key_node {t : Tr} (ho : Ok t) {K : T} (h : look t K ≠ none) : ∃ b ∈ t.B, t.tx b = K := by
  cases hl : look t K with
  | none => exact (h hl).elim
  | some n =>
    obtain ⟨b, hb, e, -⟩ := (look_ex ho).1 hl
    exact ⟨b, hb, e⟩
/-- Where two keys part there is a node. -/
theorem part_node {t : Tr} (ho : Ok t) {p : T} {x y : UInt8} (hxy : x ≠ y) {d e : Nat} (hd : d ∈ t.B) (he : e ∈ t.B) (h1 : p ++ [x] <+: t.tx d) (h2 : p ++ [y] <+: t.tx e) : ∃ b ∈ t.B, t.tx b = p := by
  have key : ∀ (n : Nat) (b : Nat), b ∈ t.B → t.tx b <+: p → p.length - (t.tx b).length ≤ n → ∃ b ∈ t.B, t.tx b = p := by
    intro n
    induction n with
    | zero =>
      intro b hb hp hl
      exact ⟨b, hb, hp.eq_of_length (Nat.le_antisymm hp.length_le (by omega))⟩
    | succ n ih =>
      intro b hb hp hl
      by_cases hbp : t.tx b = p
      · exact ⟨b, hb, hbp⟩
      · have hlt : (t.tx b).length < p.length := Nat.lt_of_le_of_ne hp.length_le (fun e => hbp (hp.eq_of_length e))
        have hpd : p <+: t.tx d := (List.prefix_append p [x]).trans h1
        have hpe : p <+: t.tx e := (List.prefix_append p [y]).trans h2
        obtain ⟨c, hc, hcd⟩ := ho.kid b hb d hd (hp.trans hpd) (fun e0 => by have := hpd.length_le; rw [← e0] at this; omega)
        obtain ⟨c', hc', hce⟩ := ho.kid b hb e he (hp.trans hpe) (fun e0 => by have := hpe.length_le; rw [← e0] at this; omega)
        have hcb := (ho.kin b hb c hc)
        have hclen : (t.tx b).length < (t.tx c).length := ho.klen hb hc
        by_cases hcp : (t.tx c).length ≤ p.length
        · have hcp' : t.tx c <+: p := List.prefix_of_prefix_length_le hcd hpd hcp
          exact ih c hcb.1 hcp' (by omega)
        · have hpc : p <+: t.tx c := List.prefix_of_prefix_length_le hpd hcd (by omega)
          have hne : p.length < (t.tx c).length := by omega
          have hpx : p ++ [x] <+: t.tx c := List.prefix_of_prefix_length_le h1 hcd (by rw [List.length_append]; exact hne)
          have hclen' : (t.tx b).length < (t.tx c').length := ho.klen hb hc'
          have hec : c' = c := by
            by_cases e0 : (t.tx c').length ≤ p.length
            · have hcp' : t.tx c' <+: p := List.prefix_of_prefix_length_le hce hpe e0
              obtain ⟨u, hu⟩ := ho.kext hb hc
              obtain ⟨v, hv⟩ := ho.kext hb hc'
              have huv : u = v := ext_one hu (hv.trans (hcp'.trans hpc))
              subst huv
              exact ho.kone hb hc' hc hv hu
            · have hpc' : p <+: t.tx c' := List.prefix_of_prefix_length_le hpe hce (by omega)
              obtain ⟨u, hu⟩ := ho.kext hb hc
              obtain ⟨v, hv⟩ := ho.kext hb hc'
              have hu' : t.tx b ++ [u] <+: p := List.prefix_of_prefix_length_le hu hpc (by rw [List.length_append]; exact hlt)
              have hv' : t.tx b ++ [v] <+: p := List.prefix_of_prefix_length_le hv hpc' (by rw [List.length_append]; exact hlt)
              have huv : u = v := ext_one hu' hv'
              subst huv
              exact ho.kone hb hc' hc hv hu
          subst hec
          exact (hxy (ext_one (hpx.trans hce) h2)).elim
  exact key _ t.rt ho.rin (by rw [ho.rtx]; exact List.nil_prefix) (Nat.le_refl _)
end Go.Proofs.Ytjfcdkmnccafaaa.Pb
/- Plain: the order of texts is the program's own. No condition. -/
namespace Go.Proofs.Ytjfcdkmnccafaaa.Pb
open Go.RowKit Go.Shelf
theorem Lt.cons_iff (x y : UInt8) (p q : T) : Lt (x :: p) (y :: q) ↔ x < y ∨ (x = y ∧ Lt p q) := by
  constructor
  · rintro (⟨h1, h2⟩ | ⟨r, u, v, h1, h2, h3⟩)
    · obtain ⟨e, h⟩ := List.cons_prefix_cons.1 h1
      exact .inr ⟨e, .inl ⟨h, fun e' => h2 (by rw [e, e'])⟩⟩
    · cases r with
      | nil =>
        have e1 := (List.cons_prefix_cons.1 h1).1
        have e2 := (List.cons_prefix_cons.1 h2).1
        rw [← e1, ← e2]
        exact .inl h3
      | cons z r =>
        obtain ⟨e1, k1⟩ := List.cons_prefix_cons.1 h1
        obtain ⟨e2, k2⟩ := List.cons_prefix_cons.1 h2
        exact .inr ⟨e1.symm.trans e2, .inr ⟨r, u, v, k1, k2, h3⟩⟩
  · rintro (h | ⟨rfl, h⟩)
    · exact .inr ⟨[], x, y, List.cons_prefix_cons.2 ⟨rfl, List.nil_prefix⟩, List.cons_prefix_cons.2 ⟨rfl, List.nil_prefix⟩, h⟩
    · rcases h with ⟨h1, h2⟩ | ⟨r, u, v, h1, h2, h3⟩
      · exact .inl ⟨List.cons_prefix_cons.2 ⟨rfl, h1⟩, fun e => h2 (by injection e)⟩
      · exact .inr ⟨x :: r, u, v, List.cons_prefix_cons.2 ⟨rfl, h1⟩, List.cons_prefix_cons.2 ⟨rfl, h2⟩, h3⟩
theorem Lt.nil_right (p : T) : ¬ Lt p [] := by
  rintro (⟨h1, h2⟩ | ⟨r, u, v, h1, h2, h3⟩)
  · exact h2 (List.prefix_nil.1 h1)
  · have := List.prefix_nil.1 h2
    simp at this
theorem Lt.nil_left (y : UInt8) (q : T) : Lt [] (y :: q) := .inl ⟨List.nil_prefix, by simp⟩
theorem less_lt : ∀ p q : T, Op.bytesLess p q = true ↔ Lt p q
  | [], [] => ⟨fun h => by simp [Op.bytesLess] at h, fun h => (Lt.nil_right _ h).elim⟩
  | [], y :: q => ⟨fun _ => Lt.nil_left y q, fun _ => by simp [Op.bytesLess]⟩
  | x :: p, [] => ⟨fun h => by simp [Op.bytesLess] at h, fun h => (Lt.nil_right _ h).elim⟩
  | x :: p, y :: q => by
    rw [Lt.cons_iff, ← less_lt p q]
    simp [Op.bytesLess]
theorem lt_total : ∀ p q : T, Lt p q ∨ p = q ∨ Lt q p
  | [], [] => .inr (.inl rfl)
  | [], y :: q => .inl (Lt.nil_left y q)
  | x :: p, [] => .inr (.inr (Lt.nil_left x p))
  | x :: p, y :: q => by
    rw [Lt.cons_iff, Lt.cons_iff]
    by_cases h1 : x < y
    · exact .inl (.inl h1)
    · by_cases h2 : y < x
      · exact .inr (.inr (.inl h2))
      · have e : x = y := UInt8.le_antisymm (UInt8.not_lt.1 h2) (UInt8.not_lt.1 h1)
        subst e
        rcases lt_total p q with h | rfl | h
        · exact .inl (.inr ⟨rfl, h⟩)
        · exact .inr (.inl rfl)
        · exact .inr (.inr (.inr ⟨rfl, h⟩))
theorem Lt.trans_ : ∀ {p q s : T}, Lt p q → Lt q s → Lt p s
  | _, [], _, h, _ => (Lt.nil_right _ h).elim
  | _, _ :: _, [], _, k => (Lt.nil_right _ k).elim
  | [], _ :: _, z :: s, _, _ => Lt.nil_left z s
  | x :: p, y :: q, z :: s, h, k => by
    rw [Lt.cons_iff] at h k ⊢
    rcases h with h | ⟨rfl, h⟩
    · rcases k with k | ⟨rfl, k⟩
      · exact .inl (UInt8.lt_trans h k)
      · exact .inl h
    · rcases k with k | ⟨rfl, k⟩
      · exact .inl k
      · exact .inr ⟨rfl, h.trans_ k⟩
end Go.Proofs.Ytjfcdkmnccafaaa.Pb
/- Plain: Put of the checking package on marks in order. No condition. -/
namespace Go.Proofs.Ytjfcdkmnccafaaa.Pb
open Go.RowKit Go.Shelf
theorem key_eq {a b : ByteArray} : (a.toList == b.toList) = true ↔ a = b := by
  rw [beq_iff_eq, Lib.toList_data, Lib.toList_data]
  constructor
  · intro h
    cases a; cases b
    congr 1
    exact Array.toList_inj.1 h
  · rintro rfl; rfl
theorem key_less {a b : ByteArray} : Op.bytesLess a.toList b.toList = true ↔ Lt a.data.toList b.data.toList := by
  rw [less_lt, Lib.toList_data, Lib.toList_data]
structure PutI (k : ByteArray) (n : Int) (l : List Pa.Mk) (s : List Pa.Mk × Bool × Bool) : Prop where
  mem : ∀ p, p ∈ s.1 ↔ (s.2.1 = true ∧ p = (k, n)) ∨ (p ∈ l ∧ p.1 ≠ k)
  srt : s.1.Pairwise MLt
  plc : s.2.1 = true ↔ ∃ m ∈ l, ¬ Lt m.1.data.toList k.data.toList
  frs : s.2.2 = true ↔ ∀ m ∈ l, m.1 ≠ k
theorem putF_snoc (k : ByteArray) (n : Int) (l : List Pa.Mk) (m : Pa.Mk) : Pa.putF k n (l ++ [m]) = Pa.putStep k n (Pa.putF k n l) m := by
  unfold Pa.putF
  rw [List.foldl_append]
  rfl
theorem PutI.step {k : ByteArray} {n : Int} {l : List Pa.Mk} {s : List Pa.Mk × Bool × Bool} {m : Pa.Mk} (h : PutI k n l s) (hs : (l ++ [m]).Pairwise MLt) : PutI k n (l ++ [m]) (Pa.putStep k n s m) := by
  obtain ⟨out, placed, fresh⟩ := s
  have hlm : ∀ q ∈ l, MLt q m := fun q hq => (List.pairwise_append.1 hs).2.2 q hq m (by simp)
  have hmem := h.mem
  have hplc := h.plc
  have hfrs := h.frs
  have hsrt := h.srt
  simp only at hmem hplc hfrs hsrt
  have hkm : placed = true → Lt k.data.toList m.1.data.toList := fun hp => by
    obtain ⟨q, hq, hn⟩ := hplc.1 hp
    have h1 : Lt q.1.data.toList m.1.data.toList := hlm q hq
    rcases lt_total q.1.data.toList k.data.toList with h2 | h2 | h2
    · exact (hn h2).elim
    · rw [← h2]; exact h1
    · exact h2.trans_ h1
  have hout : ∀ p ∈ out, MLt p m := fun p hp => by
    rcases (hmem p).1 hp with ⟨h1, rfl⟩ | ⟨h1, -⟩
    · exact hkm h1
    · exact hlm p h1
  have hnk : placed = false → ∀ q ∈ l, Lt q.1.data.toList k.data.toList := fun hp q hq => by
    by_cases h2 : Lt q.1.data.toList k.data.toList
    · exact h2
    · rw [hplc.2 ⟨q, hq, h2⟩] at hp; cases hp
  have snoc : ∀ (o : List Pa.Mk) (p : Pa.Mk), o.Pairwise MLt → (∀ q ∈ o, MLt q p) → (o ++ [p]).Pairwise MLt := fun o p h1 h2 =>
    List.pairwise_append.2 ⟨h1, List.pairwise_singleton .., fun q hq r hr => by rw [List.mem_singleton.1 hr]; exact h2 q hq⟩
  by_cases he : m.1 = k
  · have hbe : (m.1.toList == k.toList) = true := key_eq.2 he
    have hnl : ¬ Lt m.1.data.toList k.data.toList := by rw [he]; exact fun h => Lt.irr h
    have hp0 : placed = false := by
      cases hp : placed with
      | false => rfl
      | true =>
        have := hkm hp
        rw [he] at this
        exact (Lt.irr this).elim
    subst hp0
    have hst : Pa.putStep k n (out, false, fresh) m = (out ++ [(k, n)], true, false) := by
      simp [Pa.putStep, hbe]
    rw [hst]
    refine ⟨fun p => ?_, snoc out _ hsrt fun q hq => ?_, ⟨fun _ => ⟨m, by simp, hnl⟩, fun _ => rfl⟩, ⟨fun h => (by cases h), fun h => (h m (by simp) he).elim⟩⟩
    · rw [List.mem_append, hmem p, List.mem_singleton, List.mem_append, List.mem_singleton]
      constructor
      · rintro ((⟨h1, -⟩ | ⟨h1, h2⟩) | h1)
        · cases h1
        · exact .inr ⟨.inl h1, h2⟩
        · exact .inl ⟨rfl, h1⟩
      · rintro (⟨-, h1⟩ | ⟨h1 | h1, h2⟩)
        · exact .inr h1
        · exact .inl (.inr ⟨h1, h2⟩)
        · exact (h2 (by rw [h1]; exact he)).elim
    · rcases (hmem q).1 hq with ⟨h1, -⟩ | ⟨h1, -⟩
      · cases h1
      · exact hnk rfl q h1
  · have hbe : (m.1.toList == k.toList) = false := by
      cases hb : (m.1.toList == k.toList) with
      | false => rfl
      | true => exact (he (key_eq.1 hb)).elim
    by_cases hlt : Lt k.data.toList m.1.data.toList
    · have hbl : Op.bytesLess k.toList m.1.toList = true := key_less.2 hlt
      cases hp : placed with
      | true =>
        subst hp
        have hst : Pa.putStep k n (out, true, fresh) m = (out ++ [m], true, fresh) := by simp [Pa.putStep, hbe]
        rw [hst]
        refine ⟨fun p => ?_, snoc out _ hsrt hout, ⟨fun _ => ⟨m, by simp, fun h => Lt.asymm h hlt⟩, fun _ => rfl⟩, ?_⟩
        · rw [List.mem_append, hmem p, List.mem_singleton, List.mem_append, List.mem_singleton]
          constructor
          · rintro ((h1 | ⟨h1, h2⟩) | rfl)
            · exact .inl h1
            · exact .inr ⟨.inl h1, h2⟩
            · exact .inr ⟨.inr rfl, he⟩
          · rintro (h1 | ⟨h1 | h1, h2⟩)
            · exact .inl (.inl h1)
            · exact .inl (.inr ⟨h1, h2⟩)
            · exact .inr h1
        · show fresh = true ↔ _
          rw [hfrs]
          exact ⟨fun h q hq => by
            rcases List.mem_append.1 hq with h1 | h1
            · exact h q h1
            · rw [List.mem_singleton.1 h1]; exact he, fun h q hq => h q (List.mem_append.2 (.inl hq))⟩
      | false =>
        subst hp
        have hst : Pa.putStep k n (out, false, fresh) m = (out ++ [(k, n)] ++ [m], true, fresh) := by simp [Pa.putStep, hbe, hbl]
        rw [hst]
        refine ⟨fun p => ?_, snoc _ _ (snoc out _ hsrt fun q hq => ?_) fun q hq => ?_, ⟨fun _ => ⟨m, by simp, fun h => Lt.asymm h hlt⟩, fun _ => rfl⟩, ?_⟩
        · rw [List.mem_append, List.mem_append, hmem p, List.mem_singleton, List.mem_singleton, List.mem_append, List.mem_singleton]
          constructor
          · rintro (((⟨h1, -⟩ | ⟨h1, h2⟩) | h1) | rfl)
            · cases h1
            · exact .inr ⟨.inl h1, h2⟩
            · exact .inl ⟨rfl, h1⟩
            · exact .inr ⟨.inr rfl, he⟩
          · rintro (⟨-, h1⟩ | ⟨h1 | h1, h2⟩)
            · exact .inl (.inr h1)
            · exact .inl (.inl (.inr ⟨h1, h2⟩))
            · exact .inr h1
        · rcases (hmem q).1 hq with ⟨h1, -⟩ | ⟨h1, -⟩
          · cases h1
          · exact hnk rfl q h1
        · rcases List.mem_append.1 hq with h1 | h1
          · exact hout q h1
          · rw [List.mem_singleton.1 h1]; exact hlt
        · show fresh = true ↔ _
          rw [hfrs]
          exact ⟨fun h q hq => by
            rcases List.mem_append.1 hq with h1 | h1
            · exact h q h1
            · rw [List.mem_singleton.1 h1]; exact he, fun h q hq => h q (List.mem_append.2 (.inl hq))⟩
    · have hbl : Op.bytesLess k.toList m.1.toList = false := by
        cases hb : Op.bytesLess k.toList m.1.toList with
        | false => rfl
        | true => exact (hlt (key_less.1 hb)).elim
      have hp0 : placed = false := by
        cases hp : placed with
        | false => rfl
        | true => exact (hlt (hkm hp)).elim
      subst hp0
      have hbe2 : (k.toList == m.1.toList) = false := by
        cases hb : (k.toList == m.1.toList) with
        | false => rfl
        | true => exact (he (key_eq.1 hb).symm).elim
      have hmk : Lt m.1.data.toList k.data.toList := by
        rcases lt_total m.1.data.toList k.data.toList with h2 | h2 | h2
        · exact h2
        · exact (he (key_eq.1 (by rw [Lib.toList_data, Lib.toList_data, h2]; exact beq_self_eq_true _))).elim
        · exact (hlt h2).elim
      have hst : Pa.putStep k n (out, false, fresh) m = (out ++ [m], false, fresh) := by simp [Pa.putStep, hbe, hbl]
      rw [hst]
      refine ⟨fun p => ?_, snoc out _ hsrt hout, ⟨fun h => (by cases h), fun ⟨q, hq, hn⟩ => ?_⟩, ?_⟩
      · rw [List.mem_append, hmem p, List.mem_singleton, List.mem_append, List.mem_singleton]
        constructor
        · rintro ((h1 | ⟨h1, h2⟩) | rfl)
          · exact .inl h1
          · exact .inr ⟨.inl h1, h2⟩
          · exact .inr ⟨.inr rfl, he⟩
        · rintro (h1 | ⟨h1 | h1, h2⟩)
          · exact .inl (.inl h1)
          · exact .inl (.inr ⟨h1, h2⟩)
          · exact .inr h1
      · rcases List.mem_append.1 hq with h1 | h1
        · exact (hn (hnk rfl q h1)).elim
        · rw [List.mem_singleton.1 h1] at hn
          exact (hn hmk).elim
      · show fresh = true ↔ _
        rw [hfrs]
        exact ⟨fun h q hq => by
          rcases List.mem_append.1 hq with h1 | h1
          · exact h q h1
          · rw [List.mem_singleton.1 h1]; exact he, fun h q hq => h q (List.mem_append.2 (.inl hq))⟩
theorem putF_all {k : ByteArray} {n : Int} : ∀ (r l : List Pa.Mk), l.reverse = r → l.Pairwise MLt → PutI k n l (Pa.putF k n l)
  | [], l, e, _ => by
    have : l = [] := List.reverse_eq_nil_iff.1 e
    subst this
    exact ⟨fun p => by simp [Pa.putF], List.Pairwise.nil, by simp [Pa.putF], by simp [Pa.putF]⟩
  | m :: r, l, e, h => by
    have e2 : l = r.reverse ++ [m] := by rw [← List.reverse_reverse l, e, List.reverse_cons]
    subst e2
    rw [putF_snoc]
    exact (putF_all r r.reverse (List.reverse_reverse r) (List.pairwise_append.1 h).1).step h
/-- Put on marks in order: in order, the key's mark is the new one, all others are as they were; and was the key new? -/
theorem putM_spec (k : ByteArray) (n : Int) {l : List Pa.Mk} (h : l.Pairwise MLt) : (Pa.putM k n l).Pairwise MLt ∧ (∀ p, p ∈ Pa.putM k n l ↔ p = (k, n) ∨ (p ∈ l ∧ p.1 ≠ k)) ∧ ((Pa.putF k n l).2.2 = true ↔ ∀ m ∈ l, m.1 ≠ k) := by
  have hI := putF_all (k := k) (n := n) _ l rfl h
  unfold Pa.putM
  cases hp : (Pa.putF k n l).2.1 with
  | true =>
    refine ⟨hI.srt, fun p => ?_, hI.frs⟩
    show p ∈ (Pa.putF k n l).1 ↔ _
    rw [hI.mem p, hp]
    simp
  | false =>
    have hall : ∀ q ∈ l, Lt q.1.data.toList k.data.toList := fun q hq => by
      by_cases h2 : Lt q.1.data.toList k.data.toList
      · exact h2
      · rw [hI.plc.2 ⟨q, hq, h2⟩] at hp; cases hp
    refine ⟨?_, fun p => ?_, hI.frs⟩
    · refine List.pairwise_append.2 ⟨hI.srt, List.pairwise_singleton .., fun q hq r hr => ?_⟩
      rw [List.mem_singleton.1 hr]
      rcases (hI.mem q).1 hq with ⟨h1, -⟩ | ⟨h1, -⟩
      · rw [hp] at h1; cases h1
      · exact hall q h1
    · show p ∈ (Pa.putF k n l).1 ++ [(k, n)] ↔ _
      rw [List.mem_append, hI.mem p, hp, List.mem_singleton]
      simp [or_comm]
theorem mem_allM_look {t : Tr} (ho : Ok t) (hM : ∀ b ∈ t.B, (t.tx b).length ≤ 1000000) (p : Pa.Mk) : p ∈ allM t ↔ look t p.1.data.toList = some p.2 := by
  obtain ⟨k, n⟩ := p
  rw [← allM_look ho hM, bs_data]
/-- The tree's marks behind a Put are the list's. -/
theorem allM_put {t0 t : Tr} (h0 : Ok t0) (ho : Ok t) (hM0 : ∀ b ∈ t0.B, (t0.tx b).length ≤ 1000000) (hM : ∀ b ∈ t.B, (t.tx b).length ≤ 1000000) {k : ByteArray} {n : Int} (h : ∀ K, look t K = if K = k.data.toList then some n else look t0 K) : allM t = Pa.putM k n (allM t0) := by
  obtain ⟨h1, h2, -⟩ := putM_spec k n (allM_sorted h0 hM0)
  refine sorted_ext MLt.irr MLt.asymm (allM_sorted ho hM) h1 fun p => ?_
  rw [h2, mem_allM_look ho hM, mem_allM_look h0 hM0, h]
  have hk : p.1.data.toList = k.data.toList ↔ p.1 = k := by rw [← key_eq, Lib.toList_data, Lib.toList_data, beq_iff_eq]
  by_cases e : p.1 = k
  · rw [if_pos (hk.2 e)]
    constructor
    · intro h3
      injection h3 with h3
      exact .inl (by obtain ⟨a, b⟩ := p; simp only at e h3; rw [e, h3])
    · rintro (h3 | ⟨-, h3⟩)
      · rw [h3]
      · exact (h3 e).elim
  · rw [if_neg (fun e' => e (hk.1 e'))]
    constructor
    · exact fun h3 => .inr ⟨h3, e⟩
    · rintro (h3 | ⟨h3, -⟩)
      · exact (e (by rw [h3])).elim
      · exact h3
/-- Was the key new? -/
theorem put_new {t0 : Tr} (h0 : Ok t0) (hM0 : ∀ b ∈ t0.B, (t0.tx b).length ≤ 1000000) (k : ByteArray) (n : Int) : (Pa.putF k n (allM t0)).2.2 = (look t0 k.data.toList).isNone := by
  obtain ⟨-, -, h3⟩ := putM_spec k n (allM_sorted h0 hM0)
  cases hl : look t0 k.data.toList with
  | none =>
    refine h3.2 fun m hm e => ?_
    rw [mem_allM_look h0 hM0, e, hl] at hm
    cases hm
  | some x =>
    cases hf : (Pa.putF k n (allM t0)).2.2 with
    | false => rfl
    | true => exact (h3.1 hf (k, x) ((mem_allM_look h0 hM0 _).2 hl) rfl).elim
end Go.Proofs.Ytjfcdkmnccafaaa.Pb
