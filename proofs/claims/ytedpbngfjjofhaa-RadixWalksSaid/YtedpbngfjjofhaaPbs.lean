/- Plain: a node without a number parts two keys. No condition. -/
import Derived.Test.YtedpbngfjjofhaaPbr
namespace Go.Proofs.Ytedpbngfjjofhaa.Pb
open Go.RowKit Go.Shelf
theorem kid_ne_rt {t : Tr} (ho : Ok t) {b c : Nat} (hb : b ∈ t.B) (hc : c ∈ t.ks b) : c ≠ t.rt := fun e => by
  obtain ⟨-, h2, h3⟩ := ho.kin b hb c hc
  rw [e, ho.rtx] at h2 h3
  exact h3 (List.prefix_nil.1 h2)
theorem node_parts {t : Tr} (ho : Ok t) (hm : Mn t none) (hM : ∀ b ∈ t.B, (t.tx b).length ≤ 1000000) {b : Nat} (hb : b ∈ t.B) (hr : b ≠ t.rt) (hn : t.nm b = none) : ∃ d ∈ t.B, ∃ e ∈ t.B, t.nm d ≠ none ∧ t.nm e ≠ none ∧ ∃ x y : UInt8, x < y ∧ t.tx b ++ [x] <+: t.tx d ∧ t.tx b ++ [y] <+: t.tx e := by
  rcases hm b hb hr (by simp) with h | h
  · exact (h hn).elim
  · match hk : t.ks b, h with
    | c1 :: c2 :: l, _ =>
      have k1 : c1 ∈ t.ks b := by rw [hk]; simp
      have k2 : c2 ∈ t.ks b := by rw [hk]; simp
      have hs := ho.srt b hb
      rw [hk] at hs
      have h12 := (List.pairwise_cons.1 hs).1 c2 (by simp)
      obtain ⟨x, hx⟩ := ho.kext hb k1
      obtain ⟨y, hy⟩ := ho.kext hb k2
      obtain ⟨d, hd, d1, d2⟩ := marked_below ho hm 1000000 hM _ c1 (ho.kin b hb c1 k1).1 (kid_ne_rt ho hb k1) (Nat.le_refl _)
      obtain ⟨e, he, e1, e2⟩ := marked_below ho hm 1000000 hM _ c2 (ho.kin b hb c2 k2).1 (kid_ne_rt ho hb k2) (Nat.le_refl _)
      exact ⟨d, hd, e, he, d2, e2, x, y, h12 x y hx hy, hx.trans d1, hy.trans e1⟩
/-- Each text of a node is empty, a key, or where two keys part; in keys' words. -/
theorem node_text {t : Tr} (ho : Ok t) (hm : Mn t none) (hM : ∀ b ∈ t.B, (t.tx b).length ≤ 1000000) {b : Nat} (hb : b ∈ t.B) : t.tx b = [] ∨ look t (t.tx b) ≠ none ∨ ∃ K L x y, x < y ∧ look t K ≠ none ∧ look t L ≠ none ∧ t.tx b ++ [x] <+: K ∧ t.tx b ++ [y] <+: L := by
  by_cases hr : b = t.rt
  · subst hr
    exact .inl ho.rtx
  · cases hn : t.nm b with
    | some n => exact .inr (.inl (by rw [look_at ho hb, hn]; simp))
    | none =>
      obtain ⟨d, hd, e, he, h1, h2, x, y, hxy, h3, h4⟩ := node_parts ho hm hM hb hr hn
      exact .inr (.inr ⟨t.tx d, t.tx e, x, y, hxy, by rw [look_at ho hd]; exact h1, by rw [look_at ho he]; exact h2, h3, h4⟩)
/-- .. and each such text is a node's: a key's own. -/
theorem key_node {t : Tr} (ho : Ok t) {K : T} (h : look t K ≠ none) : ∃ b ∈ t.B, t.tx b = K := by
  cases hl : look t K with
  | none => exact (h hl).elim
  | some n =>
    obtain ⟨b, hb, e, -⟩ := (look_ex ho).1 hl
    exact ⟨b, hb, e⟩
/-- Where two keys part there is a node. -/
theorem part_node {t : Tr} (ho : Ok t) {p : T} {x y : UInt8} (hxy : x ≠ y) {d e : Nat} (hd : d ∈ t.B) (he : e ∈ t.B) (h1 : p ++ [x] <+: t.tx d) (h2 : p ++ [y] <+: t.tx e) : ∃ b ∈ t.B, t.tx b = p := by
  have key : ∀ (n : Nat) (b : Nat), b ∈ t.B → t.tx b <+: p → p.length - (t.tx b).length ≤ n → ∃ b ∈ t.B, t.tx b = p := by
    intro n
    induction n with
    | zero =>
      intro b hb hp hl
      exact ⟨b, hb, hp.eq_of_length (Nat.le_antisymm hp.length_le (by omega))⟩
    | succ n ih =>
      intro b hb hp hl
      by_cases hbp : t.tx b = p
      · exact ⟨b, hb, hbp⟩
      · have hlt : (t.tx b).length < p.length := Nat.lt_of_le_of_ne hp.length_le (fun e => hbp (hp.eq_of_length e))
        have hpd : p <+: t.tx d := (List.prefix_append p [x]).trans h1
        have hpe : p <+: t.tx e := (List.prefix_append p [y]).trans h2
        obtain ⟨c, hc, hcd⟩ := ho.kid b hb d hd (hp.trans hpd) (fun e0 => by have := hpd.length_le; rw [← e0] at this; omega)
        obtain ⟨c', hc', hce⟩ := ho.kid b hb e he (hp.trans hpe) (fun e0 => by have := hpe.length_le; rw [← e0] at this; omega)
        have hcb := (ho.kin b hb c hc)
        have hclen : (t.tx b).length < (t.tx c).length := ho.klen hb hc
        by_cases hcp : (t.tx c).length ≤ p.length
        · have hcp' : t.tx c <+: p := List.prefix_of_prefix_length_le hcd hpd hcp
          exact ih c hcb.1 hcp' (by omega)
        · have hpc : p <+: t.tx c := List.prefix_of_prefix_length_le hpd hcd (by omega)
          have hne : p.length < (t.tx c).length := by omega
          have hpx : p ++ [x] <+: t.tx c := List.prefix_of_prefix_length_le h1 hcd (by rw [List.length_append]; exact hne)
          have hclen' : (t.tx b).length < (t.tx c').length := ho.klen hb hc'
          have hec : c' = c := by
            by_cases e0 : (t.tx c').length ≤ p.length
            · have hcp' : t.tx c' <+: p := List.prefix_of_prefix_length_le hce hpe e0
              obtain ⟨u, hu⟩ := ho.kext hb hc
              obtain ⟨v, hv⟩ := ho.kext hb hc'
              have huv : u = v := ext_one hu (hv.trans (hcp'.trans hpc))
              subst huv
              exact ho.kone hb hc' hc hv hu
            · have hpc' : p <+: t.tx c' := List.prefix_of_prefix_length_le hpe hce (by omega)
              obtain ⟨u, hu⟩ := ho.kext hb hc
              obtain ⟨v, hv⟩ := ho.kext hb hc'
              have hu' : t.tx b ++ [u] <+: p := List.prefix_of_prefix_length_le hu hpc (by rw [List.length_append]; exact hlt)
              have hv' : t.tx b ++ [v] <+: p := List.prefix_of_prefix_length_le hv hpc' (by rw [List.length_append]; exact hlt)
              have huv : u = v := ext_one hu' hv'
              subst huv
              exact ho.kone hb hc' hc hv hu
          subst hec
          exact (hxy (ext_one (hpx.trans hce) h2)).elim
  exact key _ t.rt ho.rin (by rw [ho.rtx]; exact List.nil_prefix) (Nat.le_refl _)
end Go.Proofs.Ytedpbngfjjofhaa.Pb
