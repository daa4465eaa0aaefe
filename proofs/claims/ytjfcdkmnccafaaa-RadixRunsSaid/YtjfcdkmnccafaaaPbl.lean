/- The nodes whose texts begin with a node's text, in order. No condition. -/
import Derived.Test.YtjfcdkmnccafaaaPb1
namespace Go.Proofs.Ytjfcdkmnccafaaa.Pb
def subF (t : Tr) : Nat → Nat → List Nat
  | 0, _ => []
  | n + 1, b => b :: (t.ks b).flatMap (subF t n)
theorem flat_congr {l : List Nat} {f g : Nat → List Nat} (h : ∀ c ∈ l, f c = g c) : l.flatMap f = l.flatMap g := by
  induction l with
  | nil => rfl
  | cons c l ih => rw [List.flatMap_cons, List.flatMap_cons, h c (List.mem_cons_self ..), ih (fun d hd => h d (List.mem_cons_of_mem _ hd))]
theorem klt {t : Tr} (ho : Ok t) {b c : Nat} (hb : b ∈ t.B) (hc : c ∈ t.ks b) : (t.tx b).length < (t.tx c).length := by
  obtain ⟨x, hx⟩ := ho.kext hb hc
  have h1 := hx.length_le
  rw [List.length_append] at h1
  have h2 : [x].length = 1 := rfl
  omega
theorem subF_eq {t : Tr} (ho : Ok t) {M : Nat} (hM : ∀ b ∈ t.B, (t.tx b).length ≤ M) : ∀ (n m b : Nat), b ∈ t.B → M + 1 - (t.tx b).length ≤ n → M + 1 - (t.tx b).length ≤ m → subF t n b = subF t m b
  | 0, m, b, hb, hn, _ => by have := hM b hb; omega
  | n + 1, 0, b, hb, _, hm => by have := hM b hb; omega
  | n + 1, m + 1, b, hb, hn, hm => by
    show b :: _ = b :: _
    rw [flat_congr fun c hc => subF_eq ho hM n m c (ho.kin b hb c hc).1 (by have := klt ho hb hc; omega) (by have := klt ho hb hc; omega)]
/-- The nodes from b on, each ahead of those below it. -/
def sub (t : Tr) (M b : Nat) : List Nat := subF t (M + 1 - (t.tx b).length) b
theorem sub_eq {t : Tr} (ho : Ok t) {M : Nat} (hM : ∀ b ∈ t.B, (t.tx b).length ≤ M) {b : Nat} (hb : b ∈ t.B) : sub t M b = b :: (t.ks b).flatMap (sub t M) := by
  have h1 := hM b hb
  obtain ⟨n, hn⟩ : ∃ n, M + 1 - (t.tx b).length = n + 1 := ⟨M - (t.tx b).length, by omega⟩
  unfold sub
  rw [hn]
  show b :: _ = b :: _
  rw [flat_congr fun c hc => subF_eq ho hM n (M + 1 - (t.tx c).length) c (ho.kin b hb c hc).1 (by have := klt ho hb hc; omega) (Nat.le_refl _)]
theorem mem_subF {t : Tr} (ho : Ok t) {M : Nat} (hM : ∀ b ∈ t.B, (t.tx b).length ≤ M) : ∀ (n b : Nat), b ∈ t.B → M + 1 - (t.tx b).length ≤ n → ∀ d, d ∈ subF t n b ↔ d ∈ t.B ∧ t.tx b <+: t.tx d
  | 0, b, hb, hn, _ => by have := hM b hb; omega
  | n + 1, b, hb, hn, d => by
    have hk : ∀ c ∈ t.ks b, (d ∈ subF t n c ↔ d ∈ t.B ∧ t.tx c <+: t.tx d) := fun c hc => mem_subF ho hM n c (ho.kin b hb c hc).1 (by have := klt ho hb hc; omega) d
    show d ∈ b :: (t.ks b).flatMap (subF t n) ↔ _
    rw [List.mem_cons, List.mem_flatMap]
    constructor
    · rintro (rfl | ⟨c, hc, hd⟩)
      · exact ⟨hb, List.prefix_refl _⟩
      · obtain ⟨h1, h2⟩ := (hk c hc).1 hd
        exact ⟨h1, (ho.kin b hb c hc).2.1.trans h2⟩
    · rintro ⟨hd, hp⟩
      by_cases e : t.tx b = t.tx d
      · exact .inl (ho.inj d hd b hb e.symm)
      · obtain ⟨c, hc, h2⟩ := ho.kid b hb d hd hp e
        exact .inr ⟨c, hc, (hk c hc).2 ⟨hd, h2⟩⟩
theorem mem_sub {t : Tr} (ho : Ok t) {M : Nat} (hM : ∀ b ∈ t.B, (t.tx b).length ≤ M) {b : Nat} (hb : b ∈ t.B) (d : Nat) : d ∈ sub t M b ↔ d ∈ t.B ∧ t.tx b <+: t.tx d := mem_subF ho hM _ b hb (Nat.le_refl _) d
/-- A text ahead of another one: a beginning of it, or less where they part. -/
def Lt (p q : T) : Prop := (p <+: q ∧ p ≠ q) ∨ ∃ r x y, r ++ [x] <+: p ∧ r ++ [y] <+: q ∧ x < y
theorem Lt.pre {p q : T} (h : p <+: q) (hn : p ≠ q) : Lt p q := .inl ⟨h, hn⟩
theorem Lt.part {r p q : T} {x y : UInt8} (h1 : r ++ [x] <+: p) (h2 : r ++ [y] <+: q) (h : x < y) : Lt p q := .inr ⟨r, x, y, h1, h2, h⟩
theorem subF_lt {t : Tr} (ho : Ok t) {M : Nat} (hM : ∀ b ∈ t.B, (t.tx b).length ≤ M) : ∀ (n b : Nat), b ∈ t.B → M + 1 - (t.tx b).length ≤ n → (subF t n b).Pairwise (fun c d => Lt (t.tx c) (t.tx d))
  | 0, b, hb, hn => by have := hM b hb; omega
  | n + 1, b, hb, hn => by
    have hk : ∀ c ∈ t.ks b, M + 1 - (t.tx c).length ≤ n := fun c hc => by have := klt ho hb hc; omega
    have hm : ∀ c ∈ t.ks b, ∀ d, d ∈ subF t n c ↔ d ∈ t.B ∧ t.tx c <+: t.tx d := fun c hc d => mem_subF ho hM n c (ho.kin b hb c hc).1 (hk c hc) d
    show (b :: (t.ks b).flatMap (subF t n)).Pairwise _
    rw [List.pairwise_cons]
    refine ⟨fun d hd => ?_, ?_⟩
    · obtain ⟨c, hc, hd⟩ := List.mem_flatMap.1 hd
      obtain ⟨h1, h2⟩ := (hm c hc d).1 hd
      have hlt := klt ho hb hc
      exact .pre ((ho.kin b hb c hc).2.1.trans h2) (fun e => by have := h2.length_le; rw [← e] at this; omega)
    · rw [List.pairwise_flatMap]
      refine ⟨fun c hc => subF_lt ho hM n c (ho.kin b hb c hc).1 (hk c hc), ?_⟩
      refine (ho.srt b hb).imp_of_mem fun {c d} hc hd hcd x hx y hy => ?_
      obtain ⟨u, hu⟩ := ho.kext hb hc
      obtain ⟨v, hv⟩ := ho.kext hb hd
      exact .part (hu.trans ((hm c hc x).1 hx).2) (hv.trans ((hm d hd y).1 hy).2) (hcd u v hu hv)
end Go.Proofs.Ytjfcdkmnccafaaa.Pb
