/- A tree of beginnings, plain: texts, what two have in common; nodes, and what must be so of them; a leaf more, a fork more, a node less. No program, no condition. -/
import Derived.Test.YtjfcdkmnccafaaaProg
namespace Go.Proofs.Ytjfcdkmnccafaaa.Pb
abbrev T := List UInt8
/-- What two texts begin with. -/
def lcp : T → T → T
  | x :: a, y :: b => if x = y then x :: lcp a b else []
  | _, _ => []
theorem lcp_left : ∀ a b : T, lcp a b <+: a
  | [], _ => by unfold lcp; exact List.prefix_refl _
  | _ :: _, [] => by unfold lcp; exact List.nil_prefix
  | x :: a, y :: b => by
    unfold lcp
    split
    · exact List.prefix_cons_inj x |>.2 (lcp_left a b)
    · exact List.nil_prefix
theorem lcp_comm : ∀ a b : T, lcp a b = lcp b a
  | [], [] => rfl
  | [], _ :: _ => rfl
  | _ :: _, [] => rfl
  | x :: a, y :: b => by
    unfold lcp
    by_cases h : x = y
    · subst h; rw [if_pos rfl, if_pos rfl, lcp_comm a b]
    · rw [if_neg h, if_neg (fun e => h e.symm)]
theorem lcp_right (a b : T) : lcp a b <+: b := by rw [lcp_comm]; exact lcp_left b a
theorem lcp_max : ∀ {c a b : T}, c <+: a → c <+: b → c <+: lcp a b
  | [], _, _, _, _ => List.nil_prefix
  | z :: c, [], _, h, _ => absurd (List.prefix_nil.1 h) (by simp)
  | z :: c, _ :: _, [], _, h => absurd (List.prefix_nil.1 h) (by simp)
  | z :: c, x :: a, y :: b, h1, h2 => by
    obtain ⟨e1, g1⟩ := List.cons_prefix_cons.1 h1
    obtain ⟨e2, g2⟩ := List.cons_prefix_cons.1 h2
    subst e1 e2
    unfold lcp
    rw [if_pos rfl]
    exact List.cons_prefix_cons.2 ⟨rfl, lcp_max g1 g2⟩
/-- A text that goes on: by which byte. -/
theorem ext_of {p q : T} (h : p <+: q) (hne : p ≠ q) : ∃ x, p ++ [x] <+: q := by
  obtain ⟨r, rfl⟩ := h
  cases r with
  | nil => simp at hne
  | cons x r => exact ⟨x, r, by simp⟩
theorem ext_pre {p q : T} {x : UInt8} (h : p ++ [x] <+: q) : p <+: q ∧ p ≠ q := by
  refine ⟨(List.prefix_append p [x]).trans h, fun e => ?_⟩
  have h1 := h.length_le
  rw [← e, List.length_append] at h1
  have : [x].length = 1 := rfl
  omega
theorem ext_one {p q : T} {x y : UInt8} (h : p ++ [x] <+: q) (k : p ++ [y] <+: q) : x = y := by
  have := List.prefix_of_prefix_length_le h k (by simp)
  have := List.IsPrefix.eq_of_length this (by simp)
  simpa using this
theorem pre_anti {p q : T} (h : p <+: q) (k : q <+: p) : p = q := h.eq_of_length (Nat.le_antisymm h.length_le k.length_le)
theorem pre_cmp {p q r : T} (h : p <+: r) (k : q <+: r) : p <+: q ∨ q <+: p := List.prefix_or_prefix_of_prefix h k
/-- Two texts that part behind p. -/
theorem lcp_part {p c d : T} {x y : UInt8} (hc : p ++ [x] <+: c) (hd : p ++ [y] <+: d) (hne : x ≠ y) : lcp c d = p := by
  have h1 := lcp_max (ext_pre hc).1 (ext_pre hd).1
  refine Classical.byContradiction fun h => ?_
  obtain ⟨z, hz⟩ := ext_of h1 (fun e => h e.symm)
  exact hne ((ext_one hc (hz.trans (lcp_left c d))).trans (ext_one hd (hz.trans (lcp_right c d))).symm)
/-- Nodes: which blocks, the root, their texts, their numbers, those below. -/
structure Tr where
  B : List Nat
  rt : Nat
  tx : Nat → T
  nm : Nat → Option Int
  ks : Nat → List Nat
/-- What must be so. -/
structure Ok (t : Tr) : Prop where
  nd : t.B.Nodup
  rin : t.rt ∈ t.B
  rtx : t.tx t.rt = []
  inj : ∀ b ∈ t.B, ∀ c ∈ t.B, t.tx b = t.tx c → b = c
  kin : ∀ b ∈ t.B, ∀ c ∈ t.ks b, c ∈ t.B ∧ t.tx b <+: t.tx c ∧ t.tx b ≠ t.tx c
  srt : ∀ b ∈ t.B, (t.ks b).Pairwise (fun c d => ∀ x y, t.tx b ++ [x] <+: t.tx c → t.tx b ++ [y] <+: t.tx d → x < y)
  kid : ∀ b ∈ t.B, ∀ d ∈ t.B, t.tx b <+: t.tx d → t.tx b ≠ t.tx d → ∃ c ∈ t.ks b, t.tx c <+: t.tx d
/-- Each node but the root, and but one, has a number or two below it. -/
def Mn (t : Tr) (e : Option Nat) : Prop := ∀ b ∈ t.B, b ≠ t.rt → some b ≠ e → t.nm b ≠ none ∨ 2 ≤ (t.ks b).length
theorem ulirr (x : UInt8) : ¬ x < x := fun h => absurd h (by simp)
namespace Ok
variable {t : Tr} (h : Ok t)
include h
theorem kext {b c : Nat} (hb : b ∈ t.B) (hc : c ∈ t.ks b) : ∃ x, t.tx b ++ [x] <+: t.tx c := by
  obtain ⟨-, h1, h2⟩ := h.kin b hb c hc
  exact ext_of h1 h2
/-- Of those below one node each goes on with a byte of its own. -/
theorem kone {b c d : Nat} (hb : b ∈ t.B) (hc : c ∈ t.ks b) (hd : d ∈ t.ks b) {x : UInt8} (h1 : t.tx b ++ [x] <+: t.tx c) (h2 : t.tx b ++ [x] <+: t.tx d) : c = d := by
  obtain ⟨i, hi, rfl⟩ := List.mem_iff_getElem.1 hc
  obtain ⟨j, hj, rfl⟩ := List.mem_iff_getElem.1 hd
  have hs := List.pairwise_iff_getElem.1 (h.srt b hb)
  rcases Nat.lt_trichotomy i j with hij | hij | hij
  · exact absurd (hs i j hi hj hij x x h1 h2) (ulirr x)
  · subst hij; rfl
  · exact absurd (hs j i hj hi hij x x h2 h1) (ulirr x)
theorem knd {b : Nat} (hb : b ∈ t.B) : (t.ks b).Nodup := by
  refine (h.srt b hb).imp_of_mem ?_
  intro c d hc _ hcd e
  subst e
  obtain ⟨x, hx⟩ := h.kext hb hc
  exact absurd (hcd x x hx hx) (ulirr x)
/-- A node below a text is reached by the one that goes on so. -/
theorem kid_at {b c d : Nat} (hb : b ∈ t.B) (hc : c ∈ t.ks b) (hd : d ∈ t.B) {x : UInt8} (h1 : t.tx b ++ [x] <+: t.tx c) (h2 : t.tx b ++ [x] <+: t.tx d) : t.tx c <+: t.tx d := by
  obtain ⟨p1, p2⟩ := ext_pre h2
  obtain ⟨e, he, hp⟩ := h.kid b hb d hd p1 p2
  obtain ⟨y, hy⟩ := h.kext hb he
  have := ext_one (hy.trans hp) h2
  subst this
  rw [h.kone hb hc he h1 hy]; exact hp
/-- Each node stands below one alone. -/
theorem par_one {b b' x : Nat} (hb : b ∈ t.B) (hb' : b' ∈ t.B) (hx : x ∈ t.ks b) (hx' : x ∈ t.ks b') : b = b' := by
  obtain ⟨i1, p1, n1⟩ := h.kin b hb x hx
  obtain ⟨-, p2, n2⟩ := h.kin b' hb' x hx'
  have key : ∀ {b b'}, b ∈ t.B → b' ∈ t.B → x ∈ t.ks b → x ∈ t.ks b' → t.tx b <+: t.tx b' → b = b' := by
    intro b b' hb hb' hx hx' hp
    refine Classical.byContradiction fun hne => ?_
    obtain ⟨-, p2, n2⟩ := h.kin b' hb' x hx'
    obtain ⟨e, he, hpe⟩ := h.kid b hb b' hb' hp (fun e => hne (h.inj b hb b' hb' e))
    obtain ⟨y, hy⟩ := h.kext hb he
    obtain ⟨z, hz⟩ := h.kext hb hx
    have := ext_one (hy.trans (hpe.trans p2)) hz
    subst this
    have := h.kone hb he hx hy hz
    subst this
    exact n2 (pre_anti p2 hpe)
  rcases pre_cmp p1 p2 with hp | hp
  · exact key hb hb' hx hx' hp
  · exact (key hb' hb hx' hx hp).symm
theorem root_not {b : Nat} (hb : b ∈ t.B) (hx : t.rt ∈ t.ks b) : False := by
  obtain ⟨-, p, n⟩ := h.kin b hb t.rt hx
  rw [h.rtx] at p n
  exact n (List.prefix_nil.1 p)
/-- A text behind a node, if none goes on so: there is no node of it, nor behind it. -/
theorem none_at {b d : Nat} (hb : b ∈ t.B) (hd : d ∈ t.B) {y : UInt8} (hn : ∀ c ∈ t.ks b, ¬ t.tx b ++ [y] <+: t.tx c) : ¬ t.tx b ++ [y] <+: t.tx d := fun hp => by
  obtain ⟨p1, p2⟩ := ext_pre hp
  obtain ⟨e, he, hpe⟩ := h.kid b hb d hd p1 p2
  obtain ⟨z, hz⟩ := h.kext hb he
  have := ext_one (hz.trans hpe) hp
  subst this
  exact hn e he hz
end Ok
/-- A leaf more below b: those below b with it are l. -/
def Tr.leaf (t : Tr) (b x : Nat) (K : T) (l : List Nat) : Tr :=
  { t with B := t.B ++ [x], tx := fun c => if c = x then K else t.tx c, nm := fun c => if c = x then none else t.nm c, ks := fun c => if c = x then [] else if c = b then l else t.ks c }
theorem Ok.leaf {t : Tr} (h : Ok t) {b x : Nat} {K : T} {l : List Nat} {y : UInt8} (hb : b ∈ t.B) (hx : x ∉ t.B) (hK : t.tx b ++ [y] <+: K) (hn : ∀ c ∈ t.ks b, ¬ t.tx b ++ [y] <+: t.tx c)
    (hl : ∀ c, c ∈ l ↔ c ∈ t.ks b ∨ c = x) (hs : l.Pairwise (fun c d => ∀ x' y', t.tx b ++ [x'] <+: (if c = x then K else t.tx c) → t.tx b ++ [y'] <+: (if d = x then K else t.tx d) → x' < y')) : Ok (t.leaf b x K l) := by
  have hne : ∀ c, c ∈ t.B → c ≠ x := fun c hc e => hx (e ▸ hc)
  have hbx := hne b hb
  have tb : ∀ c, c ∈ t.B → (t.leaf b x K l).tx c = t.tx c := fun c hc => if_neg (hne c hc)
  have tX : (t.leaf b x K l).tx x = K := if_pos rfl
  have kb : (t.leaf b x K l).ks b = l := by show (if b = x then _ else if b = b then l else _) = l; rw [if_neg hbx, if_pos rfl]
  have kX : (t.leaf b x K l).ks x = [] := if_pos rfl
  have ko : ∀ c, c ∈ t.B → c ≠ b → (t.leaf b x K l).ks c = t.ks c := fun c hc hcb => by show (if c = x then _ else if c = b then l else _) = _; rw [if_neg (hne c hc), if_neg hcb]
  obtain ⟨pK, nK⟩ := ext_pre hK
  have mem : ∀ c, c ∈ (t.leaf b x K l).B ↔ c ∈ t.B ∨ c = x := fun c => by show c ∈ t.B ++ [x] ↔ _; simp
  have nK' : ∀ d, d ∈ t.B → ¬ K <+: t.tx d := fun d hd hp => h.none_at hb hd hn (hK.trans hp)
  refine ⟨?_, (mem _).2 (.inl h.rin), by rw [show (t.leaf b x K l).rt = t.rt from rfl, tb _ h.rin]; exact h.rtx, ?_, ?_, ?_, ?_⟩
  · show (t.B ++ [x]).Nodup
    rw [List.nodup_append]
    exact ⟨h.nd, by simp, fun a ha b hb e => by simp at hb; exact hx (by rw [← hb, ← e]; exact ha)⟩
  · intro c hc0 d hd0 e
    rcases (mem c).1 hc0 with hc | rfl <;> rcases (mem d).1 hd0 with hd | rfl
    · rw [tb c hc, tb d hd] at e; exact h.inj c hc d hd e
    · rw [tb c hc, tX] at e; exact absurd (e ▸ List.prefix_refl _) (nK' c hc)
    · rw [tb d hd, tX] at e; exact absurd (e ▸ List.prefix_refl _) (nK' d hd)
    · rfl
  · intro c hc0 d hd
    rcases (mem c).1 hc0 with hc | rfl
    · by_cases hcb : c = b
      · subst hcb
        rw [kb] at hd
        rcases (hl d).1 hd with hd | rfl
        · obtain ⟨i, p, n⟩ := h.kin c hc d hd
          rw [tb c hc, tb d i]
          exact ⟨(mem d).2 (.inl i), p, n⟩
        · rw [tb c hc, tX]; exact ⟨(mem _).2 (.inr rfl), pK, nK⟩
      · rw [ko c hc hcb] at hd
        obtain ⟨i, p, n⟩ := h.kin c hc d hd
        rw [tb c hc, tb d i]
        exact ⟨(mem d).2 (.inl i), p, n⟩
    · rw [kX] at hd; cases hd
  · intro c hc0
    rcases (mem c).1 hc0 with hc | rfl
    · by_cases hcb : c = b
      · subst hcb
        rw [kb, tb c hc]; exact hs
      · rw [ko c hc hcb, tb c hc]
        refine (h.srt c hc).imp_of_mem ?_
        intro d e hd he hde
        rw [tb d (h.kin c hc d hd).1, tb e (h.kin c hc e he).1]; exact hde
    · rw [kX]; exact List.Pairwise.nil
  · intro c hc0 d hd0 hp hne2
    rcases (mem c).1 hc0 with hc | rfl <;> rcases (mem d).1 hd0 with hd | rfl
    · rw [tb c hc, tb d hd] at hp hne2
      obtain ⟨e, he, hpe⟩ := h.kid c hc d hd hp hne2
      have hi := (h.kin c hc e he).1
      refine ⟨e, ?_, by rw [tb e hi, tb d hd]; exact hpe⟩
      by_cases hcb : c = b
      · subst hcb; rw [kb]; exact (hl e).2 (.inl he)
      · rw [ko c hc hcb]; exact he
    · rw [tb c hc, tX] at hp hne2
      by_cases hcb : c = b
      · subst hcb
        exact ⟨d, by rw [kb]; exact (hl d).2 (.inr rfl), by rw [tX]; exact List.prefix_refl _⟩
      · rcases pre_cmp hp pK with h1 | h1
        · obtain ⟨e, he, hpe⟩ := h.kid c hc b hb h1 (fun e => hcb (h.inj c hc b hb e))
          exact ⟨e, by rw [ko c hc hcb]; exact he, by rw [tb e (h.kin c hc e he).1, tX]; exact hpe.trans pK⟩
        · exfalso
          obtain ⟨z, hz⟩ := ext_of h1 (fun e => hcb (h.inj b hb c hc e).symm)
          have := ext_one (hz.trans hp) hK
          subst this
          exact h.none_at hb hc hn hz
    · rw [tb d hd, tX] at hp
      exact absurd hp (nK' d hd)
    · exact absurd rfl hne2
/-- A fork: a node f, of the text p, ahead of c, below b: those below b are l now. -/
def Tr.fork (t : Tr) (b c f : Nat) (p : T) (l : List Nat) : Tr :=
  { t with B := t.B ++ [f], tx := fun d => if d = f then p else t.tx d, nm := fun d => if d = f then none else t.nm d, ks := fun d => if d = f then [c] else if d = b then l else t.ks d }
theorem Ok.fork {t : Tr} (h : Ok t) {b c f : Nat} {p : T} {l : List Nat} {y : UInt8} (hb : b ∈ t.B) (hf : f ∉ t.B) (hc : c ∈ t.ks b) (hp : t.tx b ++ [y] <+: p) (hpc : p <+: t.tx c) (hpn : p ≠ t.tx c)
    (hl : l = (t.ks b).map (fun d => if d = c then f else d)) : Ok (t.fork b c f p l) := by
  have hne : ∀ d, d ∈ t.B → d ≠ f := fun d hd e => hf (e ▸ hd)
  have hbf := hne b hb
  have hcB := (h.kin b hb c hc).1
  have tb : ∀ d, d ∈ t.B → (t.fork b c f p l).tx d = t.tx d := fun d hd => if_neg (hne d hd)
  have tF : (t.fork b c f p l).tx f = p := if_pos rfl
  have kb : (t.fork b c f p l).ks b = l := by show (if b = f then _ else if b = b then l else _) = l; rw [if_neg hbf, if_pos rfl]
  have kF : (t.fork b c f p l).ks f = [c] := if_pos rfl
  have ko : ∀ d, d ∈ t.B → d ≠ b → (t.fork b c f p l).ks d = t.ks d := fun d hd hdb => by show (if d = f then _ else if d = b then l else _) = _; rw [if_neg (hne d hd), if_neg hdb]
  have mem : ∀ d, d ∈ (t.fork b c f p l).B ↔ d ∈ t.B ∨ d = f := fun d => by show d ∈ t.B ++ [f] ↔ _; simp
  have hl' : ∀ d, d ∈ l ↔ (d ∈ t.ks b ∧ d ≠ c) ∨ d = f := fun d => by
    rw [hl, List.mem_map]
    constructor
    · rintro ⟨e, he, rfl⟩
      by_cases hec : e = c
      · rw [if_pos hec]; exact .inr rfl
      · rw [if_neg hec]; exact .inl ⟨he, hec⟩
    · rintro (⟨hd, hdc⟩ | rfl)
      · exact ⟨d, hd, if_neg hdc⟩
      · exact ⟨c, hc, if_pos rfl⟩
  obtain ⟨pP, nP⟩ := ext_pre hp
  have hyc : t.tx b ++ [y] <+: t.tx c := hp.trans hpc
  -- a node whose text is between b and p
  have mid : ∀ d, d ∈ t.B → t.tx b ++ [y] <+: t.tx d → t.tx c <+: t.tx d := fun d hd hy => h.kid_at hb hc hd hyc hy
  have nin : ∀ d, d ∈ t.B → t.tx d ≠ p := fun d hd e => by
    have := mid d hd (by rw [e]; exact hp)
    rw [e] at this
    exact hpn (pre_anti hpc this)
  refine ⟨?_, (mem _).2 (.inl h.rin), by rw [show (t.fork b c f p l).rt = t.rt from rfl, tb _ h.rin]; exact h.rtx, ?_, ?_, ?_, ?_⟩
  · show (t.B ++ [f]).Nodup
    rw [List.nodup_append]
    exact ⟨h.nd, by simp, fun a ha b hb e => by simp at hb; exact hf (by rw [← hb, ← e]; exact ha)⟩
  · intro d hd0 e he0 heq
    rcases (mem d).1 hd0 with hd | rfl <;> rcases (mem e).1 he0 with he | rfl
    · rw [tb d hd, tb e he] at heq; exact h.inj d hd e he heq
    · rw [tb d hd, tF] at heq; exact absurd heq (nin d hd)
    · rw [tb e he, tF] at heq; exact absurd heq.symm (nin e he)
    · rfl
  · intro d hd0 e he
    rcases (mem d).1 hd0 with hd | rfl
    · by_cases hdb : d = b
      · subst hdb
        rw [kb] at he
        rcases (hl' e).1 he with ⟨he, -⟩ | rfl
        · obtain ⟨i, q, n⟩ := h.kin d hd e he
          rw [tb d hd, tb e i]; exact ⟨(mem e).2 (.inl i), q, n⟩
        · rw [tb d hd, tF]; exact ⟨(mem _).2 (.inr rfl), pP, nP⟩
      · rw [ko d hd hdb] at he
        obtain ⟨i, q, n⟩ := h.kin d hd e he
        rw [tb d hd, tb e i]; exact ⟨(mem e).2 (.inl i), q, n⟩
    · rw [kF] at he
      rw [List.mem_singleton.1 he, tF, tb c hcB]
      exact ⟨(mem c).2 (.inl hcB), hpc, hpn⟩
  · intro d hd0
    rcases (mem d).1 hd0 with hd | rfl
    · by_cases hdb : d = b
      · subst hdb
        rw [kb, tb d hd, hl, List.pairwise_map]
        refine (h.srt d hd).imp_of_mem ?_
        intro e e' he he' hee x' y' hx' hy'
        have e1 : ∀ g, g ∈ t.ks d → ∀ z, t.tx d ++ [z] <+: (t.fork d c f p l).tx (if g = c then f else g) → t.tx d ++ [z] <+: t.tx g := fun g hg z hz => by
          by_cases hgc : g = c
          · rw [if_pos hgc, tF] at hz; rw [hgc]; exact hz.trans hpc
          · rw [if_neg hgc, tb g (h.kin d hd g hg).1] at hz; exact hz
        exact hee x' y' (e1 e he x' hx') (e1 e' he' y' hy')
      · rw [ko d hd hdb, tb d hd]
        refine (h.srt d hd).imp_of_mem ?_
        intro e e' he he' hee
        rw [tb e (h.kin d hd e he).1, tb e' (h.kin d hd e' he').1]; exact hee
    · rw [kF]; exact List.pairwise_singleton ..
  · intro d hd0 e he0 hpq hne2
    rcases (mem d).1 hd0 with hd | rfl <;> rcases (mem e).1 he0 with he | rfl
    · rw [tb d hd, tb e he] at hpq hne2
      obtain ⟨g, hg, hpg⟩ := h.kid d hd e he hpq hne2
      have hi := (h.kin d hd g hg).1
      by_cases hdb : d = b
      · subst hdb
        by_cases hgc : g = c
        · subst hgc
          exact ⟨f, by rw [kb]; exact (hl' f).2 (.inr rfl), by rw [tF, tb e he]; exact hpc.trans hpg⟩
        · exact ⟨g, by rw [kb]; exact (hl' g).2 (.inl ⟨hg, hgc⟩), by rw [tb g hi, tb e he]; exact hpg⟩
      · exact ⟨g, by rw [ko d hd hdb]; exact hg, by rw [tb g hi, tb e he]; exact hpg⟩
    · rw [tb d hd, tF] at hpq hne2
      by_cases hdb : d = b
      · subst hdb
        exact ⟨e, by rw [kb]; exact (hl' e).2 (.inr rfl), by rw [tF]; exact List.prefix_refl _⟩
      · rcases pre_cmp hpq pP with h1 | h1
        · obtain ⟨g, hg, hpg⟩ := h.kid d hd b hb h1 (fun e => hdb (h.inj d hd b hb e))
          exact ⟨g, by rw [ko d hd hdb]; exact hg, by rw [tb g (h.kin d hd g hg).1, tF]; exact hpg.trans pP⟩
        · exfalso
          obtain ⟨z, hz⟩ := ext_of h1 (fun e => hdb (h.inj b hb d hd e).symm)
          have := ext_one (hz.trans hpq) hp
          subst this
          exact hpn (pre_anti hpc ((mid d hd hz).trans hpq))
    · rw [tb e he, tF] at hpq hne2
      exact ⟨c, by rw [kF]; exact List.mem_singleton.2 rfl, by rw [tb c hcB, tb e he]; exact mid e he (hp.trans hpq)⟩
    · exact absurd rfl hne2
/-- A node less: x, below b; those below it stand in its place. -/
def Tr.skip (t : Tr) (b x : Nat) (l : List Nat) : Tr := { t with B := t.B.filter (fun c => !decide (c = x)), ks := fun c => if c = b then l else t.ks c }
theorem Ok.skip {t : Tr} (h : Ok t) {b x : Nat} {l A C : List Nat} (hb : b ∈ t.B) (hx : x ∈ t.ks b) (hA : t.ks b = A ++ x :: C) (hl : l = A ++ (t.ks x ++ C)) (h1 : (t.ks x).length ≤ 1) : Ok (t.skip b x l) := by
  obtain ⟨hxB, hbx, hbxn⟩ := h.kin b hb x hx
  have hbx' : b ≠ x := fun e => hbxn (by rw [e])
  obtain ⟨y, hy⟩ := h.kext hb hx
  have mem : ∀ d, d ∈ (t.skip b x l).B ↔ d ∈ t.B ∧ d ≠ x := fun d => by show d ∈ t.B.filter _ ↔ _; simp
  have kb : (t.skip b x l).ks b = l := if_pos rfl
  have ko : ∀ d, d ≠ b → (t.skip b x l).ks d = t.ks d := fun d hdb => if_neg hdb
  have hnd := h.knd hb
  rw [hA, List.nodup_append] at hnd
  obtain ⟨-, hnd2, hnd3⟩ := hnd
  have hxA : x ∉ A := fun hh => hnd3 x hh x (List.mem_cons_self ..) rfl
  have hxC : x ∉ C := (List.nodup_cons.1 hnd2).1
  have hl' : ∀ d, d ∈ l ↔ (d ∈ t.ks b ∧ d ≠ x) ∨ d ∈ t.ks x := fun d => by
    rw [hl, hA]
    simp only [List.mem_append, List.mem_cons]
    constructor
    · rintro (hd | hd | hd)
      · exact .inl ⟨.inl hd, fun e => hxA (e ▸ hd)⟩
      · exact .inr hd
      · exact .inl ⟨.inr (.inr hd), fun e => hxC (e ▸ hd)⟩
    · rintro (⟨hd | hd | hd, hn⟩ | hd)
      · exact .inl hd
      · exact absurd hd hn
      · exact .inr (.inr hd)
      · exact .inr (.inl hd)
  have kx : ∀ d, d ∈ t.ks x → d ≠ x := fun d hd e => (h.kin x hxB d hd).2.2 (by rw [e])
  have oth : ∀ d, d ∈ t.B → d ≠ b → x ∉ t.ks d := fun d hd hdb hh => hdb (h.par_one hd hb hh hx)
  refine ⟨h.nd.filter _, (mem _).2 ⟨h.rin, fun e => h.root_not hb (by rw [show t.rt = x from e]; exact hx)⟩, h.rtx, ?_, ?_, ?_, ?_⟩
  · intro c hc0 d hd0 e
    exact h.inj c ((mem c).1 hc0).1 d ((mem d).1 hd0).1 e
  · intro c hc0 d hd
    obtain ⟨hc, hcx⟩ := (mem c).1 hc0
    by_cases hcb : c = b
    · subst hcb
      rw [kb] at hd
      rcases (hl' d).1 hd with ⟨hd, hdx⟩ | hd
      · obtain ⟨i, p, n⟩ := h.kin c hc d hd
        exact ⟨(mem d).2 ⟨i, hdx⟩, p, n⟩
      · obtain ⟨i, p, n⟩ := h.kin x hxB d hd
        exact ⟨(mem d).2 ⟨i, kx d hd⟩, hbx.trans p, fun e => by
          have e : t.tx c = t.tx d := e
          rw [← e] at p
          exact hbxn (pre_anti hbx p)⟩
    · rw [ko c hcb] at hd
      obtain ⟨i, p, n⟩ := h.kin c hc d hd
      exact ⟨(mem d).2 ⟨i, fun e => oth c hc hcb (e ▸ hd)⟩, p, n⟩
  · intro c hc0
    obtain ⟨hc, hcx⟩ := (mem c).1 hc0
    by_cases hcb : c = b
    · subst hcb
      rw [kb, hl]
      have hs := h.srt c hc
      rw [hA, List.pairwise_append, List.pairwise_cons] at hs
      obtain ⟨s1, ⟨s2, s3⟩, s4⟩ := hs
      have up : ∀ d, d ∈ t.ks x → ∀ z, t.tx c ++ [z] <+: t.tx d → t.tx c ++ [z] <+: t.tx x := fun d hd z hz => by
        have := ext_one hz (hy.trans (h.kin x hxB d hd).2.1)
        subst this; exact hy
      rw [List.pairwise_append, List.pairwise_append]
      refine ⟨s1, ⟨?_, s3, fun d hd e he x' y' hx' hy' => s2 e he x' y' (up d hd x' hx') hy'⟩, fun a ha e he x' y' hx' hy' => ?_⟩
      · match hk : t.ks x, h1 with
        | [], _ => exact List.Pairwise.nil
        | [_], _ => exact List.pairwise_singleton ..
      · rcases List.mem_append.1 he with he | he
        · exact s4 a ha x (List.mem_cons_self ..) x' y' hx' (up e he y' hy')
        · exact s4 a ha e (List.mem_cons_of_mem _ he) x' y' hx' hy'
    · rw [ko c hcb]; exact h.srt c hc
  · intro c hc0 d hd0 hp hne
    obtain ⟨hc, hcx⟩ := (mem c).1 hc0
    obtain ⟨hd, hdx⟩ := (mem d).1 hd0
    obtain ⟨e, he, hpe⟩ := h.kid c hc d hd hp hne
    by_cases hcb : c = b
    · subst hcb
      by_cases hex : e = x
      · subst hex
        obtain ⟨g, hg, hpg⟩ := h.kid e hxB d hd hpe (fun e' => hdx (h.inj e hxB d hd e').symm)
        exact ⟨g, by rw [kb]; exact (hl' g).2 (.inr hg), hpg⟩
      · exact ⟨e, by rw [kb]; exact (hl' e).2 (.inl ⟨he, hex⟩), hpe⟩
    · exact ⟨e, by rw [ko c hcb]; exact he, hpe⟩
/-- A node's number is another one. -/
def Tr.mark (t : Tr) (b : Nat) (n : Option Int) : Tr := { t with nm := fun c => if c = b then n else t.nm c }
theorem Ok.mark {t : Tr} (h : Ok t) (b : Nat) (n : Option Int) : Ok (t.mark b n) := ⟨h.nd, h.rin, h.rtx, h.inj, h.kin, h.srt, h.kid⟩
end Go.Proofs.Ytjfcdkmnccafaaa.Pb
