/- A tree of beginnings, plain: texts, what two have in common; nodes, and what must be so of them; a leaf more, a fork more, a node less. No program, no condition. -/
import Derived.Test.YtnmncjeplfkdpaaProg
import Derived.Test.YtnmncjeplfkdpaaRows
import Derived.WalkKit
import Derived.ProofKit
import Derived.OpenShut
import Derived.WalkSmall
import Derived.WalkSpells
import Derived.WalkLawsBesides
import Derived.Outline
import Derived.Lib.Hide
import Derived.Deep.RegionWith
import Derived.Deep.LoopGhost
import Derived.OwnWalk
import Derived.IntWalk
import Derived.Laws.AppendOwn
import Derived.Laws.IdiomStrings
import Derived.Lib.Strings
import Derived.Laws.Shifts
import Derived.Deep.QuietTactic
import Derived.BigQuiet
namespace Go.Proofs.Ytnmncjeplfkdpaa.Pb
abbrev T := List UInt8
/-- What two texts begin with. -/
def lcp : T → T → T
  | x :: a, y :: b => if x = y then x :: lcp a b else []
  | _, _ => []
theorem lcp_left : ∀ a b : T, lcp a b <+: a
  | [], _ => by unfold lcp; exact List.prefix_refl _
  | _ :: _, [] => by unfold lcp; exact List.nil_prefix
  | x :: a, y :: b => by
    unfold lcp
    split
    · exact List.prefix_cons_inj x |>.2 (lcp_left a b)
    · exact List.nil_prefix
theorem lcp_comm : ∀ a b : T, lcp a b = lcp b a
  | [], [] => rfl
  | [], _ :: _ => rfl
  | _ :: _, [] => rfl
  | x :: a, y :: b => by
    unfold lcp
    by_cases h : x = y
    · subst h; rw [if_pos rfl, if_pos rfl, lcp_comm a b]
    · rw [if_neg h, if_neg (fun e => h e.symm)]
theorem lcp_right (a b : T) : lcp a b <+: b := by rw [lcp_comm]; exact lcp_left b a
theorem lcp_max : ∀ {c a b : T}, c <+: a → c <+: b → c <+: lcp a b
  | [], _, _, _, _ => List.nil_prefix
  | z :: c, [], _, h, _ => absurd (List.prefix_nil.1 h) (by simp)
  | z :: c, _ :: _, [], _, h => absurd (List.prefix_nil.1 h) (by simp)
  | z :: c, x :: a, y :: b, h1, h2 => by
    obtain ⟨e1, g1⟩ := List.cons_prefix_cons.1 h1
    obtain ⟨e2, g2⟩ := List.cons_prefix_cons.1 h2
    subst e1 e2
    unfold lcp
    rw [if_pos rfl]
    exact List.cons_prefix_cons.2 ⟨rfl, lcp_max g1 g2⟩
/-- A text that goes on: by which byte. -/
theorem ext_of {p q : T} (h : p <+: q) (hne : p ≠ q) : ∃ x, p ++ [x] <+: q := by
  obtain ⟨r, rfl⟩ := h
  cases r with
  | nil => simp at hne
  | cons x r => exact ⟨x, r, by simp⟩
theorem ext_pre {p q : T} {x : UInt8} (h : p ++ [x] <+: q) : p <+: q ∧ p ≠ q := by
  refine ⟨(List.prefix_append p [x]).trans h, fun e => ?_⟩
  have h1 := h.length_le
  rw [← e, List.length_append] at h1
  have : [x].length = 1 := rfl
  omega
theorem ext_one {p q : T} {x y : UInt8} (h : p ++ [x] <+: q) (k : p ++ [y] <+: q) : x = y := by
  have := List.prefix_of_prefix_length_le h k (by simp)
  have := List.IsPrefix.eq_of_length this (by simp)
  simpa using this
theorem pre_anti {p q : T} (h : p <+: q) (k : q <+: p) : p = q := h.eq_of_length (Nat.le_antisymm h.length_le k.length_le)
theorem pre_cmp {p q r : T} (h : p <+: r) (k : q <+: r) : p <+: q ∨ q <+: p := List.prefix_or_prefix_of_prefix h k
/-- Two texts that part behind p. -/
theorem lcp_part {p c d : T} {x y : UInt8} (hc : p ++ [x] <+: c) (hd : p ++ [y] <+: d) (hne : x ≠ y) : lcp c d = p := by
  have h1 := lcp_max (ext_pre hc).1 (ext_pre hd).1
  refine Classical.byContradiction fun h => ?_
  obtain ⟨z, hz⟩ := ext_of h1 (fun e => h e.symm)
  exact hne ((ext_one hc (hz.trans (lcp_left c d))).trans (ext_one hd (hz.trans (lcp_right c d))).symm)
/-- Nodes: which blocks, the root, their texts, their numbers, those below. -/
structure Tr where
  B : List Nat
  rt : Nat
  tx : Nat → T
  nm : Nat → Option Int
  ks : Nat → List Nat
/-- What must be so. -/
structure Ok (t : Tr) : Prop where
  nd : t.B.Nodup
  rin : t.rt ∈ t.B
  rtx : t.tx t.rt = []
  inj : ∀ b ∈ t.B, ∀ c ∈ t.B, t.tx b = t.tx c → b = c
  kin : ∀ b ∈ t.B, ∀ c ∈ t.ks b, c ∈ t.B ∧ t.tx b <+: t.tx c ∧ t.tx b ≠ t.tx c
  srt : ∀ b ∈ t.B, (t.ks b).Pairwise (fun c d => ∀ x y, t.tx b ++ [x] <+: t.tx c → t.tx b ++ [y] <+: t.tx d → x < y)
  kid : ∀ b ∈ t.B, ∀ d ∈ t.B, t.tx b <+: t.tx d → t.tx b ≠ t.tx d → ∃ c ∈ t.ks b, t.tx c <+: t.tx d
/-- Each node but the root, and but one, has a number or two below it. -/
def Mn (t : Tr) (e : Option Nat) : Prop := ∀ b ∈ t.B, b ≠ t.rt → some b ≠ e → t.nm b ≠ none ∨ 2 ≤ (t.ks b).length
theorem ulirr (x : UInt8) : ¬ x < x := fun h => absurd h (by simp)
namespace Ok
variable {t : Tr} (h : Ok t)
include h
theorem kext {b c : Nat} (hb : b ∈ t.B) (hc : c ∈ t.ks b) : ∃ x, t.tx b ++ [x] <+: t.tx c := by
  obtain ⟨-, h1, h2⟩ := h.kin b hb c hc
  exact ext_of h1 h2
/-- Of those below one node each goes on with a byte of its own. -/
theorem kone {b c d : Nat} (hb : b ∈ t.B) (hc : c ∈ t.ks b) (hd : d ∈ t.ks b) {x : UInt8} (h1 : t.tx b ++ [x] <+: t.tx c) (h2 : t.tx b ++ [x] <+: t.tx d) : c = d := by
  obtain ⟨i, hi, rfl⟩ := List.mem_iff_getElem.1 hc
  obtain ⟨j, hj, rfl⟩ := List.mem_iff_getElem.1 hd
  have hs := List.pairwise_iff_getElem.1 (h.srt b hb)
  rcases Nat.lt_trichotomy i j with hij | hij | hij
  · exact absurd (hs i j hi hj hij x x h1 h2) (ulirr x)
  · subst hij; rfl
  · exact absurd (hs j i hj hi hij x x h2 h1) (ulirr x)
theorem knd {b : Nat} (hb : b ∈ t.B) : (t.ks b).Nodup := by
  refine (h.srt b hb).imp_of_mem ?_
  intro c d hc _ hcd e
  subst e
  obtain ⟨x, hx⟩ := h.kext hb hc
  exact absurd (hcd x x hx hx) (ulirr x)
/-- A node below a text is reached by the one that goes on so. -/
theorem kid_at {b c d : Nat} (hb : b ∈ t.B) (hc : c ∈ t.ks b) (hd : d ∈ t.B) {x : UInt8} (h1 : t.tx b ++ [x] <+: t.tx c) (h2 : t.tx b ++ [x] <+: t.tx d) : t.tx c <+: t.tx d := by
  obtain ⟨p1, p2⟩ := ext_pre h2
  obtain ⟨e, he, hp⟩ := h.kid b hb d hd p1 p2
  obtain ⟨y, hy⟩ := h.kext hb he
  have := ext_one (hy.trans hp) h2
  subst this
  rw [h.kone hb hc he h1 hy]; exact hp
/-- Each node stands below one alone. -/
theorem par_one {b b' x : Nat} (hb : b ∈ t.B) (hb' : b' ∈ t.B) (hx : x ∈ t.ks b) (hx' : x ∈ t.ks b') : b = b' := by
  obtain ⟨i1, p1, n1⟩ := h.kin b hb x hx
  obtain ⟨-, p2, n2⟩ := h.kin b' hb' x hx'
  have key : ∀ {b b'}, b ∈ t.B → b' ∈ t.B → x ∈ t.ks b → x ∈ t.ks b' → t.tx b <+: t.tx b' → b = b' := by
    intro b b' hb hb' hx hx' hp
    refine Classical.byContradiction fun hne => ?_
    obtain ⟨-, p2, n2⟩ := h.kin b' hb' x hx'
    obtain ⟨e, he, hpe⟩ := h.kid b hb b' hb' hp (fun e => hne (h.inj b hb b' hb' e))
    obtain ⟨y, hy⟩ := h.kext hb he
    obtain ⟨z, hz⟩ := h.kext hb hx
    have := ext_one (hy.trans (hpe.trans p2)) hz
    subst this
    have := h.kone hb he hx hy hz
    subst this
    exact n2 (pre_anti p2 hpe)
  rcases pre_cmp p1 p2 with hp | hp
  · exact key hb hb' hx hx' hp
  · exact (key hb' hb hx' hx hp).symm
theorem root_not {b : Nat} (hb : b ∈ t.B) (hx : t.rt ∈ t.ks b) : False := by
  obtain ⟨-, p, n⟩ := h.kin b hb t.rt hx
  rw [h.rtx] at p n
  exact n (List.prefix_nil.1 p)
/-- A text behind a node, if none goes on so: there is no node of it, nor behind it. -/
theorem none_at {b d : Nat} (hb : b ∈ t.B) (hd : d ∈ t.B) {y : UInt8} (hn : ∀ c ∈ t.ks b, ¬ t.tx b ++ [y] <+: t.tx c) : ¬ t.tx b ++ [y] <+: t.tx d := fun hp => by
  obtain ⟨p1, p2⟩ := ext_pre hp
  obtain ⟨e, he, hpe⟩ := h.kid b hb d hd p1 p2
  obtain ⟨z, hz⟩ := h.kext hb he
  have := ext_one (hz.trans hpe) hp
  subst this
  exact hn e he hz
end Ok
/-- A leaf more below b: those below b with it are l. -/
def Tr.leaf (t : Tr) (b x : Nat) (K : T) (l : List Nat) : Tr :=
  { t with B := t.B ++ [x], tx := fun c => if c = x then K else t.tx c, nm := fun c => if c = x then none else t.nm c, ks := fun c => if c = x then [] else if c = b then l else t.ks c }
theorem Ok.leaf {t : Tr} (h : Ok t) {b x : Nat} {K : T} {l : List Nat} {y : UInt8} (hb : b ∈ t.B) (hx : x ∉ t.B) (hK : t.tx b ++ [y] <+: K) (hn : ∀ c ∈ t.ks b, ¬ t.tx b ++ [y] <+: t.tx c)
    (hl : ∀ c, c ∈ l ↔ c ∈ t.ks b ∨ c = x) (hs : l.Pairwise (fun c d => ∀ x' y', t.tx b ++ [x'] <+: (if c = x then K else t.tx c) → t.tx b ++ [y'] <+: (if d = x then K else t.tx d) → x' < y')) : Ok (t.leaf b x K l) := by
  have hne : ∀ c, c ∈ t.B → c ≠ x := fun c hc e => hx (e ▸ hc)
  have hbx := hne b hb
  have tb : ∀ c, c ∈ t.B → (t.leaf b x K l).tx c = t.tx c := fun c hc => if_neg (hne c hc)
  have tX : (t.leaf b x K l).tx x = K := if_pos rfl
  have kb : (t.leaf b x K l).ks b = l := by show (if b = x then _ else if b = b then l else _) = l; rw [if_neg hbx, if_pos rfl]
  have kX : (t.leaf b x K l).ks x = [] := if_pos rfl
  have ko : ∀ c, c ∈ t.B → c ≠ b → (t.leaf b x K l).ks c = t.ks c := fun c hc hcb => by show (if c = x then _ else if c = b then l else _) = _; rw [if_neg (hne c hc), if_neg hcb]
  obtain ⟨pK, nK⟩ := ext_pre hK
  have mem : ∀ c, c ∈ (t.leaf b x K l).B ↔ c ∈ t.B ∨ c = x := fun c => by show c ∈ t.B ++ [x] ↔ _; simp
  have nK' : ∀ d, d ∈ t.B → ¬ K <+: t.tx d := fun d hd hp => h.none_at hb hd hn (hK.trans hp)
  refine ⟨?_, (mem _).2 (.inl h.rin), by rw [show (t.leaf b x K l).rt = t.rt from rfl, tb _ h.rin]; exact h.rtx, ?_, ?_, ?_, ?_⟩
  · show (t.B ++ [x]).Nodup
    rw [List.nodup_append]
    exact ⟨h.nd, by simp, fun a ha b hb e => by simp at hb; exact hx (by rw [← hb, ← e]; exact ha)⟩
  · intro c hc0 d hd0 e
    rcases (mem c).1 hc0 with hc | rfl <;> rcases (mem d).1 hd0 with hd | rfl
    · rw [tb c hc, tb d hd] at e; exact h.inj c hc d hd e
    · rw [tb c hc, tX] at e; exact absurd (e ▸ List.prefix_refl _) (nK' c hc)
    · rw [tb d hd, tX] at e; exact absurd (e ▸ List.prefix_refl _) (nK' d hd)
    · rfl
  · intro c hc0 d hd
    rcases (mem c).1 hc0 with hc | rfl
    · by_cases hcb : c = b
      · subst hcb
        rw [kb] at hd
        rcases (hl d).1 hd with hd | rfl
        · obtain ⟨i, p, n⟩ := h.kin c hc d hd
          rw [tb c hc, tb d i]
          exact ⟨(mem d).2 (.inl i), p, n⟩
        · rw [tb c hc, tX]; exact ⟨(mem _).2 (.inr rfl), pK, nK⟩
      · rw [ko c hc hcb] at hd
        obtain ⟨i, p, n⟩ := h.kin c hc d hd
        rw [tb c hc, tb d i]
        exact ⟨(mem d).2 (.inl i), p, n⟩
    · rw [kX] at hd; cases hd
  · intro c hc0
    rcases (mem c).1 hc0 with hc | rfl
    · by_cases hcb : c = b
      · subst hcb
        rw [kb, tb c hc]; exact hs
      · rw [ko c hc hcb, tb c hc]
        refine (h.srt c hc).imp_of_mem ?_
        intro d e hd he hde
        rw [tb d (h.kin c hc d hd).1, tb e (h.kin c hc e he).1]; exact hde
    · rw [kX]; exact List.Pairwise.nil
  · intro c hc0 d hd0 hp hne2
    rcases (mem c).1 hc0 with hc | rfl <;> rcases (mem d).1 hd0 with hd | rfl
    · rw [tb c hc, tb d hd] at hp hne2
      obtain ⟨e, he, hpe⟩ := h.kid c hc d hd hp hne2
      have hi := (h.kin c hc e he).1
      refine ⟨e, ?_, by rw [tb e hi, tb d hd]; exact hpe⟩
      by_cases hcb : c = b
      · subst hcb; rw [kb]; exact (hl e).2 (.inl he)
      · rw [ko c hc hcb]; exact he
    · rw [tb c hc, tX] at hp hne2
      by_cases hcb : c = b
      · subst hcb
        exact ⟨d, by rw [kb]; exact (hl d).2 (.inr rfl), by rw [tX]; exact List.prefix_refl _⟩
      · rcases pre_cmp hp pK with h1 | h1
        · obtain ⟨e, he, hpe⟩ := h.kid c hc b hb h1 (fun e => hcb (h.inj c hc b hb e))
          exact ⟨e, by rw [ko c hc hcb]; exact he, by rw [tb e (h.kin c hc e he).1, tX]; exact hpe.trans pK⟩
        · exfalso
          obtain ⟨z, hz⟩ := ext_of h1 (fun e => hcb (h.inj b hb c hc e).symm)
          have := ext_one (hz.trans hp) hK
          subst this
          exact h.none_at hb hc hn hz
    · rw [tb d hd, tX] at hp
      exact absurd hp (nK' d hd)
    · exact absurd rfl hne2
/-- A fork: a node f, of the text p, ahead of c, below b: those below b are l now. -/
def Tr.fork (t : Tr) (b c f : Nat) (p : T) (l : List Nat) : Tr :=
  { t with B := t.B ++ [f], tx := fun d => if d = f then p else t.tx d, nm := fun d => if d = f then none else t.nm d, ks := fun d => if d = f then [c] else if d = b then l else t.ks d }
theorem Ok.fork {t : Tr} (h : Ok t) {b c f : Nat} {p : T} {l : List Nat} {y : UInt8} (hb : b ∈ t.B) (hf : f ∉ t.B) (hc : c ∈ t.ks b) (hp : t.tx b ++ [y] <+: p) (hpc : p <+: t.tx c) (hpn : p ≠ t.tx c)
    (hl : l = (t.ks b).map (fun d => if d = c then f else d)) : Ok (t.fork b c f p l) := by
  have hne : ∀ d, d ∈ t.B → d ≠ f := fun d hd e => hf (e ▸ hd)
  have hbf := hne b hb
  have hcB := (h.kin b hb c hc).1
  have tb : ∀ d, d ∈ t.B → (t.fork b c f p l).tx d = t.tx d := fun d hd => if_neg (hne d hd)
  have tF : (t.fork b c f p l).tx f = p := if_pos rfl
  have kb : (t.fork b c f p l).ks b = l := by show (if b = f then _ else if b = b then l else _) = l; rw [if_neg hbf, if_pos rfl]
  have kF : (t.fork b c f p l).ks f = [c] := if_pos rfl
  have ko : ∀ d, d ∈ t.B → d ≠ b → (t.fork b c f p l).ks d = t.ks d := fun d hd hdb => by show (if d = f then _ else if d = b then l else _) = _; rw [if_neg (hne d hd), if_neg hdb]
  have mem : ∀ d, d ∈ (t.fork b c f p l).B ↔ d ∈ t.B ∨ d = f := fun d => by show d ∈ t.B ++ [f] ↔ _; simp
  have hl' : ∀ d, d ∈ l ↔ (d ∈ t.ks b ∧ d ≠ c) ∨ d = f := fun d => by
    rw [hl, List.mem_map]
    constructor
    · rintro ⟨e, he, rfl⟩
      by_cases hec : e = c
      · rw [if_pos hec]; exact .inr rfl
      · rw [if_neg hec]; exact .inl ⟨he, hec⟩
    · rintro (⟨hd, hdc⟩ | rfl)
      · exact ⟨d, hd, if_neg hdc⟩
      · exact ⟨c, hc, if_pos rfl⟩
  obtain ⟨pP, nP⟩ := ext_pre hp
  have hyc : t.tx b ++ [y] <+: t.tx c := hp.trans hpc
  -- a node whose text is between b and p
  have mid : ∀ d, d ∈ t.B → t.tx b ++ [y] <+: t.tx d → t.tx c <+: t.tx d := fun d hd hy => h.kid_at hb hc hd hyc hy
  have nin : ∀ d, d ∈ t.B → t.tx d ≠ p := fun d hd e => by
    have := mid d hd (by rw [e]; exact hp)
    rw [e] at this
    exact hpn (pre_anti hpc this)
  refine ⟨?_, (mem _).2 (.inl h.rin), by rw [show (t.fork b c f p l).rt = t.rt from rfl, tb _ h.rin]; exact h.rtx, ?_, ?_, ?_, ?_⟩
  · show (t.B ++ [f]).Nodup
    rw [List.nodup_append]
    exact ⟨h.nd, by simp, fun a ha b hb e => by simp at hb; exact hf (by rw [← hb, ← e]; exact ha)⟩
  · intro d hd0 e he0 heq
    rcases (mem d).1 hd0 with hd | rfl <;> rcases (mem e).1 he0 with he | rfl
    · rw [tb d hd, tb e he] at heq; exact h.inj d hd e he heq
    · rw [tb d hd, tF] at heq; exact absurd heq (nin d hd)
    · rw [tb e he, tF] at heq; exact absurd heq.symm (nin e he)
    · rfl
  · intro d hd0 e he
    rcases (mem d).1 hd0 with hd | rfl
    · by_cases hdb : d = b
      · subst hdb
        rw [kb] at he
        rcases (hl' e).1 he with ⟨he, -⟩ | rfl
        · obtain ⟨i, q, n⟩ := h.kin d hd e he
          rw [tb d hd, tb e i]; exact ⟨(mem e).2 (.inl i), q, n⟩
        · rw [tb d hd, tF]; exact ⟨(mem _).2 (.inr rfl), pP, nP⟩
      · rw [ko d hd hdb] at he
        obtain ⟨i, q, n⟩ := h.kin d hd e he
        rw [tb d hd, tb e i]; exact ⟨(mem e).2 (.inl i), q, n⟩
    · rw [kF] at he
      rw [List.mem_singleton.1 he, tF, tb c hcB]
      exact ⟨(mem c).2 (.inl hcB), hpc, hpn⟩
  · intro d hd0
    rcases (mem d).1 hd0 with hd | rfl
    · by_cases hdb : d = b
      · subst hdb
        rw [kb, tb d hd, hl, List.pairwise_map]
        refine (h.srt d hd).imp_of_mem ?_
        intro e e' he he' hee x' y' hx' hy'
        have e1 : ∀ g, g ∈ t.ks d → ∀ z, t.tx d ++ [z] <+: (t.fork d c f p l).tx (if g = c then f else g) → t.tx d ++ [z] <+: t.tx g := fun g hg z hz => by
          by_cases hgc : g = c
          · rw [if_pos hgc, tF] at hz; rw [hgc]; exact hz.trans hpc
          · rw [if_neg hgc, tb g (h.kin d hd g hg).1] at hz; exact hz
        exact hee x' y' (e1 e he x' hx') (e1 e' he' y' hy')
      · rw [ko d hd hdb, tb d hd]
        refine (h.srt d hd).imp_of_mem ?_
        intro e e' he he' hee
        rw [tb e (h.kin d hd e he).1, tb e' (h.kin d hd e' he').1]; exact hee
    · rw [kF]; exact List.pairwise_singleton ..
  · intro d hd0 e he0 hpq hne2
    rcases (mem d).1 hd0 with hd | rfl <;> rcases (mem e).1 he0 with he | rfl
    · rw [tb d hd, tb e he] at hpq hne2
      obtain ⟨g, hg, hpg⟩ := h.kid d hd e he hpq hne2
      have hi := (h.kin d hd g hg).1
      by_cases hdb : d = b
      · subst hdb
        by_cases hgc : g = c
        · subst hgc
          exact ⟨f, by rw [kb]; exact (hl' f).2 (.inr rfl), by rw [tF, tb e he]; exact hpc.trans hpg⟩
        · exact ⟨g, by rw [kb]; exact (hl' g).2 (.inl ⟨hg, hgc⟩), by rw [tb g hi, tb e he]; exact hpg⟩
      · exact ⟨g, by rw [ko d hd hdb]; exact hg, by rw [tb g hi, tb e he]; exact hpg⟩
    · rw [tb d hd, tF] at hpq hne2
      by_cases hdb : d = b
      · subst hdb
        exact ⟨e, by rw [kb]; exact (hl' e).2 (.inr rfl), by rw [tF]; exact List.prefix_refl _⟩
      · rcases pre_cmp hpq pP with h1 | h1
        · obtain ⟨g, hg, hpg⟩ := h.kid d hd b hb h1 (fun e => hdb (h.inj d hd b hb e))
          exact ⟨g, by rw [ko d hd hdb]; exact hg, by rw [tb g (h.kin d hd g hg).1, tF]; exact hpg.trans pP⟩
        · exfalso
          obtain ⟨z, hz⟩ := ext_of h1 (fun e => hdb (h.inj b hb d hd e).symm)
          have := ext_one (hz.trans hpq) hp
          subst this
          exact hpn (pre_anti hpc ((mid d hd hz).trans hpq))
    · rw [tb e he, tF] at hpq hne2
      exact ⟨c, by rw [kF]; exact List.mem_singleton.2 rfl, by rw [tb c hcB, tb e he]; exact mid e he (hp.trans hpq)⟩
    · exact absurd rfl hne2
/-- A node less: x, below b; those below it stand in its place. -/
def Tr.skip (t : Tr) (b x : Nat) (l : List Nat) : Tr := { t with B := t.B.filter (fun c => !decide (c = x)), ks := fun c => if c = b then l else t.ks c }
theorem Ok.skip {t : Tr} (h : Ok t) {b x : Nat} {l A C : List Nat} (hb : b ∈ t.B) (hx : x ∈ t.ks b) (hA : t.ks b = A ++ x :: C) (hl : l = A ++ (t.ks x ++ C)) (h1 : (t.ks x).length ≤ 1) : Ok (t.skip b x l) := by
  obtain ⟨hxB, hbx, hbxn⟩ := h.kin b hb x hx
  have hbx' : b ≠ x := fun e => hbxn (by rw [e])
  obtain ⟨y, hy⟩ := h.kext hb hx
  have mem : ∀ d, d ∈ (t.skip b x l).B ↔ d ∈ t.B ∧ d ≠ x := fun d => by show d ∈ t.B.filter _ ↔ _; simp
  have kb : (t.skip b x l).ks b = l := if_pos rfl
  have ko : ∀ d, d ≠ b → (t.skip b x l).ks d = t.ks d := fun d hdb => if_neg hdb
  have hnd := h.knd hb
  rw [hA, List.nodup_append] at hnd
  obtain ⟨-, hnd2, hnd3⟩ := hnd
  have hxA : x ∉ A := fun hh => hnd3 x hh x (List.mem_cons_self ..) rfl
  have hxC : x ∉ C := (List.nodup_cons.1 hnd2).1
  have hl' : ∀ d, d ∈ l ↔ (d ∈ t.ks b ∧ d ≠ x) ∨ d ∈ t.ks x := fun d => by
    rw [hl, hA]
    simp only [List.mem_append, List.mem_cons]
    constructor
    · rintro (hd | hd | hd)
      · exact .inl ⟨.inl hd, fun e => hxA (e ▸ hd)⟩
      · exact .inr hd
      · exact .inl ⟨.inr (.inr hd), fun e => hxC (e ▸ hd)⟩
    · rintro (⟨hd | hd | hd, hn⟩ | hd)
      · exact .inl hd
      · exact absurd hd hn
      · exact .inr (.inr hd)
      · exact .inr (.inl hd)
  have kx : ∀ d, d ∈ t.ks x → d ≠ x := fun d hd e => (h.kin x hxB d hd).2.2 (by rw [e])
  have oth : ∀ d, d ∈ t.B → d ≠ b → x ∉ t.ks d := fun d hd hdb hh => hdb (h.par_one hd hb hh hx)
  refine ⟨h.nd.filter _, (mem _).2 ⟨h.rin, fun e => h.root_not hb (by rw [show t.rt = x from e]; exact hx)⟩, h.rtx, ?_, ?_, ?_, ?_⟩
  · intro c hc0 d hd0 e
    exact h.inj c ((mem c).1 hc0).1 d ((mem d).1 hd0).1 e
  · intro c hc0 d hd
    obtain ⟨hc, hcx⟩ := (mem c).1 hc0
    by_cases hcb : c = b
    · subst hcb
      rw [kb] at hd
      rcases (hl' d).1 hd with ⟨hd, hdx⟩ | hd
      · obtain ⟨i, p, n⟩ := h.kin c hc d hd
        exact ⟨(mem d).2 ⟨i, hdx⟩, p, n⟩
      · obtain ⟨i, p, n⟩ := h.kin x hxB d hd
        exact ⟨(mem d).2 ⟨i, kx d hd⟩, hbx.trans p, fun e => by
          have e : t.tx c = t.tx d := e
          rw [← e] at p
          exact hbxn (pre_anti hbx p)⟩
    · rw [ko c hcb] at hd
      obtain ⟨i, p, n⟩ := h.kin c hc d hd
      exact ⟨(mem d).2 ⟨i, fun e => oth c hc hcb (e ▸ hd)⟩, p, n⟩
  · intro c hc0
    obtain ⟨hc, hcx⟩ := (mem c).1 hc0
    by_cases hcb : c = b
    · subst hcb
      rw [kb, hl]
      have hs := h.srt c hc
      rw [hA, List.pairwise_append, List.pairwise_cons] at hs
      obtain ⟨s1, ⟨s2, s3⟩, s4⟩ := hs
      have up : ∀ d, d ∈ t.ks x → ∀ z, t.tx c ++ [z] <+: t.tx d → t.tx c ++ [z] <+: t.tx x := fun d hd z hz => by
        have := ext_one hz (hy.trans (h.kin x hxB d hd).2.1)
        subst this; exact hy
      rw [List.pairwise_append, List.pairwise_append]
      refine ⟨s1, ⟨?_, s3, fun d hd e he x' y' hx' hy' => s2 e he x' y' (up d hd x' hx') hy'⟩, fun a ha e he x' y' hx' hy' => ?_⟩
      · match hk : t.ks x, h1 with
        | [], _ => exact List.Pairwise.nil
        | [_], _ => exact List.pairwise_singleton ..
      · rcases List.mem_append.1 he with he | he
        · exact s4 a ha x (List.mem_cons_self ..) x' y' hx' (up e he y' hy')
        · exact s4 a ha e (List.mem_cons_of_mem _ he) x' y' hx' hy'
    · rw [ko c hcb]; exact h.srt c hc
  · intro c hc0 d hd0 hp hne
    obtain ⟨hc, hcx⟩ := (mem c).1 hc0
    obtain ⟨hd, hdx⟩ := (mem d).1 hd0
    obtain ⟨e, he, hpe⟩ := h.kid c hc d hd hp hne
    by_cases hcb : c = b
    · subst hcb
      by_cases hex : e = x
      · subst hex
        obtain ⟨g, hg, hpg⟩ := h.kid e hxB d hd hpe (fun e' => hdx (h.inj e hxB d hd e').symm)
        exact ⟨g, by rw [kb]; exact (hl' g).2 (.inr hg), hpg⟩
      · exact ⟨e, by rw [kb]; exact (hl' e).2 (.inl ⟨he, hex⟩), hpe⟩
    · exact ⟨e, by rw [ko c hcb]; exact he, hpe⟩
/-- A node's number is another one. -/
def Tr.mark (t : Tr) (b : Nat) (n : Option Int) : Tr := { t with nm := fun c => if c = b then n else t.nm c }
theorem Ok.mark {t : Tr} (h : Ok t) (b : Nat) (n : Option Int) : Ok (t.mark b n) := ⟨h.nd, h.rin, h.rtx, h.inj, h.kin, h.srt, h.kid⟩
end Go.Proofs.Ytnmncjeplfkdpaa.Pb
/- The tree as it lies; the byte that goes on; find's parts. No condition but bounds. -/
namespace Go.Proofs.Ytnmncjeplfkdpaa.Pb
open Go.ChangeShapes Go.WideShapes Go.ChangeAt Go.RowKit
theorem bstep {a b c : World} (h : Below a.heap.size a b) (k : Below b.heap.size b c) : Below a.heap.size a c := h.trans (k.mono h.size)
theorem bbox {w : World} (o : Obj) : Below w.heap.size w (w.alloc o) := (Below.refl _ _).alloc (Nat.le_refl _) o
theorem bdrew (w : World) (n : Nat) : Below w.heap.size w (w.drewN n) := below_drewN (Below.refl _ _) n
/-- A text as bytes of the program's. -/
def bs (l : T) : ByteArray := ⟨l.toArray⟩
theorem bs_size (l : T) : (bs l).size = l.length := by simp [bs, ByteArray.size]
theorem bs_data (k : ByteArray) : bs k.data.toList = k := by cases k; simp [bs]
theorem data_bs (l : T) : (bs l).data.toList = l := by simp [bs]
theorem bs_toList (l : T) : (bs l).toList = l := by rw [ByteArray.toList_eq, data_bs]
theorem bs_get (l : T) (i : Nat) (h : i < (bs l).size) : (bs l)[i] = l[i]'(by rw [bs_size] at h; exact h) := by
  show (bs l).data[i]'(h) = _
  simp [bs]
theorem bs_inj {a b : T} (h : bs a = bs b) : a = b := by rw [← data_bs a, ← data_bs b, h]
/-- A node as it lies. -/
structure NdAt (w : World) (b : Nat) (tx : T) (m : Option Int) (v : Value) : Prop where
  c0 : w.cell? ⟨b, 0, none⟩ = some (.string (bs tx))
  c1 : w.cell? ⟨b, 1, none⟩ = some (.bool m.isSome)
  c2 : w.cell? ⟨b, 2, none⟩ = some (.int .i64 (m.getD 0))
  c3 : w.cell? ⟨b, 3, none⟩ = some v
  fz : ∀ j, w.frozen? ⟨b, j, none⟩ = false
theorem NdAt.lt {w : World} {b : Nat} {tx : T} {m : Option Int} {v : Value} (h : NdAt w b tx m v) : b < w.heap.size := World.block_lt_of_cell? w _ h.c0
theorem NdAt.keep {w w' : World} {b : Nat} {tx : T} {m : Option Int} {v : Value} (h : NdAt w b tx m v) (e : w'.heap[b]? = w.heap[b]?) : NdAt w' b tx m v :=
  ⟨(World.cell?_of_block (a := ⟨b, 0, none⟩) e).trans h.c0, (World.cell?_of_block (a := ⟨b, 1, none⟩) e).trans h.c1, (World.cell?_of_block (a := ⟨b, 2, none⟩) e).trans h.c2, (World.cell?_of_block (a := ⟨b, 3, none⟩) e).trans h.c3, fun j => (World.frozen?_of_block (a := ⟨b, j, none⟩) e).trans (h.fz j)⟩
def ptr (b : Nat) : Value := .pointer (some ⟨b, 0, none⟩)
/-- A row of nodes as it lies. -/
def KsAt (w : World) (v : Value) (l : List Nat) : Prop := w.ownsRow 0 71 1 v l.length (l.map ptr)
theorem KsAt.keep {w w' : World} {v : Value} {l : List Nat} (h : KsAt w v l) (e : ∀ g, v.ownBlock = some g → w'.heap[g]? = w.heap[g]?) : KsAt w' v l := by
  refine ⟨h.1, ?_⟩
  rcases h.2 with h2 | ⟨g, cap, cur, rfl, h1, h2, h3⟩
  · exact .inl h2
  · exact .inr ⟨g, cap, cur, rfl, h1, (e g rfl).trans h2, h3⟩
theorem KsAt.slice {w : World} {v : Value} {l : List Nat} (h : KsAt w v l) : ∃ a c, v = .slice a l.length c ∧ l.length ≤ c ∧ c ≤ maxLen ∧ ∀ i (hi : i < l.length), ∃ g, a = some ⟨g, 0, none⟩ ∧ g < w.heap.size ∧ w.cell? ⟨g, i, none⟩ = some (ptr l[i]) := by
  rcases h.2 with ⟨rfl, hn⟩ | ⟨g, cap, cur, rfl, hg, hh, h1, h2, h3, h4⟩
  · exact ⟨none, 0, by rw [hn], by omega, Nat.zero_le _, fun i hi => absurd hi (by omega)⟩
  · refine ⟨some ⟨g, 0, none⟩, cap, rfl, h1, h2, fun i hi => ⟨g, rfl, (Array.getElem?_eq_some_iff.1 hh).1, ?_⟩⟩
    have e1 : (cur.toList.take (l.length * 1))[i]? = cur.toList[i]? := List.getElem?_take_of_lt (by omega)
    rw [h4] at e1
    have e2 : (l.map ptr)[i]? = some (ptr l[i]) := by simp [hi]
    rw [e2] at e1
    simp only [World.cell?, hh]
    simpa using e1.symm
/-- The nodes of a tree as they lie; vs: each one's row. -/
structure TrAt (w : World) (t : Tr) (vs : Nat → Value) : Prop where
  nod : ∀ b ∈ t.B, NdAt w b (t.tx b) (t.nm b) (vs b)
  row : ∀ b ∈ t.B, KsAt w (vs b) (t.ks b)
  rap : ∀ b ∈ t.B, ∀ c ∈ t.B, ∀ g, (vs b).ownBlock = some g → (vs c).ownBlock = some g → b = c
  rno : ∀ b ∈ t.B, ∀ g, (vs b).ownBlock = some g → g ∉ t.B
/-- The blocks of nodes and rows. -/
def ownT (t : Tr) (vs : Nat → Value) (x : Nat) : Prop := x ∈ t.B ∨ ∃ b ∈ t.B, (vs b).ownBlock = some x
theorem KsAt.lt {w : World} {v : Value} {l : List Nat} (h : KsAt w v l) {g : Nat} (hg : v.ownBlock = some g) : g < w.heap.size := by
  rcases h.2 with ⟨rfl, hn⟩ | ⟨g', cap, cur, rfl, -, hh, -⟩
  · cases hg
  · cases hg
    exact (Array.getElem?_eq_some_iff.1 hh).1
theorem TrAt.lt {w : World} {t : Tr} {vs : Nat → Value} (h : TrAt w t vs) {x : Nat} (hx : ownT t vs x) : x < w.heap.size := by
  rcases hx with hx | ⟨b, hb, e⟩
  · exact (h.nod x hx).lt
  · exact (h.row b hb).lt e
theorem TrAt.keep {w w' : World} {t : Tr} {vs : Nat → Value} (h : TrAt w t vs) (e : ∀ x, ownT t vs x → w'.heap[x]? = w.heap[x]?) : TrAt w' t vs :=
  ⟨fun b hb => (h.nod b hb).keep (e b (.inl hb)), fun b hb => (h.row b hb).keep fun g hg => e g (.inr ⟨b, hb, hg⟩), h.rap, h.rno⟩
theorem TrAt.below {w w' : World} {t : Tr} {vs : Nat → Value} (h : TrAt w t vs) (hb : Below w.heap.size w w') : TrAt w' t vs := h.keep fun _ hx => hb.block _ (h.lt hx)
/-- -1, 0 or 1. -/
def cmpN (x y : Nat) : Int := if x < y then -1 else if y < x then 1 else 0
theorem cmpN_lt {x y : Nat} (h : x < y) : cmpN x y = -1 := if_pos h
theorem cmpN_gt {x y : Nat} (h : y < x) : cmpN x y = 1 := by unfold cmpN; rw [if_neg (by omega), if_pos h]
theorem cmpN_eq {x y : Nat} (h : x = y) : cmpN x y = 0 := by unfold cmpN; rw [if_neg (by omega), if_neg (by omega)]
set_option maxHeartbeats 4000000 in
theorem isNaN_calls (w : World) (x : Nat) :
    Calls Try.prog 102 #[.int .u8 x] w fun e w' => e = .returned (.bool false) ∧ w = w' := by
  go_enter Try.func102, Try.ntmps102
  go_wp2_with fail
  go_ret
  exact ⟨rfl, rfl⟩
set_option maxHeartbeats 4000000 in
theorem compare_calls (w : World) (x y : Nat) :
    Calls Try.prog 95 #[.int .u8 x, .int .u8 y] w fun e w' => e = .returned (.int .i64 (cmpN x y)) ∧ w = w' := by
  go_enter Try.func95, Try.ntmps95
  have HN := Lib.hid (fun x => isNaN_calls w x)
  go_wp2_with fail
  refine (HN.out x).mono ?_; rintro en w1 ⟨rfl, rfl⟩
  go_wp2_with fail
  refine (HN.out y).mono ?_; rintro en w1 ⟨rfl, rfl⟩
  rcases Nat.lt_trichotomy x y with h | h | h
  · have h1 : (x : Int) < (y : Int) := by omega
    go_wp2_with fail
    go_ret
    exact ⟨by rw [cmpN_lt h]; rfl, rfl⟩
  · have h1 : ¬ (x : Int) < (y : Int) := by omega
    have h2 : ¬ (y : Int) < (x : Int) := by omega
    go_wp2_with fail
    go_ret
    exact ⟨by rw [cmpN_eq h]; rfl, rfl⟩
  · have h1 : ¬ (x : Int) < (y : Int) := by omega
    have h2 : (y : Int) < (x : Int) := by omega
    go_wp2_with fail
    go_ret
    exact ⟨by rw [cmpN_gt h]; rfl, rfl⟩
end Go.Proofs.Ytnmncjeplfkdpaa.Pb
/- find: where among those below a node the one stands that goes on with a byte. Conditions: the tree as it lies. -/
namespace Go.Proofs.Ytnmncjeplfkdpaa.Pb
open Go.ChangeShapes Go.WideShapes Go.ChangeAt Go.RowKit
set_option maxHeartbeats 4000000 in
set_option maxRecDepth 100000 in
theorem fcmp_calls (w : World) (c b bx : Nat) (S R : ByteArray) (x : Nat) (c0 : w.cell? ⟨c, 0, none⟩ = some (.string S)) (cb : w.cell? ⟨bx, 0, none⟩ = some (.pointer (some ⟨b, 0, none⟩))) (b0 : w.cell? ⟨b, 0, none⟩ = some (.string R)) (h : R.size < S.size) :
    Calls Try.prog 94 #[.pointer (some ⟨c, 0, none⟩), .int .u8 x, .pointer (some ⟨bx, 0, none⟩)] w fun e w' => e = .returned (.int .i64 (cmpN (S[R.size]'h).toNat x)) ∧ ∃ n, w' = w.drewN n := by
  have HC := Lib.hid (fun w z => compare_calls w z x)
  have hlt : (R.size : Int) < (S.size : Int) := by omega
  go_enter Try.func94, Try.ntmps94
  go_wp2_with fail
  go_quiet ((go_at_call 95; with_reducible exact Calls.quiet_of_same ((HC.out _ _).mono fun _ _ ⟨a, b⟩ => ⟨a, b.symm⟩)))
  go_wp2_with fail
  go_ret
  exact ⟨rfl, _, rfl⟩
/-- Where, in numbers that rise, one stands, or would stand; whether it is there. -/
structure Fnd (ys : List Nat) (x k : Nat) (th : Bool) : Prop where
  le : k ≤ ys.length
  lo : ∀ i (h : i < ys.length), i < k → ys[i] < x
  hi : ∀ i (h : i < ys.length), k ≤ i → x ≤ ys[i]
  at_ : ∀ (h : k < ys.length), (th = true ↔ ys[k] = x)
  no : ys.length ≤ k → th = false
theorem fnd_ex : ∀ (ys : List Nat), ys.Pairwise (· < ·) → ∀ x, ∃ k th, Fnd ys x k th
  | [], _, x => ⟨0, false, Nat.le_refl _, fun i h => absurd h (Nat.not_lt_zero _), fun i h => absurd h (Nat.not_lt_zero _), fun h => absurd h (Nat.not_lt_zero _), fun _ => rfl⟩
  | y :: r, hs, x => by
    obtain ⟨h1, h2⟩ := List.pairwise_cons.1 hs
    by_cases hy : y < x
    · obtain ⟨k, th, hf⟩ := fnd_ex r h2 x
      refine ⟨k + 1, th, Nat.succ_le_succ hf.le, fun i h hi => ?_, fun i h hi => ?_, fun h => ?_, fun h => hf.no (Nat.le_of_succ_le_succ h)⟩
      · cases i with
        | zero => exact hy
        | succ i => exact hf.lo i (Nat.lt_of_succ_lt_succ h) (Nat.lt_of_succ_lt_succ hi)
      · cases i with
        | zero => omega
        | succ i => exact hf.hi i (Nat.lt_of_succ_lt_succ h) (Nat.le_of_succ_le_succ hi)
      · exact hf.at_ (Nat.lt_of_succ_lt_succ h)
    · refine ⟨0, decide (y = x), Nat.zero_le _, fun i h hi => absurd hi (Nat.not_lt_zero _), fun i h _ => ?_, fun h => by simp, fun h => absurd h (by simp)⟩
      cases i with
      | zero => show x ≤ y; omega
      | succ i =>
        have := h1 (r[i]'(Nat.lt_of_succ_lt_succ h)) (List.getElem_mem _)
        show x ≤ r[i]'(Nat.lt_of_succ_lt_succ h)
        omega
set_option maxHeartbeats 4000000 in
set_option maxRecDepth 100000 in
theorem bsearch_calls (w : World) (a : Option Addr) (cp : Nat) (l ys : List Nat) (b bx x k : Nat) (th : Bool) (R : ByteArray) (hl : l.length ≤ 1000000) (hyl : ys.length = l.length) (hF : Fnd ys x k th) (cb : w.cell? ⟨bx, 0, none⟩ = some (.pointer (some ⟨b, 0, none⟩))) (b0 : w.cell? ⟨b, 0, none⟩ = some (.string R))
    (hI : ∀ i (hi : i < l.length), ∃ g, a = some ⟨g, 0, none⟩ ∧ g < w.heap.size ∧ w.cell? ⟨g, i, none⟩ = some (ptr l[i])) (hS : ∀ i (hi : i < l.length), ∃ S : ByteArray, ∃ h : R.size < S.size, w.cell? ⟨l[i], 0, none⟩ = some (.string S) ∧ (S[R.size]'h).toNat = ys[i]'(by omega)) :
    Calls Try.prog 93 #[.slice a l.length cp, .int .u8 x, .func (.func 94) #[] #[.pointer (some ⟨bx, 0, none⟩)]] w fun e w' => e = .returned (.tuple #[.int .i64 k, .bool th]) ∧ Below w.heap.size w w' := by
  have HI := Lib.hid hI
  have HF := Lib.hid hF
  have hk := hF.le
  have HC : Hid (∀ (wr : World), Below w.heap.size w wr → ∀ i (hi : i < l.length), Calls Try.prog 94 #[.pointer (some ⟨l[i], 0, none⟩), .int .u8 x, .pointer (some ⟨bx, 0, none⟩)] wr fun e w' => e = .returned (.int .i64 (cmpN (ys[i]'(by omega)) x)) ∧ ∃ n, w' = wr.drewN n) := Lib.hid (fun wr hb i hi => by
    obtain ⟨S, h, hc, hy⟩ := hS i hi
    have := fcmp_calls wr l[i] b bx S R x ((hb.cell (p := ⟨l[i], 0, none⟩) (World.block_lt_of_cell? w _ hc)).trans hc) ((hb.cell (p := ⟨bx, 0, none⟩) (World.block_lt_of_cell? w _ cb)).trans cb) ((hb.cell (p := ⟨b, 0, none⟩) (World.block_lt_of_cell? w _ b0)).trans b0) h
    rw [hy] at this
    exact this)
  clear hI hS hF cb b0
  go_enter Try.func93, Try.ntmps93
  go_wp2_with fail
  go_loopg [9, 10, 11] (l.length + 1) (fun g iv jv _ wr => ∃ i j : Nat, iv = .int .i64 i ∧ jv = .int .i64 j ∧ i ≤ j ∧ j ≤ l.length ∧ i ≤ k ∧ k ≤ j ∧ j - i ≤ g ∧ Hid (Below w.heap.size w wr))
  case atStart => exact ⟨0, l.length, rfl, rfl, by omega, by omega, by omega, by omega, by omega, Lib.hid (Below.refl _ _)⟩
  case round =>
    obtain ⟨i, j, rfl, rfl, hij, hj, hi, hA, hg, HB⟩ := hrel
    by_cases hlt : i < j
    · have hc : (i : Int) < (j : Int) := by omega
      obtain ⟨m, hm⟩ : ∃ m : Nat, m = (i + j) / 2 := ⟨_, rfl⟩
      have hml2 : m < l.length := by omega
      have hym : m < ys.length := by omega
      have hmi : ((i : Int) + (j : Int)) / 2 = (m : Int) := by omega
      have hmc : (m : Int) < (l.length : Int) := by omega
      obtain ⟨g, rfl, hgl, c0⟩ := HI.out m hml2
      have c0 := (HB.out.cell (p := ⟨g, m, none⟩) hgl).trans c0
      have HCm := Lib.hid (HC.out _ HB.out m hml2)
      have k1 : m < k → ys[m]'hym < x := HF.out.lo m (by omega)
      have k2 : k ≤ m → x ≤ ys[m]'hym := HF.out.hi m (by omega)
      have hB2 := Lib.hid (fun n => bstep HB.out (bdrew wr n))
      clear hgl hm
      generalize l[m] = q at *
      generalize ys[m]'hym = y at *
      simp only [ptr] at c0
      by_cases hmA : m < k
      · have hz := cmpN_lt (k1 hmA)
        rw [hz] at HCm
        clear k1 k2 hz
        go_wp2_with fail
        refine HCm.out.mono ?_
        rintro e w2 ⟨rfl, n, rfl⟩
        go_wp2_with fail
        go_roundg (gk - 1)
        case measure => omega
        case rel => exact ⟨m + 1, j, by go_num, rfl, by omega, by omega, by omega, by omega, by omega, Lib.hid (hB2.out _)⟩
      · have hz : ¬ cmpN y x < 0 := by
          have := k2 (by omega)
          unfold cmpN
          rw [if_neg (by omega)]
          split <;> omega
        generalize cmpN y x = z at *
        clear k1 k2
        go_wp2_with fail
        refine HCm.out.mono ?_
        rintro e w2 ⟨rfl, n, rfl⟩
        go_wp2_with fail
        go_roundg (gk - 1)
        case measure => omega
        case rel => exact ⟨i, m, rfl, by go_num, by omega, by omega, by omega, by omega, by omega, Lib.hid (hB2.out _)⟩
    · have hc : ¬ (i : Int) < (j : Int) := by omega
      obtain rfl : i = j := by omega
      obtain rfl : i = k := by omega
      by_cases hAl2 : i < l.length
      · have hAc : (i : Int) < (l.length : Int) := by omega
        obtain ⟨g, rfl, hgl, c0⟩ := HI.out i hAl2
        have c0 := (HB.out.cell (p := ⟨g, i, none⟩) hgl).trans c0
        have HCm := Lib.hid (HC.out _ HB.out i hAl2)
        have HT : Hid ((cmpN (ys[i]'(by omega)) x == 0) = th) := Lib.hid (by
          have h1 := HF.out.at_ (by omega)
          have h2 := HF.out.hi i (by omega) (Nat.le_refl _)
          by_cases hy : ys[i]'(by omega) = x
          · rw [cmpN_eq hy, h1.2 hy]; rfl
          · rw [cmpN_gt (by omega)]
            cases th with
            | true => exact absurd (h1.1 rfl) hy
            | false => rfl)
        have hB2 := Lib.hid (fun n => bstep HB.out (bdrew wr n))
        clear hgl
        generalize l[i] = q at *
        generalize cmpN (ys[i]'(by omega)) x = z at *
        simp only [ptr] at c0
        cases hz : (z == 0)
        · rw [hz] at HT
          go_wp2_with fail
          refine HCm.out.mono ?_
          rintro e w2 ⟨rfl, n, rfl⟩
          go_wp2_with fail
          go_ret2
          exact ⟨by rw [← HT.out]; rfl, hB2.out _⟩
        · rw [hz] at HT
          go_wp2_with fail
          refine HCm.out.mono ?_
          rintro e w2 ⟨rfl, n, rfl⟩
          go_wp2_with fail
          go_ret2
          exact ⟨by rw [← HT.out]; rfl, hB2.out _⟩
      · have hAc : ¬ (i : Int) < (l.length : Int) := by omega
        have HT : Hid (th = false) := Lib.hid (HF.out.no (by omega))
        go_wp2_with fail
        go_ret2
        exact ⟨by rw [HT.out]; rfl, HB.out⟩
end Go.Proofs.Ytnmncjeplfkdpaa.Pb
/- find, common, next, mark, idle of a node. Conditions: the tree as it lies. -/
namespace Go.Proofs.Ytnmncjeplfkdpaa.Pb
open Go.ChangeShapes Go.WideShapes Go.ChangeAt Go.RowKit
/-- The byte by which c goes on behind b. -/
def nb (t : Tr) (b c : Nat) : Nat := (((t.tx c)[(t.tx b).length]?).map UInt8.toNat).getD 0
theorem nb_ext {t : Tr} {b c : Nat} {x : UInt8} (h : t.tx b ++ [x] <+: t.tx c) : nb t b c = x.toNat := by
  obtain ⟨r, hr⟩ := h
  unfold nb
  rw [← hr]
  simp
theorem nb_get {t : Tr} {b c : Nat} (h : (t.tx b).length < (t.tx c).length) : ((t.tx c)[(t.tx b).length]'h).toNat = nb t b c := by
  unfold nb
  rw [List.getElem?_eq_getElem h]; rfl
namespace Ok
variable {t : Tr} (h : Ok t)
include h
theorem klen {b c : Nat} (hb : b ∈ t.B) (hc : c ∈ t.ks b) : (t.tx b).length < (t.tx c).length := by
  obtain ⟨-, h1, h2⟩ := h.kin b hb c hc
  rcases Nat.lt_or_eq_of_le h1.length_le with h3 | h3
  · exact h3
  · exact absurd (h1.eq_of_length h3) h2
theorem nbs {b : Nat} (hb : b ∈ t.B) : ((t.ks b).map (nb t b)).Pairwise (· < ·) := by
  rw [List.pairwise_map]
  refine (h.srt b hb).imp_of_mem ?_
  intro c d hc hd hcd
  obtain ⟨x, hx⟩ := h.kext hb hc
  obtain ⟨y, hy⟩ := h.kext hb hd
  rw [nb_ext hx, nb_ext hy]
  exact hcd x y hx hy
end Ok
set_option maxHeartbeats 4000000 in
set_option maxRecDepth 100000 in
theorem find_calls {w : World} {t : Tr} {vs : Nat → Value} (h : TrAt w t vs) (ho : Ok t) {b : Nat} (hb : b ∈ t.B) (x k : Nat) (th : Bool) (hF : Fnd ((t.ks b).map (nb t b)) x k th) (hl : (t.ks b).length ≤ 1000000) :
    Calls Try.prog 77 #[.pointer (some ⟨b, 0, none⟩), .int .u8 x] w fun e w' => e = .returned (.tuple #[.int .i64 k, .bool th]) ∧ Below w.heap.size w w' := by
  obtain ⟨a, cp, hv, hc1, hc2, hI⟩ := (h.row b hb).slice
  have hN := h.nod b hb
  have hbb := bbox (w := w) (.cells #[.pointer (some ⟨b, 0, none⟩)] 71)
  have b3 : (w.alloc (.cells #[.pointer (some ⟨b, 0, none⟩)] 71)).cell? ⟨b, 3, none⟩ = some (vs b) := (hbb.cell (p := ⟨b, 3, none⟩) hN.lt).trans hN.c3
  rw [hv] at b3
  have HB := Lib.hid (bsearch_calls (w.alloc (.cells #[.pointer (some ⟨b, 0, none⟩)] 71)) a cp (t.ks b) ((t.ks b).map (nb t b)) b w.heap.size x k th (bs (t.tx b)) hl (by simp) hF (World.cell?_alloc_new w _ _ 0) ((hbb.cell (p := ⟨b, 0, none⟩) hN.lt).trans hN.c0)
    (fun i hi => by
      obtain ⟨g, e, hg, hc⟩ := hI i hi
      exact ⟨g, e, Nat.lt_of_lt_of_le hg hbb.size, (hbb.cell (p := ⟨g, i, none⟩) hg).trans hc⟩)
    (fun i hi => by
      have hm := List.getElem_mem hi
      have hL := ho.klen hb hm
      have hM := h.nod _ (ho.kin b hb _ hm).1
      refine ⟨bs (t.tx (t.ks b)[i]), by rw [bs_size, bs_size]; exact hL, (hbb.cell (p := ⟨(t.ks b)[i], 0, none⟩) hM.lt).trans hM.c0, ?_⟩
      rw [bs_get]
      simp only [bs_size]
      rw [nb_get hL]
      simp))
  have HBB := Lib.hid hbb
  clear hbb hI hc1 hc2 hv hN hF h ho
  generalize (t.ks b).length = n at *
  go_enter Try.func77, Try.ntmps77
  go_wp2_with fail
  refine HB.out.mono ?_; rintro en w2 ⟨rfl, hb2⟩
  go_wp2_with fail
  go_ret2
  exact ⟨rfl, bstep HBB.out hb2⟩
theorem dlen (K : ByteArray) : K.data.toList.length = K.size := Array.length_toList
theorem dget (K : ByteArray) (i : Nat) (h : i < K.data.toList.length) : K.data.toList[i] = K[i]'(by rw [dlen] at h; exact h) := by
  show _ = K.data[i]'_
  rw [Array.getElem_toList]
theorem lcp_get : ∀ (a b : T) (i : Nat) (ha : i < a.length) (hb : i < b.length), i ≤ (lcp a b).length → (a[i] = b[i] ↔ i < (lcp a b).length)
  | [], _, i, ha, _, _ => absurd ha (Nat.not_lt_zero _)
  | _ :: _, [], i, _, hb, _ => absurd hb (Nat.not_lt_zero _)
  | x :: a, y :: b, 0, _, _, _ => by
    show x = y ↔ _
    unfold lcp
    by_cases h : x = y
    · rw [if_pos h]; exact ⟨fun _ => by simp, fun _ => h⟩
    · rw [if_neg h]; exact ⟨fun e => absurd e h, fun e => absurd e (by simp)⟩
  | x :: a, y :: b, i + 1, ha, hb, hi => by
    unfold lcp at hi ⊢
    by_cases h : x = y
    · rw [if_pos h] at hi ⊢
      have := lcp_get a b i (Nat.lt_of_succ_lt_succ ha) (Nat.lt_of_succ_lt_succ hb) (Nat.le_of_succ_le_succ hi)
      show a[i]'(Nat.lt_of_succ_lt_succ ha) = b[i]'(Nat.lt_of_succ_lt_succ hb) ↔ _
      rw [this]
      exact Nat.succ_lt_succ_iff.symm
    · rw [if_neg h] at hi
      exact absurd hi (by simp)
set_option maxHeartbeats 4000000 in
set_option maxRecDepth 100000 in
theorem common_calls (w : World) (b c : Nat) (p q : T) (K : ByteArray) (b0 : w.cell? ⟨b, 0, none⟩ = some (.string (bs p))) (c0 : w.cell? ⟨c, 0, none⟩ = some (.string (bs q))) (h1 : p <+: q) (h2 : p <+: K.data.toList) (hq : q.length ≤ 140737488351232) (hK : K.size ≤ 140737488351232) :
    Calls Try.prog 79 #[.pointer (some ⟨b, 0, none⟩), .pointer (some ⟨c, 0, none⟩), .string K] w fun e w' => e = .returned (.int .i64 (lcp q K.data.toList).length) ∧ Below w.heap.size w w' := by
  have hpl := (lcp_max h1 h2).length_le
  have hl1 := (lcp_left q K.data.toList).length_le
  have hl2 : (lcp q K.data.toList).length ≤ K.size := by
    have := (lcp_right q K.data.toList).length_le
    rw [dlen] at this
    exact this
  have HG : Hid (∀ i (h1 : i < (bs q).size) (h2 : i < K.size), i ≤ (lcp q K.data.toList).length → (((bs q)[i]'h1 = K[i]'h2) ↔ i < (lcp q K.data.toList).length)) := Lib.hid (fun i g1 g2 hi => by
    rw [bs_get]
    rw [bs_size] at g1
    have := lcp_get q K.data.toList i g1 (by rw [dlen]; exact g2) hi
    rw [← this, dget])
  have hqs : (bs q).size = q.length := bs_size q
  have hps : (bs p).size = p.length := bs_size p
  generalize bs q = Q at *
  generalize bs p = P at *
  generalize (lcp q K.data.toList).length = n at *
  have hpq := h1.length_le
  clear h1 h2
  have hlt2 : n ≤ Q.size ∧ n ≤ K.size := ⟨by omega, by omega⟩
  obtain ⟨hnQ, hnK⟩ := hlt2
  have hPn : P.size ≤ n := by omega
  have hQm : Q.size ≤ 140737488351232 := by omega
  clear hps hqs hpl hl1 hl2 hpq hq
  go_enter Try.func79, Try.ntmps79
  go_wp2_with fail
  rcases Nat.lt_or_ge K.size Q.size with hm | hm
  · have hmc : ¬ (Q.size : Int) ≤ (K.size : Int) := by omega
    go_quiet (fail)
    go_wp2_with fail
    go_loopg [7] (n + 1) (fun g vi wr => ∃ i m : Nat, vi = .int .i64 i ∧ i ≤ n ∧ n - i ≤ g ∧ wr = w.drewN m)
    case atStart => exact ⟨P.size, _, rfl, by omega, by omega, rfl⟩
    case round =>
      obtain ⟨i, m, rfl, hi, hg, rfl⟩ := hrel
      by_cases hiE : i < K.size
      · have hic : (i : Int) < (K.size : Int) := by omega
        have hik : (i : Int) < (Q.size : Int) := by omega
        have hG := HG.out i (by omega) hiE hi
        by_cases hin : i < n
        · have hb : (((Q[i]'(by omega)).toNat : Int) == ((K[i]'(by omega)).toNat : Int)) = true := by rw [hG.2 hin]; exact beq_self_eq_true _
          go_wp2_with fail
          go_quiet (fail)
          go_wp2_with fail
          go_roundg (gk - 1)
          case measure => omega
          case rel => exact ⟨i + 1, _, by go_num, by omega, by omega, rfl⟩
        · have hb : (((Q[i]'(by omega)).toNat : Int) == ((K[i]'(by omega)).toNat : Int)) = false := by
            rw [beq_eq_false_iff_ne]
            intro e
            exact hin (hG.1 (UInt8.toNat_inj.1 (Int.ofNat.inj e)))
          go_wp2_with fail
          go_quiet (fail)
          go_wp2_with fail
          go_ret
          obtain rfl : i = n := by omega
          exact ⟨rfl, bstep (bdrew w m) (bdrew (w.drewN m) _)⟩
      · have hic : ¬ (i : Int) < (K.size : Int) := by omega
        have hid : decide ((i : Int) < (K.size : Int)) = false := decide_eq_false hic
        go_wp2_with fail
        go_quiet (fail)
        go_wp2_with fail
        go_ret
        obtain rfl : i = n := by omega
        exact ⟨rfl, bstep (bdrew w m) (bdrew (w.drewN m) _)⟩
  · have hmc : (Q.size : Int) ≤ (K.size : Int) := by omega
    go_quiet (fail)
    go_wp2_with fail
    go_loopg [7] (n + 1) (fun g vi wr => ∃ i m : Nat, vi = .int .i64 i ∧ i ≤ n ∧ n - i ≤ g ∧ wr = w.drewN m)
    case atStart => exact ⟨P.size, _, rfl, by omega, by omega, rfl⟩
    case round =>
      obtain ⟨i, m, rfl, hi, hg, rfl⟩ := hrel
      by_cases hiE : i < Q.size
      · have hic : (i : Int) < (Q.size : Int) := by omega
        have hik : (i : Int) < (K.size : Int) := by omega
        have hG := HG.out i hiE (by omega) hi
        by_cases hin : i < n
        · have hb : (((Q[i]'hiE).toNat : Int) == ((K[i]'(by omega)).toNat : Int)) = true := by rw [hG.2 hin]; exact beq_self_eq_true _
          go_wp2_with fail
          go_quiet (fail)
          go_wp2_with fail
          go_roundg (gk - 1)
          case measure => omega
          case rel => exact ⟨i + 1, _, by go_num, by omega, by omega, rfl⟩
        · have hb : (((Q[i]'hiE).toNat : Int) == ((K[i]'(by omega)).toNat : Int)) = false := by
            rw [beq_eq_false_iff_ne]
            intro e
            exact hin (hG.1 (UInt8.toNat_inj.1 (Int.ofNat.inj e)))
          go_wp2_with fail
          go_quiet (fail)
          go_wp2_with fail
          go_ret
          obtain rfl : i = n := by omega
          exact ⟨rfl, bstep (bdrew w m) (bdrew (w.drewN m) _)⟩
      · have hic : ¬ (i : Int) < (Q.size : Int) := by omega
        have hid : decide ((i : Int) < (Q.size : Int)) = false := decide_eq_false hic
        go_wp2_with fail
        go_quiet (fail)
        go_wp2_with fail
        go_ret
        obtain rfl : i = n := by omega
        exact ⟨rfl, bstep (bdrew w m) (bdrew (w.drewN m) _)⟩
/-- A node that is none of those below, or is one. -/
def ptrO : Option Nat → Value
  | none => .pointer none
  | some c => .pointer (some ⟨c, 0, none⟩)
/-- The next node on the way to a key. -/
def Nx (t : Tr) (b : Nat) (K : T) (o : Option Nat) : Prop :=
  (o = none ∧ (K.length ≤ (t.tx b).length ∨ ∀ c ∈ t.ks b, ¬ t.tx c <+: K ∧ ¬ K <+: t.tx c)) ∨ ((t.tx b).length < K.length ∧ ∃ c ∈ t.ks b, o = some c ∧ (t.tx c <+: K ∨ K <+: t.tx c))
end Go.Proofs.Ytnmncjeplfkdpaa.Pb
