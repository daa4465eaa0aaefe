/- Package prefix, plain: pairs of a beginning and a client; of each beginning its clients, of each client its beginnings. No program, no condition. -/
import Derived.Test.YtnmncjeplfkdpaaKa1
import Derived.Test.YtnmncjeplfkdpaaSpB
import Derived.Lib.SlicesCompact
namespace Go.Proofs.Ytnmncjeplfkdpaa.Qa
set_option linter.unusedVariables false
open Ka (Up Ok Mid lookL keysL look_mid look_none key_split mid_of withI lessI mem_with mem_less up_with up_less addR add_mid add_new idsR ids_mid ids_none cutR with_in)
abbrev Rows := Ka.Rows
instance decPl (p : ByteArray × Int) (P : List (ByteArray × Int)) : Decidable (p ∈ P) := @List.instDecidableMemOfLawfulBEq _ instBEqOfDecidableEq inferInstance p P
/-! Rising numbers. -/
theorem up_ext : ∀ {a b : List Int}, Up a → Up b → (∀ x, x ∈ a ↔ x ∈ b) → a = b
  | [], [], _, _, _ => rfl
  | [], y :: b, _, _, h => absurd ((h y).2 (List.mem_cons_self ..)) List.not_mem_nil
  | x :: a, [], _, _, h => absurd ((h x).1 (List.mem_cons_self ..)) List.not_mem_nil
  | x :: a, y :: b, ha, hb, h => by
    obtain ⟨ha1, ha2⟩ := List.pairwise_cons.1 ha
    obtain ⟨hb1, hb2⟩ := List.pairwise_cons.1 hb
    have e : x = y := by
      rcases List.mem_cons.1 ((h x).1 (List.mem_cons_self ..)) with e | e
      · exact e
      · rcases List.mem_cons.1 ((h y).2 (List.mem_cons_self ..)) with e' | e'
        · exact e'.symm
        · have h1 := hb1 x e; have h2 := ha1 y e'; omega
    subst e
    refine congrArg (x :: ·) (up_ext ha2 hb2 fun z => ⟨fun hz => ?_, fun hz => ?_⟩)
    · rcases List.mem_cons.1 ((h z).1 (List.mem_cons_of_mem _ hz)) with e | e
      · subst e; exact absurd (ha1 z hz) (Int.lt_irrefl _)
      · exact e
    · rcases List.mem_cons.1 ((h z).2 (List.mem_cons_of_mem _ hz)) with e | e
      · subst e; exact absurd (hb1 z hz) (Int.lt_irrefl _)
      · exact e
/-- Sorted, and each once. -/
def scI (l : List Int) : List Int := Lib.compact (l.mergeSort fun x y => decide (x ≤ y))
theorem compact_up {zs : List Int} (hz : zs.Pairwise (· ≤ ·)) : Up (Lib.compact zs) ∧ ∀ x, x ∈ Lib.compact zs ↔ x ∈ zs := by
  have key : ∀ m, m ≤ zs.length → Up (Lib.compactUpTo zs.toArray m) ∧ ∀ x, x ∈ Lib.compactUpTo zs.toArray m ↔ x ∈ zs.take m := by
    intro m
    induction m with
    | zero => intro _; exact ⟨List.Pairwise.nil, fun x => by simp [Lib.compactUpTo]⟩
    | succ m ih =>
      intro h
      obtain ⟨h1, h2⟩ := ih (by omega)
      have e1 : zs.toArray[m]! = zs[m] := by
        rw [getElem!_pos _ m (by simp; omega)]; simp
      rw [Lib.compactUpTo_succ, ← List.take_append_getElem (show m < zs.length by omega), e1]
      cases hk : Lib.keeps zs.toArray m with
      | true =>
        rw [if_pos rfl]
        have hlt : ∀ x ∈ zs.take m, x < zs[m] := fun x hx => by
          obtain ⟨i, hi, rfl⟩ := List.mem_iff_getElem.1 hx
          rw [List.length_take] at hi
          rw [List.getElem_take]
          have hm : zs.toArray[m - 1]! = zs[m - 1] := by
            rw [getElem!_pos _ (m - 1) (by simp; omega)]; simp
          have hne : zs[m] ≠ zs[m - 1] := by
            have := of_decide_eq_true hk
            rw [e1, hm] at this
            rcases this with h0 | h0
            · omega
            · exact h0
          have a1 : zs[i] ≤ zs[m - 1] := by
            by_cases hh : i = m - 1
            · subst hh; exact Int.le_refl _
            · exact List.pairwise_iff_getElem.1 hz i (m - 1) (by omega) (by omega) (by omega)
          have a2 : zs[m - 1] ≤ zs[m] := List.pairwise_iff_getElem.1 hz (m - 1) m (by omega) (by omega) (by omega)
          omega
        refine ⟨List.pairwise_append.2 ⟨h1, List.pairwise_singleton _ _, fun x hx y hy => ?_⟩, fun x => by rw [List.mem_append, List.mem_append, h2]⟩
        rw [List.mem_singleton.1 hy]
        exact hlt x ((h2 x).1 hx)
      | false =>
        rw [if_neg (by simp), List.append_nil]
        refine ⟨h1, fun x => ?_⟩
        rw [h2, List.mem_append, List.mem_singleton]
        refine ⟨.inl, fun hx => hx.elim id fun e => ?_⟩
        have h0 := of_decide_eq_false hk
        have hm0 : m ≠ 0 := fun e => h0 (.inl e)
        have hm : zs.toArray[m - 1]! = zs[m - 1] := by
          rw [getElem!_pos _ (m - 1) (by simp; omega)]; simp
        have he : zs[m] = zs[m - 1] := by
          have := fun hh => h0 (.inr hh)
          rw [e1, hm] at this
          exact Decidable.of_not_not this
        rw [e, he]
        have : zs[m - 1] = (zs.take m)[m - 1]'(by rw [List.length_take]; omega) := by rw [List.getElem_take]
        rw [this]
        exact List.getElem_mem _
  have h := key zs.length (Nat.le_refl _)
  rw [List.take_length] at h
  exact h
theorem sc_spec (l : List Int) : Up (scI l) ∧ ∀ x, x ∈ scI l ↔ x ∈ l := by
  have h2 : (l.mergeSort fun x y => decide (x ≤ y)).Pairwise fun x y => decide (x ≤ y) = true := by
    refine List.pairwise_mergeSort (le := fun x y => decide (x ≤ y)) ?_ ?_ _
    · intro a b c h k
      exact decide_eq_true (Int.le_trans (of_decide_eq_true h) (of_decide_eq_true k))
    · intro a b
      rcases Int.le_total a b with h | h
      · simp [h]
      · simp [h]
  obtain ⟨h3, h4⟩ := compact_up (h2.imp fun h => of_decide_eq_true h)
  exact ⟨h3, fun x => by unfold scI; rw [h4]; exact (List.mergeSort_perm _ _).mem_iff⟩
/-! Clients, each with something. -/
section
variable {α : Type}
def lookN (L : List (Int × α)) (k : Int) : Option α := (L.find? fun p => decide (p.1 = k)).map (·.2)
def keysN (L : List (Int × α)) : List Int := L.map (·.1)
theorem lookN_none {L : List (Int × α)} {k : Int} (h : k ∉ keysN L) : lookN L k = none := by
  unfold lookN
  rw [Option.map_eq_none_iff, List.find?_eq_none]
  intro p hp e
  exact h (by rw [← of_decide_eq_true e]; exact List.mem_map_of_mem hp)
theorem lookN_cons {p : Int × α} {B : List (Int × α)} {k : Int} : lookN (p :: B) k = if p.1 = k then some p.2 else lookN B k := by
  unfold lookN
  rw [List.find?_cons]
  by_cases h : p.1 = k
  · rw [decide_eq_true h, if_pos h]; rfl
  · rw [decide_eq_false h, if_neg h]
theorem lookN_app {A B : List (Int × α)} {k : Int} (h : k ∉ keysN A) : lookN (A ++ B) k = lookN B k := by
  unfold lookN
  rw [List.find?_append]
  have : A.find? (fun p => decide (p.1 = k)) = none := by
    rw [List.find?_eq_none]
    intro p hp e
    exact h (by rw [← of_decide_eq_true e]; exact List.mem_map_of_mem hp)
  rw [this]; rfl
theorem lookN_in {A B : List (Int × α)} {k : Int} (h : k ∈ keysN A) : lookN (A ++ B) k = lookN A k := by
  unfold lookN
  rw [List.find?_append]
  cases e : A.find? (fun p => decide (p.1 = k)) with
  | none =>
    obtain ⟨p, hp, rfl⟩ := List.mem_map.1 h
    have := List.find?_eq_none.1 e p hp
    simp at this
  | some p => rfl
structure MidN (k : Int) (A B : List (Int × α)) : Prop where
  a : k ∉ keysN A
  b : k ∉ keysN B
theorem midN_of {A B : List (Int × α)} {k : Int} {x : α} (h : (keysN (A ++ (k, x) :: B)).Nodup) : MidN k A B := by
  unfold keysN at h
  rw [List.map_append, List.map_cons] at h
  obtain ⟨h1, h2, h3⟩ := List.nodup_append.1 h
  exact ⟨fun hm => h3 k hm k (List.mem_cons_self ..) rfl, (List.nodup_cons.1 h2).1⟩
theorem lookN_mid {A B : List (Int × α)} {k : Int} (h : MidN k A B) (x : α) : lookN (A ++ (k, x) :: B) k = some x := by rw [lookN_app h.a, lookN_cons, if_pos rfl]
theorem setN_mid {A B : List (Int × α)} {k : Int} (h : MidN k A B) (x y : α) : Sp.setN (lookN (A ++ (k, x) :: B)) k (some y) = lookN (A ++ (k, y) :: B) := by
  funext z
  unfold Sp.setN
  by_cases e : z = k
  · rw [if_pos e, e, lookN_mid h]
  · rw [if_neg e]
    by_cases hA : z ∈ keysN A
    · rw [lookN_in hA, lookN_in hA]
    · rw [lookN_app hA, lookN_app hA, lookN_cons, lookN_cons, if_neg (Ne.symm e), if_neg (Ne.symm e)]
theorem setN_del {A B : List (Int × α)} {k : Int} (h : MidN k A B) (x : α) : Sp.setN (lookN (A ++ (k, x) :: B)) k none = lookN (A ++ B) := by
  funext z
  unfold Sp.setN
  by_cases e : z = k
  · rw [if_pos e, e, lookN_app h.a, lookN_none h.b]
  · rw [if_neg e]
    by_cases hA : z ∈ keysN A
    · rw [lookN_in hA, lookN_in hA]
    · rw [lookN_app hA, lookN_app hA, lookN_cons, if_neg (Ne.symm e)]
theorem setN_new {L : List (Int × α)} {k : Int} (h : k ∉ keysN L) (y : α) : Sp.setN (lookN L) k (some y) = lookN (L ++ [(k, y)]) := by
  funext z
  unfold Sp.setN
  by_cases e : z = k
  · rw [if_pos e, e, lookN_app h, lookN_cons, if_pos rfl]
  · rw [if_neg e]
    by_cases hA : z ∈ keysN L
    · rw [lookN_in hA]
    · rw [lookN_app hA, lookN_none hA, lookN_cons, if_neg (Ne.symm e)]; rfl
theorem setN_none {L : List (Int × α)} {k : Int} (h : k ∉ keysN L) : Sp.setN (lookN L) k none = lookN L := by
  funext z
  unfold Sp.setN
  by_cases e : z = k
  · rw [if_pos e, e, lookN_none h]
  · rw [if_neg e]
theorem keyN_split {L : List (Int × α)} {k : Int} (h : k ∈ keysN L) : ∃ A x B, L = A ++ (k, x) :: B := by
  obtain ⟨p, hp, rfl⟩ := List.mem_map.1 h
  obtain ⟨A, B, e⟩ := List.append_of_mem hp
  exact ⟨A, p.2, B, e⟩
end
abbrev Cl := List (Int × List ByteArray)
def hasR (S : Rows) (k : ByteArray) (n : Int) : Prop := ∃ ids, (k, ids) ∈ S ∧ n ∈ ids
def hasC (F : Cl) (k : ByteArray) (n : Int) : Prop := ∃ ps, (n, ps) ∈ F ∧ k ∈ ps
theorem hasR_app {A B : Rows} {k : ByteArray} {n : Int} : hasR (A ++ B) k n ↔ hasR A k n ∨ hasR B k n := by
  unfold hasR
  constructor
  · rintro ⟨ids, h, hn⟩
    rcases List.mem_append.1 h with h | h
    · exact .inl ⟨ids, h, hn⟩
    · exact .inr ⟨ids, h, hn⟩
  · rintro (⟨ids, h, hn⟩ | ⟨ids, h, hn⟩)
    · exact ⟨ids, List.mem_append.2 (.inl h), hn⟩
    · exact ⟨ids, List.mem_append.2 (.inr h), hn⟩
theorem hasR_cons {B : Rows} {k q : ByteArray} {ids : List Int} {n : Int} : hasR ((q, ids) :: B) k n ↔ (k = q ∧ n ∈ ids) ∨ hasR B k n := by
  unfold hasR
  constructor
  · rintro ⟨l, h, hn⟩
    rcases List.mem_cons.1 h with e | h
    · injection e with e1 e2
      subst e1 e2
      exact .inl ⟨rfl, hn⟩
    · exact .inr ⟨l, h, hn⟩
  · rintro (⟨rfl, hn⟩ | ⟨l, h, hn⟩)
    · exact ⟨ids, List.mem_cons_self .., hn⟩
    · exact ⟨l, List.mem_cons_of_mem _ h, hn⟩
theorem hasR_nil {k : ByteArray} {n : Int} : ¬ hasR [] k n := fun ⟨_, h, _⟩ => (nomatch h)
theorem hasR_key {S : Rows} {k : ByteArray} {n : Int} (h : hasR S k n) : k ∈ keysL S := by
  obtain ⟨ids, h, -⟩ := h
  exact List.mem_map_of_mem h
theorem hasR_ids {S : Rows} (hS : (keysL S).Nodup) (k : ByteArray) (n : Int) : n ∈ idsR k S ↔ hasR S k n := by
  by_cases hk : k ∈ keysL S
  · obtain ⟨A, ids, B, rfl⟩ := key_split hk
    have hm := mid_of hS
    rw [ids_mid hm, hasR_app, hasR_cons]
    constructor
    · intro h; exact .inr (.inl ⟨rfl, h⟩)
    · rintro (h | ⟨-, h⟩ | h)
      · exact absurd (hasR_key h) hm.a
      · exact h
      · exact absurd (hasR_key h) hm.b
  · rw [ids_none hk]
    exact ⟨fun h => (nomatch h), fun h => absurd (hasR_key h) hk⟩
theorem key_has {S : Rows} (hS : Ok S) (k : ByteArray) : k ∈ keysL S ↔ ∃ n, hasR S k n := by
  constructor
  · intro h
    obtain ⟨A, ids, B, rfl⟩ := key_split h
    have hne := hS.ne (k, ids) (List.mem_append.2 (.inr (List.mem_cons_self ..)))
    obtain ⟨n, hn⟩ := List.exists_mem_of_ne_nil _ hne
    exact ⟨n, ids, List.mem_append.2 (.inr (List.mem_cons_self ..)), hn⟩
  · rintro ⟨n, h⟩
    exact hasR_key h
theorem hasR_add {S : Rows} (hS : Ok S) (k : ByteArray) (n : Int) (k' : ByteArray) (n' : Int) : hasR (addR k n S) k' n' ↔ hasR S k' n' ∨ (k' = k ∧ n' = n) := by
  by_cases hk : k ∈ keysL S
  · obtain ⟨A, ids, B, rfl⟩ := key_split hk
    rw [add_mid hS.mid, hasR_app, hasR_app, hasR_cons, hasR_cons, mem_with]
    constructor
    · rintro (h | ⟨h1, h2 | h2⟩ | h)
      · exact .inl (.inl h)
      · exact .inr ⟨h1, h2⟩
      · exact .inl (.inr (.inl ⟨h1, h2⟩))
      · exact .inl (.inr (.inr h))
    · rintro ((h | ⟨h1, h2⟩ | h) | ⟨h1, h2⟩)
      · exact .inl h
      · exact .inr (.inl ⟨h1, .inr h2⟩)
      · exact .inr (.inr h)
      · exact .inr (.inl ⟨h1, .inl h2⟩)
  · rw [add_new hk, hasR_app, hasR_cons]
    constructor
    · rintro (h | ⟨h1, h2⟩ | h)
      · exact .inl h
      · exact .inr ⟨h1, List.mem_singleton.1 h2⟩
      · exact absurd h hasR_nil
    · rintro (h | ⟨h1, h2⟩)
      · exact .inl h
      · exact .inr (.inl ⟨h1, List.mem_singleton.2 h2⟩)
theorem hasR_cut {A B : Rows} {k : ByteArray} {ids : List Int} (hm : Mid k A B) (n : Int) (k' : ByteArray) (n' : Int) : hasR (A ++ cutR n (k, ids) ++ B) k' n' ↔ hasR (A ++ (k, ids) :: B) k' n' ∧ ¬ (k' = k ∧ n' = n) := by
  have hc : hasR (cutR n (k, ids)) k' n' ↔ k' = k ∧ n' ∈ ids ∧ n' ≠ n := by
    unfold cutR
    split
    · rename_i h
      constructor
      · intro hh; exact absurd hh hasR_nil
      · rintro ⟨-, h1, h2⟩
        have := (mem_less (n := n)).2 ⟨h1, h2⟩
        have h : lessI n ids = [] := h
        rw [h] at this; cases this
    · rw [hasR_cons]
      constructor
      · rintro (⟨h1, h2⟩ | h)
        · exact ⟨h1, mem_less.1 h2⟩
        · exact absurd h hasR_nil
      · rintro ⟨h1, h2⟩
        exact .inl ⟨h1, mem_less.2 h2⟩
  rw [hasR_app, hasR_app, hasR_app, hasR_cons, hc]
  constructor
  · rintro ((h | ⟨h1, h2, h3⟩) | h)
    · exact ⟨.inl h, fun e => hm.a (e.1 ▸ hasR_key h)⟩
    · exact ⟨.inr (.inl ⟨h1, h2⟩), fun e => h3 e.2⟩
    · exact ⟨.inr (.inr h), fun e => hm.b (e.1 ▸ hasR_key h)⟩
  · rintro ⟨h | ⟨h1, h2⟩ | h, hn⟩
    · exact .inl (.inl h)
    · exact .inl (.inr ⟨h1, h2, fun e => hn ⟨h1, e⟩⟩)
    · exact .inr h
theorem hasC_app {A B : Cl} {k : ByteArray} {n : Int} : hasC (A ++ B) k n ↔ hasC A k n ∨ hasC B k n := by
  unfold hasC
  constructor
  · rintro ⟨ids, h, hn⟩
    rcases List.mem_append.1 h with h | h
    · exact .inl ⟨ids, h, hn⟩
    · exact .inr ⟨ids, h, hn⟩
  · rintro (⟨ids, h, hn⟩ | ⟨ids, h, hn⟩)
    · exact ⟨ids, List.mem_append.2 (.inl h), hn⟩
    · exact ⟨ids, List.mem_append.2 (.inr h), hn⟩
theorem hasC_cons {B : Cl} {k : ByteArray} {ps : List ByteArray} {n q : Int} : hasC ((q, ps) :: B) k n ↔ (n = q ∧ k ∈ ps) ∨ hasC B k n := by
  unfold hasC
  constructor
  · rintro ⟨l, h, hn⟩
    rcases List.mem_cons.1 h with e | h
    · injection e with e1 e2
      subst e1 e2
      exact .inl ⟨rfl, hn⟩
    · exact .inr ⟨l, h, hn⟩
  · rintro (⟨rfl, hn⟩ | ⟨l, h, hn⟩)
    · exact ⟨ps, List.mem_cons_self .., hn⟩
    · exact ⟨l, List.mem_cons_of_mem _ h, hn⟩
theorem hasC_nil {k : ByteArray} {n : Int} : ¬ hasC [] k n := fun ⟨_, h, _⟩ => (nomatch h)
theorem hasC_key {F : Cl} {k : ByteArray} {n : Int} (h : hasC F k n) : n ∈ keysN F := by
  obtain ⟨ids, h, -⟩ := h
  exact List.mem_map_of_mem h
/-- What clients are. -/
structure OkC (F : Cl) : Prop where
  nd : (keysN F).Nodup
  up : ∀ r ∈ F, r.2.Nodup
  wf : ∀ r ∈ F, (Lit.int .i64 r.1).wf = true
namespace OkC
variable {F A B : Cl} {k : ByteArray} {ps : List ByteArray} {n : Int}
theorem nil : OkC [] := ⟨List.nodup_nil, fun _ h => (nomatch h), fun _ h => (nomatch h)⟩
theorem mid (h : OkC (A ++ (n, ps) :: B)) : MidN n A B := midN_of h.nd
theorem sub (h : OkC F) (hs : List.Sublist A F) : OkC A := ⟨h.nd.sublist (hs.map _), fun r hr => h.up r (hs.subset hr), fun r hr => h.wf r (hs.subset hr)⟩
theorem put (h : OkC (A ++ (n, ps) :: B)) {ps' : List ByteArray} (hu : ps'.Nodup) : OkC (A ++ (n, ps') :: B) := by
  have hk : ∀ r, r ∈ A ++ (n, ps') :: B → r ∈ A ++ (n, ps) :: B ∨ r = (n, ps') := fun r hr => by
    rcases List.mem_append.1 hr with h | h
    · exact .inl (List.mem_append.2 (.inl h))
    · rcases List.mem_cons.1 h with h | h
      · exact .inr h
      · exact .inl (List.mem_append.2 (.inr (List.mem_cons_of_mem _ h)))
  refine ⟨?_, fun r hr => ?_, fun r hr => ?_⟩
  · have := h.nd
    unfold keysN at this ⊢
    rw [List.map_append, List.map_cons] at this ⊢
    exact this
  · rcases hk r hr with h' | e
    · exact h.up r h'
    · rw [e]; exact hu
  · rcases hk r hr with h' | e
    · exact h.wf r h'
    · rw [e]; exact h.wf (n, ps) (List.mem_append.2 (.inr (List.mem_cons_self ..)))
theorem new (h : OkC F) (hk : n ∉ keysN F) (hu : ps.Nodup) (hn : (Lit.int .i64 n).wf = true) : OkC (F ++ [(n, ps)]) := by
  have hc : ∀ r, r ∈ F ++ [(n, ps)] → r ∈ F ∨ r = (n, ps) := fun r hr => by
    rcases List.mem_append.1 hr with h | h
    · exact .inl h
    · exact .inr (List.mem_singleton.1 h)
  refine ⟨?_, fun r hr => ?_, fun r hr => ?_⟩
  · unfold keysN
    rw [List.map_append, List.nodup_append]
    refine ⟨h.nd, by simp, fun a ha b hb e => ?_⟩
    simp only [List.map_cons, List.map_nil, List.mem_singleton] at hb
    exact hk (by rw [← hb, ← e]; exact ha)
  · rcases hc r hr with h' | e
    · exact h.up r h'
    · rw [e]; exact hu
  · rcases hc r hr with h' | e
    · exact h.wf r h'
    · rw [e]; exact hn
end OkC
/-- A client's beginnings. -/
def ofC (n : Int) (F : Cl) : List ByteArray := (lookN F n).getD []
theorem ofC_mid {A B : Cl} {n : Int} (h : MidN n A B) (ps : List ByteArray) : ofC n (A ++ (n, ps) :: B) = ps := by unfold ofC; rw [lookN_mid h]; rfl
theorem ofC_none {F : Cl} {n : Int} (h : n ∉ keysN F) : ofC n F = [] := by unfold ofC; rw [lookN_none h]; rfl
theorem ofC_mem {F : Cl} (hF : (keysN F).Nodup) (k : ByteArray) (n : Int) : k ∈ ofC n F ↔ hasC F k n := by
  by_cases hk : n ∈ keysN F
  · obtain ⟨A, ps, B, rfl⟩ := keyN_split hk
    have hm := midN_of hF
    rw [ofC_mid hm, hasC_app, hasC_cons]
    constructor
    · intro h; exact .inr (.inl ⟨rfl, h⟩)
    · rintro (h | ⟨-, h⟩ | h)
      · exact absurd (hasC_key h) hm.a
      · exact h
      · exact absurd (hasC_key h) hm.b
  · rw [ofC_none hk]
    exact ⟨fun h => (nomatch h), fun h => absurd (hasC_key h) hk⟩
theorem ofC_nodup {F : Cl} (hF : OkC F) (n : Int) : (ofC n F).Nodup := by
  by_cases hk : n ∈ keysN F
  · obtain ⟨A, ps, B, rfl⟩ := keyN_split hk
    rw [ofC_mid hF.mid]
    exact hF.up (n, ps) (List.mem_append.2 (.inr (List.mem_cons_self ..)))
  · rw [ofC_none hk]; exact List.nodup_nil
theorem hasC_put {A B : Cl} {n : Int} {ps : List ByteArray} (k k' : ByteArray) (n' : Int) : hasC (A ++ (n, ps ++ [k]) :: B) k' n' ↔ hasC (A ++ (n, ps) :: B) k' n' ∨ (k' = k ∧ n' = n) := by
  rw [hasC_app, hasC_app, hasC_cons, hasC_cons, List.mem_append, List.mem_singleton]
  constructor
  · rintro (h | ⟨h1, h2 | h2⟩ | h)
    · exact .inl (.inl h)
    · exact .inl (.inr (.inl ⟨h1, h2⟩))
    · exact .inr ⟨h2, h1⟩
    · exact .inl (.inr (.inr h))
  · rintro ((h | ⟨h1, h2⟩ | h) | ⟨h1, h2⟩)
    · exact .inl h
    · exact .inr (.inl ⟨h1, .inl h2⟩)
    · exact .inr (.inr h)
    · exact .inr (.inl ⟨h2, .inr h1⟩)
theorem hasC_new {F : Cl} {n : Int} (k k' : ByteArray) (n' : Int) : hasC (F ++ [(n, [k])]) k' n' ↔ hasC F k' n' ∨ (k' = k ∧ n' = n) := by
  rw [hasC_app, hasC_cons, List.mem_singleton]
  constructor
  · rintro (h | ⟨h1, h2⟩ | h)
    · exact .inl h
    · exact .inr ⟨h2, h1⟩
    · exact absurd h hasC_nil
  · rintro (h | ⟨h1, h2⟩)
    · exact .inl h
    · exact .inr (.inl ⟨h2, h1⟩)
theorem hasC_del {A B : Cl} {n : Int} {ps : List ByteArray} (hm : MidN n A B) (k' : ByteArray) (n' : Int) : hasC (A ++ B) k' n' ↔ hasC (A ++ (n, ps) :: B) k' n' ∧ n' ≠ n := by
  rw [hasC_app, hasC_app, hasC_cons]
  constructor
  · rintro (h | h)
    · exact ⟨.inl h, fun e => hm.a (e ▸ hasC_key h)⟩
    · exact ⟨.inr (.inr h), fun e => hm.b (e ▸ hasC_key h)⟩
  · rintro ⟨h | ⟨h1, h2⟩ | h, hn⟩
    · exact .inl h
    · exact absurd h1 hn
    · exact .inr h
/-! Pairs, each once. -/
abbrev Pl := List (ByteArray × Int)
def addP (k : ByteArray) (n : Int) (P : Pl) : Pl := if (k, n) ∈ P then P else P ++ [(k, n)]
def dropP (n : Int) (P : Pl) : Pl := P.filter fun p => !decide (p.2 = n)
def ofP (n : Int) (P : Pl) : List ByteArray := (P.filter fun p => decide (p.2 = n)).map (·.1)
theorem mem_addP {k : ByteArray} {n : Int} {P : Pl} {p : ByteArray × Int} : p ∈ addP k n P ↔ p ∈ P ∨ p = (k, n) := by
  unfold addP
  split
  · rename_i h
    exact ⟨.inl, fun hp => hp.elim id fun e => e ▸ h⟩
  · rw [List.mem_append, List.mem_singleton]
theorem mem_dropP {n : Int} {P : Pl} {p : ByteArray × Int} : p ∈ dropP n P ↔ p ∈ P ∧ p.2 ≠ n := by simp [dropP]
theorem addP_nd {k : ByteArray} {n : Int} {P : Pl} (h : P.Nodup) : (addP k n P).Nodup := by
  unfold addP
  split
  · exact h
  · rename_i hn
    rw [List.nodup_append]
    exact ⟨h, by simp, fun a ha b hb e => hn (by rw [List.mem_singleton] at hb; rw [← hb, ← e]; exact ha)⟩
theorem dropP_nd {n : Int} {P : Pl} (h : P.Nodup) : (dropP n P).Nodup := h.filter _
theorem addP_len (k : ByteArray) (n : Int) (P : Pl) : (addP k n P).length ≤ P.length + 1 := by
  unfold addP
  split
  · omega
  · simp
theorem dropP_len (n : Int) (P : Pl) : (dropP n P).length + (ofP n P).length = P.length := by
  unfold dropP ofP
  rw [List.length_map]
  induction P with
  | nil => rfl
  | cons p P ih =>
    by_cases h : p.2 = n
    · rw [List.filter_cons_of_neg (by simp [h]), List.filter_cons_of_pos (by simp [h]), List.length_cons, List.length_cons]; omega
    · rw [List.filter_cons_of_pos (by simp [h]), List.filter_cons_of_neg (by simp [h]), List.length_cons, List.length_cons]; omega
theorem mem_ofP {k : ByteArray} {n : Int} {P : Pl} : k ∈ ofP n P ↔ (k, n) ∈ P := by
  unfold ofP
  rw [List.mem_map]
  constructor
  · rintro ⟨p, hp, rfl⟩
    obtain ⟨h1, h2⟩ := List.mem_filter.1 hp
    rw [← of_decide_eq_true h2]; exact h1
  · intro h
    exact ⟨(k, n), List.mem_filter.2 ⟨h, decide_eq_true rfl⟩, rfl⟩
theorem ofP_nd {n : Int} {P : Pl} (h : P.Nodup) : (ofP n P).Nodup := by
  unfold ofP
  refine List.pairwise_map.2 (List.Pairwise.imp_of_mem (fun {a b} ha hb hab e => hab ?_) (h.filter _))
  have h1 := of_decide_eq_true (List.mem_filter.1 ha).2
  have h2 := of_decide_eq_true (List.mem_filter.1 hb).2
  exact Prod.ext e (h1.trans h2.symm)
/-- All three say the same. -/
structure Rel (P : Pl) (S : Rows) (F : Cl) : Prop where
  nd : P.Nodup
  ok : Ok S
  oc : OkC F
  r : ∀ k n, (k, n) ∈ P ↔ hasR S k n
  c : ∀ k n, (k, n) ∈ P ↔ hasC F k n
theorem Rel.nil : Rel [] [] [] := ⟨List.nodup_nil, Ok.nil, OkC.nil, fun k n => ⟨fun h => (nomatch h), fun h => absurd h hasR_nil⟩, fun k n => ⟨fun h => (nomatch h), fun h => absurd h hasC_nil⟩⟩
theorem Rel.of_perm {P : Pl} {S : Rows} {F : Cl} (h : Rel P S F) (n : Int) : (ofC n F).Perm (ofP n P) :=
  (List.perm_ext_iff_of_nodup (ofC_nodup h.oc n) (ofP_nd h.nd)).2 fun k => by rw [ofC_mem h.oc.nd, mem_ofP, h.c]
theorem Rel.of_len {P : Pl} {S : Rows} {F : Cl} (h : Rel P S F) (n : Int) : (ofC n F).length = P.length - (dropP n P).length := by
  rw [(h.of_perm n).length_eq]
  have := dropP_len n P
  omega
theorem ids_sub {α : Type} [DecidableEq α] {l m : List α} (hl : l.Nodup) (h : ∀ x ∈ l, x ∈ m) : l.length ≤ m.length := by
  induction l generalizing m with
  | nil => exact Nat.zero_le _
  | cons x l ih =>
    obtain ⟨h1, h2⟩ := List.nodup_cons.1 hl
    have hx := h x (List.mem_cons_self ..)
    have := ih (m := m.erase x) h2 fun y hy => (List.mem_erase_of_ne (fun (e : y = x) => h1 (e ▸ hy))).2 (h y (List.mem_cons_of_mem _ hy))
    rw [List.length_erase_of_mem hx] at this
    have hp := List.length_pos_of_mem hx
    rw [List.length_cons]; omega
theorem up_nd {l : List Int} (h : Up l) : l.Nodup := h.imp fun hab e => by rw [e] at hab; exact Int.lt_irrefl _ hab
theorem Rel.ids_len {P : Pl} {S : Rows} {F : Cl} (h : Rel P S F) {r : ByteArray × List Int} (hr : r ∈ S) : r.2.length ≤ P.length := by
  have h1 : (r.2.map fun n => (r.1, n)).Nodup := List.pairwise_map.2 ((up_nd (h.ok.up r hr)).imp fun hab e => hab (by injection e))
  have := ids_sub h1 (m := P) fun x hx => by
    obtain ⟨n, hn, rfl⟩ := List.mem_map.1 hx
    exact (h.r _ _).2 ⟨r.2, hr, hn⟩
  rwa [List.length_map] at this
theorem Rel.keys_len {P : Pl} {S : Rows} {F : Cl} (h : Rel P S F) : S.length ≤ P.length := by
  have := ids_sub h.ok.nd (m := P.map (·.1)) fun k hk => by
    obtain ⟨n, hn⟩ := (key_has h.ok k).1 hk
    exact List.mem_map.2 ⟨(k, n), (h.r _ _).2 hn, rfl⟩
  unfold keysL at this
  rwa [List.length_map, List.length_map] at this
theorem Rel.of_le {P : Pl} {S : Rows} {F : Cl} (h : Rel P S F) (n : Int) : (ofC n F).length ≤ P.length := by
  rw [h.of_len]; omega
end Go.Proofs.Ytnmncjeplfkdpaa.Qa
