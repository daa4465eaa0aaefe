/- Plain: Put of the checking package on marks in order. No condition. -/
import Derived.Test.YtnmncjeplfkdpaaPbG
import Derived.Test.YtnmncjeplfkdpaaPaA
namespace Go.Proofs.Ytnmncjeplfkdpaa.Pb
open Go.RowKit Go.Shelf
theorem key_eq {a b : ByteArray} : (a.toList == b.toList) = true ↔ a = b := by
  rw [beq_iff_eq, Lib.toList_data, Lib.toList_data]
  constructor
  · intro h
    cases a; cases b
    congr 1
    exact Array.toList_inj.1 h
  · rintro rfl; rfl
theorem key_less {a b : ByteArray} : Op.bytesLess a.toList b.toList = true ↔ Lt a.data.toList b.data.toList := by
  rw [less_lt, Lib.toList_data, Lib.toList_data]
structure PutI (k : ByteArray) (n : Int) (l : List Pa.Mk) (s : List Pa.Mk × Bool × Bool) : Prop where
  mem : ∀ p, p ∈ s.1 ↔ (s.2.1 = true ∧ p = (k, n)) ∨ (p ∈ l ∧ p.1 ≠ k)
  srt : s.1.Pairwise MLt
  plc : s.2.1 = true ↔ ∃ m ∈ l, ¬ Lt m.1.data.toList k.data.toList
  frs : s.2.2 = true ↔ ∀ m ∈ l, m.1 ≠ k
theorem putF_snoc (k : ByteArray) (n : Int) (l : List Pa.Mk) (m : Pa.Mk) : Pa.putF k n (l ++ [m]) = Pa.putStep k n (Pa.putF k n l) m := by
  unfold Pa.putF
  rw [List.foldl_append]
  rfl
theorem PutI.step {k : ByteArray} {n : Int} {l : List Pa.Mk} {s : List Pa.Mk × Bool × Bool} {m : Pa.Mk} (h : PutI k n l s) (hs : (l ++ [m]).Pairwise MLt) : PutI k n (l ++ [m]) (Pa.putStep k n s m) := by
  obtain ⟨out, placed, fresh⟩ := s
  have hlm : ∀ q ∈ l, MLt q m := fun q hq => (List.pairwise_append.1 hs).2.2 q hq m (by simp)
  have hmem := h.mem
  have hplc := h.plc
  have hfrs := h.frs
  have hsrt := h.srt
  simp only at hmem hplc hfrs hsrt
  have hkm : placed = true → Lt k.data.toList m.1.data.toList := fun hp => by
    obtain ⟨q, hq, hn⟩ := hplc.1 hp
    have h1 : Lt q.1.data.toList m.1.data.toList := hlm q hq
    rcases lt_total q.1.data.toList k.data.toList with h2 | h2 | h2
    · exact (hn h2).elim
    · rw [← h2]; exact h1
    · exact h2.trans_ h1
  have hout : ∀ p ∈ out, MLt p m := fun p hp => by
    rcases (hmem p).1 hp with ⟨h1, rfl⟩ | ⟨h1, -⟩
    · exact hkm h1
    · exact hlm p h1
  have hnk : placed = false → ∀ q ∈ l, Lt q.1.data.toList k.data.toList := fun hp q hq => by
    by_cases h2 : Lt q.1.data.toList k.data.toList
    · exact h2
    · rw [hplc.2 ⟨q, hq, h2⟩] at hp; cases hp
  have snoc : ∀ (o : List Pa.Mk) (p : Pa.Mk), o.Pairwise MLt → (∀ q ∈ o, MLt q p) → (o ++ [p]).Pairwise MLt := fun o p h1 h2 =>
    List.pairwise_append.2 ⟨h1, List.pairwise_singleton .., fun q hq r hr => by rw [List.mem_singleton.1 hr]; exact h2 q hq⟩
  by_cases he : m.1 = k
  · have hbe : (m.1.toList == k.toList) = true := key_eq.2 he
    have hnl : ¬ Lt m.1.data.toList k.data.toList := by rw [he]; exact fun h => Lt.irr h
    have hp0 : placed = false := by
      cases hp : placed with
      | false => rfl
      | true =>
        have := hkm hp
        rw [he] at this
        exact (Lt.irr this).elim
    subst hp0
    have hst : Pa.putStep k n (out, false, fresh) m = (out ++ [(k, n)], true, false) := by
      simp [Pa.putStep, hbe]
    rw [hst]
    refine ⟨fun p => ?_, snoc out _ hsrt fun q hq => ?_, ⟨fun _ => ⟨m, by simp, hnl⟩, fun _ => rfl⟩, ⟨fun h => (by cases h), fun h => (h m (by simp) he).elim⟩⟩
    · rw [List.mem_append, hmem p, List.mem_singleton, List.mem_append, List.mem_singleton]
      constructor
      · rintro ((⟨h1, -⟩ | ⟨h1, h2⟩) | h1)
        · cases h1
        · exact .inr ⟨.inl h1, h2⟩
        · exact .inl ⟨rfl, h1⟩
      · rintro (⟨-, h1⟩ | ⟨h1 | h1, h2⟩)
        · exact .inr h1
        · exact .inl (.inr ⟨h1, h2⟩)
        · exact (h2 (by rw [h1]; exact he)).elim
    · rcases (hmem q).1 hq with ⟨h1, -⟩ | ⟨h1, -⟩
      · cases h1
      · exact hnk rfl q h1
  · have hbe : (m.1.toList == k.toList) = false := by
      cases hb : (m.1.toList == k.toList) with
      | false => rfl
      | true => exact (he (key_eq.1 hb)).elim
    by_cases hlt : Lt k.data.toList m.1.data.toList
    · have hbl : Op.bytesLess k.toList m.1.toList = true := key_less.2 hlt
      cases hp : placed with
      | true =>
        subst hp
        have hst : Pa.putStep k n (out, true, fresh) m = (out ++ [m], true, fresh) := by simp [Pa.putStep, hbe]
        rw [hst]
        refine ⟨fun p => ?_, snoc out _ hsrt hout, ⟨fun _ => ⟨m, by simp, fun h => Lt.asymm h hlt⟩, fun _ => rfl⟩, ?_⟩
        · rw [List.mem_append, hmem p, List.mem_singleton, List.mem_append, List.mem_singleton]
          constructor
          · rintro ((h1 | ⟨h1, h2⟩) | rfl)
            · exact .inl h1
            · exact .inr ⟨.inl h1, h2⟩
            · exact .inr ⟨.inr rfl, he⟩
          · rintro (h1 | ⟨h1 | h1, h2⟩)
            · exact .inl (.inl h1)
            · exact .inl (.inr ⟨h1, h2⟩)
            · exact .inr h1
        · show fresh = true ↔ _
          rw [hfrs]
          exact ⟨fun h q hq => by
            rcases List.mem_append.1 hq with h1 | h1
            · exact h q h1
            · rw [List.mem_singleton.1 h1]; exact he, fun h q hq => h q (List.mem_append.2 (.inl hq))⟩
      | false =>
        subst hp
        have hst : Pa.putStep k n (out, false, fresh) m = (out ++ [(k, n)] ++ [m], true, fresh) := by simp [Pa.putStep, hbe, hbl]
        rw [hst]
        refine ⟨fun p => ?_, snoc _ _ (snoc out _ hsrt fun q hq => ?_) fun q hq => ?_, ⟨fun _ => ⟨m, by simp, fun h => Lt.asymm h hlt⟩, fun _ => rfl⟩, ?_⟩
        · rw [List.mem_append, List.mem_append, hmem p, List.mem_singleton, List.mem_singleton, List.mem_append, List.mem_singleton]
          constructor
          · rintro (((⟨h1, -⟩ | ⟨h1, h2⟩) | h1) | rfl)
            · cases h1
            · exact .inr ⟨.inl h1, h2⟩
            · exact .inl ⟨rfl, h1⟩
            · exact .inr ⟨.inr rfl, he⟩
          · rintro (⟨-, h1⟩ | ⟨h1 | h1, h2⟩)
            · exact .inl (.inr h1)
            · exact .inl (.inl (.inr ⟨h1, h2⟩))
            · exact .inr h1
        · rcases (hmem q).1 hq with ⟨h1, -⟩ | ⟨h1, -⟩
          · cases h1
          · exact hnk rfl q h1
        · rcases List.mem_append.1 hq with h1 | h1
          · exact hout q h1
          · rw [List.mem_singleton.1 h1]; exact hlt
        · show fresh = true ↔ _
          rw [hfrs]
          exact ⟨fun h q hq => by
            rcases List.mem_append.1 hq with h1 | h1
            · exact h q h1
            · rw [List.mem_singleton.1 h1]; exact he, fun h q hq => h q (List.mem_append.2 (.inl hq))⟩
    · have hbl : Op.bytesLess k.toList m.1.toList = false := by
        cases hb : Op.bytesLess k.toList m.1.toList with
        | false => rfl
        | true => exact (hlt (key_less.1 hb)).elim
      have hp0 : placed = false := by
        cases hp : placed with
        | false => rfl
        | true => exact (hlt (hkm hp)).elim
      subst hp0
      have hbe2 : (k.toList == m.1.toList) = false := by
        cases hb : (k.toList == m.1.toList) with
        | false => rfl
        | true => exact (he (key_eq.1 hb).symm).elim
      have hmk : Lt m.1.data.toList k.data.toList := by
        rcases lt_total m.1.data.toList k.data.toList with h2 | h2 | h2
        · exact h2
        · exact (he (key_eq.1 (by rw [Lib.toList_data, Lib.toList_data, h2]; exact beq_self_eq_true _))).elim
        · exact (hlt h2).elim
      have hst : Pa.putStep k n (out, false, fresh) m = (out ++ [m], false, fresh) := by simp [Pa.putStep, hbe, hbl]
      rw [hst]
      refine ⟨fun p => ?_, snoc out _ hsrt hout, ⟨fun h => (by cases h), fun ⟨q, hq, hn⟩ => ?_⟩, ?_⟩
      · rw [List.mem_append, hmem p, List.mem_singleton, List.mem_append, List.mem_singleton]
        constructor
        · rintro ((h1 | ⟨h1, h2⟩) | rfl)
          · exact .inl h1
          · exact .inr ⟨.inl h1, h2⟩
          · exact .inr ⟨.inr rfl, he⟩
        · rintro (h1 | ⟨h1 | h1, h2⟩)
          · exact .inl (.inl h1)
          · exact .inl (.inr ⟨h1, h2⟩)
          · exact .inr h1
      · rcases List.mem_append.1 hq with h1 | h1
        · exact (hn (hnk rfl q h1)).elim
        · rw [List.mem_singleton.1 h1] at hn
          exact (hn hmk).elim
      · show fresh = true ↔ _
        rw [hfrs]
        exact ⟨fun h q hq => by
          rcases List.mem_append.1 hq with h1 | h1
          · exact h q h1
          · rw [List.mem_singleton.1 h1]; exact he, fun h q hq => h q (List.mem_append.2 (.inl hq))⟩
theorem putF_all {k : ByteArray} {n : Int} : ∀ (r l : List Pa.Mk), l.reverse = r → l.Pairwise MLt → PutI k n l (Pa.putF k n l)
  | [], l, e, _ => by
    have : l = [] := List.reverse_eq_nil_iff.1 e
    subst this
    exact ⟨fun p => by simp [Pa.putF], List.Pairwise.nil, by simp [Pa.putF], by simp [Pa.putF]⟩
  | m :: r, l, e, h => by
    have e2 : l = r.reverse ++ [m] := by rw [← List.reverse_reverse l, e, List.reverse_cons]
    subst e2
    rw [putF_snoc]
    exact (putF_all r r.reverse (List.reverse_reverse r) (List.pairwise_append.1 h).1).step h
/-- Put on marks in order: in order, the key's mark is the new one, all others are as they were; and was the key new? -/
theorem putM_spec (k : ByteArray) (n : Int) {l : List Pa.Mk} (h : l.Pairwise MLt) : (Pa.putM k n l).Pairwise MLt ∧ (∀ p, p ∈ Pa.putM k n l ↔ p = (k, n) ∨ (p ∈ l ∧ p.1 ≠ k)) ∧ ((Pa.putF k n l).2.2 = true ↔ ∀ m ∈ l, m.1 ≠ k) := by
  have hI := putF_all (k := k) (n := n) _ l rfl h
  unfold Pa.putM
  cases hp : (Pa.putF k n l).2.1 with
  | true =>
    refine ⟨hI.srt, fun p => ?_, hI.frs⟩
    show p ∈ (Pa.putF k n l).1 ↔ _
    rw [hI.mem p, hp]
    simp
  | false =>
    have hall : ∀ q ∈ l, Lt q.1.data.toList k.data.toList := fun q hq => by
      by_cases h2 : Lt q.1.data.toList k.data.toList
      · exact h2
      · rw [hI.plc.2 ⟨q, hq, h2⟩] at hp; cases hp
    refine ⟨?_, fun p => ?_, hI.frs⟩
    · refine List.pairwise_append.2 ⟨hI.srt, List.pairwise_singleton .., fun q hq r hr => ?_⟩
      rw [List.mem_singleton.1 hr]
      rcases (hI.mem q).1 hq with ⟨h1, -⟩ | ⟨h1, -⟩
      · rw [hp] at h1; cases h1
      · exact hall q h1
    · show p ∈ (Pa.putF k n l).1 ++ [(k, n)] ↔ _
      rw [List.mem_append, hI.mem p, hp, List.mem_singleton]
      simp [or_comm]
theorem mem_allM_look {t : Tr} (ho : Ok t) (hM : ∀ b ∈ t.B, (t.tx b).length ≤ 140737488351232) (p : Pa.Mk) : p ∈ allM t ↔ look t p.1.data.toList = some p.2 := by
  obtain ⟨k, n⟩ := p
  rw [← allM_look ho hM, bs_data]
/-- The tree's marks behind a Put are the list's. -/
theorem allM_put {t0 t : Tr} (h0 : Ok t0) (ho : Ok t) (hM0 : ∀ b ∈ t0.B, (t0.tx b).length ≤ 140737488351232) (hM : ∀ b ∈ t.B, (t.tx b).length ≤ 140737488351232) {k : ByteArray} {n : Int} (h : ∀ K, look t K = if K = k.data.toList then some n else look t0 K) : allM t = Pa.putM k n (allM t0) := by
  obtain ⟨h1, h2, -⟩ := putM_spec k n (allM_sorted h0 hM0)
  refine sorted_ext MLt.irr MLt.asymm (allM_sorted ho hM) h1 fun p => ?_
  rw [h2, mem_allM_look ho hM, mem_allM_look h0 hM0, h]
  have hk : p.1.data.toList = k.data.toList ↔ p.1 = k := by rw [← key_eq, Lib.toList_data, Lib.toList_data, beq_iff_eq]
  by_cases e : p.1 = k
  · rw [if_pos (hk.2 e)]
    constructor
    · intro h3
      injection h3 with h3
      exact .inl (by obtain ⟨a, b⟩ := p; simp only at e h3; rw [e, h3])
    · rintro (h3 | ⟨-, h3⟩)
      · rw [h3]
      · exact (h3 e).elim
  · rw [if_neg (fun e' => e (hk.1 e'))]
    constructor
    · exact fun h3 => .inr ⟨h3, e⟩
    · rintro (h3 | ⟨h3, -⟩)
      · exact (e (by rw [h3])).elim
      · exact h3
/-- Was the key new? -/
theorem put_new {t0 : Tr} (h0 : Ok t0) (hM0 : ∀ b ∈ t0.B, (t0.tx b).length ≤ 140737488351232) (k : ByteArray) (n : Int) : (Pa.putF k n (allM t0)).2.2 = (look t0 k.data.toList).isNone := by
  obtain ⟨-, -, h3⟩ := putM_spec k n (allM_sorted h0 hM0)
  cases hl : look t0 k.data.toList with
  | none =>
    refine h3.2 fun m hm e => ?_
    rw [mem_allM_look h0 hM0, e, hl] at hm
    cases hm
  | some x =>
    cases hf : (Pa.putF k n (allM t0)).2.2 with
    | false => rfl
    | true => exact (h3.1 hf (k, x) ((mem_allM_look h0 hM0 _).2 hl) rfl).elim
end Go.Proofs.Ytnmncjeplfkdpaa.Pb
