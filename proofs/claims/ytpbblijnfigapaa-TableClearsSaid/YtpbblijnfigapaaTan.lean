/- Package table, plain: what is found is what was put last. No program. -/
import Derived.Test.YtpbblijnfigapaaTai
namespace Go.Proofs.Ytpbblijnfigapaa.Ta
theorem ba_inj {a b : ByteArray} (h : a.toList = b.toList) : a = b := by
  rw [Lib.toList_data, Lib.toList_data] at h
  cases a; cases b
  simpa using h
theorem pos_inj0 {n h u t : Nat} (ht : t < n) (hut : u ≤ t) (e : pos n h u = pos n h t) : u = t := by
  unfold pos at e
  have h1 : ((h + t) - (h + u)) % n = 0 := Nat.sub_mod_eq_zero_of_mod_eq e.symm
  have h2 : (h + t) - (h + u) = t - u := by omega
  rw [h2, Nat.mod_eq_of_lt (by omega)] at h1
  omega
theorem least {n : Nat} {f : Nat → Prop} : ∀ z, z < n → f z → ∃ t, t < n ∧ f t ∧ ∀ u, u < t → ¬ f u := by
  intro z
  induction z using Nat.strongRecOn with
  | ind z ih =>
    intro hz hf
    by_cases h : ∃ u, u < z ∧ f u
    · obtain ⟨u, hu, hfu⟩ := h
      exact ih u hu (by omega) hfu
    · exact ⟨z, hz, hf, fun u hu hfu => h ⟨u, hu, hfu⟩⟩
/-- Each entry is come to, on its key's way, ahead of any empty place. -/
def Rch (l : List Pl) : Prop := ∀ p, p < l.length → (pAt l p).i = 1 → ∃ t, t < l.length ∧ pos l.length (hk (pAt l p).k) t = p ∧ ∀ u, u < t → (pAt l (pos l.length (hk (pAt l p).k) u)).i ≠ 0
/-- No key stands twice. -/
def Unq (l : List Pl) : Prop := ∀ p q, p < l.length → q < l.length → (pAt l p).i = 1 → (pAt l q).i = 1 → (pAt l p).k = (pAt l q).k → p = q
/-- A key has a number. -/
def Ent (l : List Pl) (k : ByteArray) (n : Int) : Prop := ∃ p, p < l.length ∧ pAt l p = ⟨1, k, n⟩
theorem Unq.one {l : List Pl} (h : Unq l) {k : ByteArray} {n m : Int} (a : Ent l k n) (b : Ent l k m) : n = m := by
  obtain ⟨p, hp, ep⟩ := a
  obtain ⟨q, hq, eq⟩ := b
  have := h p q hp hq (by rw [ep]) (by rw [eq]) (by rw [ep, eq])
  subst this
  rw [ep] at eq
  injection eq
theorem find_at {l : List Pl} (hR : Rch l) (hU : Unq l) {p : Nat} (hp : p < l.length) (h1 : (pAt l p).i = 1) {k : ByteArray} (hk1 : (pAt l p).k = k) : findP l k (hk k) = some p := by
  obtain ⟨t, ht, e, hb⟩ := hR p hp h1
  rw [hk1] at e hb
  have hs : stp l k (pos l.length (hk k) t) = true := by
    unfold stp
    rw [e, h1, hk1]
    simp
  rw [findP_of ht hs ?_, e, h1]
  · rfl
  · intro u hu
    have h0 := hb u hu
    have hlt : pos l.length (hk k) u < l.length := pos_lt (by omega) _ _
    unfold stp
    rw [beq_eq_false_iff_ne.2 h0, Bool.false_or]
    cases hq : ((pAt l (pos l.length (hk k) u)).i == 1)
    · rfl
    · rw [Bool.true_and]
      refine beq_eq_false_iff_ne.2 fun hkk => ?_
      have h2 := hU _ _ hlt hp (eq_of_beq hq) h1 (by rw [hk1]; exact ba_inj hkk)
      rw [← e] at h2
      have := pos_inj0 ht (Nat.le_of_lt hu) h2
      omega
theorem find_ent {l : List Pl} (hR : Rch l) (hU : Unq l) {k : ByteArray} {n : Int} : Ent l k n ↔ ∃ p, findP l k (hk k) = some p ∧ (pAt l p).n = n := by
  constructor
  · rintro ⟨p, hp, e⟩
    exact ⟨p, find_at hR hU hp (by rw [e]) (by rw [e]), by rw [e]⟩
  · rintro ⟨p, hf, hn⟩
    obtain ⟨p1, p2, p3⟩ := findP_ok hf
    refine ⟨p, p1, ?_⟩
    have := ba_inj p3
    cases hq : pAt l p with
    | mk a b c => rw [hq] at p2 this hn; cases p2; cases this; cases hn; rfl
theorem rch_bury {l : List Pl} (h : Rch l) (p : Nat) : Rch (l.set p gravePl) := by
  intro q hq h1
  rw [List.length_set] at hq ⊢
  by_cases hqp : q = p
  · subst hqp
    rw [pAt_set_same hq] at h1
    exact absurd h1 (by show (2 : Int) ≠ 1; omega)
  · rw [pAt_set_ne hqp] at h1 ⊢
    obtain ⟨t, ht, e, hb⟩ := h q hq h1
    refine ⟨t, ht, e, fun u hu => ?_⟩
    by_cases hup : pos l.length (hk (pAt l q).k) u = p
    · rw [hup, pAt_set_same (by rw [← hup]; exact pos_lt (by omega) _ _)]
      show (2 : Int) ≠ 0; omega
    · rw [pAt_set_ne hup]; exact hb u hu
theorem unq_bury {l : List Pl} (h : Unq l) (p : Nat) : Unq (l.set p gravePl) := by
  intro a b ha hb h1 h2 hkk
  rw [List.length_set] at ha hb
  have na : a ≠ p := fun e => by subst e; rw [pAt_set_same ha] at h1; exact absurd h1 (by show (2 : Int) ≠ 1; omega)
  have nb : b ≠ p := fun e => by subst e; rw [pAt_set_same hb] at h2; exact absurd h2 (by show (2 : Int) ≠ 1; omega)
  rw [pAt_set_ne na] at h1 hkk
  rw [pAt_set_ne nb] at h2 hkk
  exact h a b ha hb h1 h2 hkk
theorem ent_bury {l : List Pl} (h : Unq l) {p : Nat} (hp : p < l.length) (h1 : (pAt l p).i = 1) (k : ByteArray) (n : Int) : Ent (l.set p gravePl) k n ↔ Ent l k n ∧ k ≠ (pAt l p).k := by
  constructor
  · rintro ⟨q, hq, e⟩
    rw [List.length_set] at hq
    have nq : q ≠ p := fun e2 => by subst e2; rw [pAt_set_same hq] at e; exact absurd (congrArg Pl.i e) (by show (2 : Int) ≠ 1; omega)
    rw [pAt_set_ne nq] at e
    exact ⟨⟨q, hq, e⟩, fun e2 => nq (h q p hq hp (by rw [e]) h1 (by rw [e]; exact e2))⟩
  · rintro ⟨⟨q, hq, e⟩, hne⟩
    have nq : q ≠ p := fun e2 => by subst e2; rw [e] at hne; exact hne rfl
    exact ⟨q, by rw [List.length_set]; exact hq, by rw [pAt_set_ne nq]; exact e⟩
theorem addI_least {l : List Pl} {h : Nat} (hz : ∃ z, z < l.length ∧ (pAt l z).i = 0) : ∃ t, t < l.length ∧ addI l h = pos l.length h t ∧ (∀ u, u < t → (pAt l (pos l.length h u)).i = 1) := by
  obtain ⟨z, hz1, hz2⟩ := hz
  obtain ⟨t0, ht0, rfl⟩ := pos_onto h hz1
  obtain ⟨t, ht, hf, hl⟩ := least (f := fun t => (pAt l (pos l.length h t)).i ≠ 1) t0 ht0 (by rw [hz2]; omega)
  have hl2 : ∀ u, u < t → (pAt l (pos l.length h u)).i = 1 := fun u hu => Classical.not_not.1 (hl u hu)
  exact ⟨t, ht, addI_of ht (beq_eq_false_iff_ne.2 hf) (fun u hu => by rw [hl2 u hu]; rfl), hl2⟩
theorem rch_add {l : List Pl} (h : Rch l) {k : ByteArray} (hz : ∃ z, z < l.length ∧ (pAt l z).i = 0) (n : Int) : Rch (l.set (addI l (hk k)) ⟨1, k, n⟩) := by
  obtain ⟨t0, ht0, e0, hl0⟩ := addI_least (h := hk k) hz
  have halt : addI l (hk k) < l.length := by rw [e0]; exact pos_lt (by omega) _ _
  have keep : ∀ j, (pAt l j).i ≠ 0 → (pAt (l.set (addI l (hk k)) ⟨1, k, n⟩) j).i ≠ 0 := fun j hj => by
    by_cases hja : j = addI l (hk k)
    · rw [hja, pAt_set_same halt]; show (1 : Int) ≠ 0; omega
    · rw [pAt_set_ne hja]; exact hj
  intro q hq h1
  rw [List.length_set] at hq ⊢
  by_cases hqa : q = addI l (hk k)
  · rw [hqa, pAt_set_same halt]
    exact ⟨t0, ht0, e0.symm, fun u hu => keep _ (by rw [hl0 u hu]; omega)⟩
  · rw [pAt_set_ne hqa] at h1 ⊢
    obtain ⟨t, ht, e, hb⟩ := h q hq h1
    exact ⟨t, ht, e, fun u hu => keep _ (hb u hu)⟩
theorem ent_add {l : List Pl} {k : ByteArray} (hz : ∃ z, z < l.length ∧ (pAt l z).i = 0) (n : Int) (k' : ByteArray) (n' : Int) : Ent (l.set (addI l (hk k)) ⟨1, k, n⟩) k' n' ↔ (k' = k ∧ n' = n) ∨ Ent l k' n' := by
  obtain ⟨halt, hne⟩ := addI_ok (h := hk k) hz
  generalize addI l (hk k) = a at *
  constructor
  · rintro ⟨q, hq, e⟩
    rw [List.length_set] at hq
    by_cases hqa : q = a
    · subst hqa
      rw [pAt_set_same hq] at e
      injection e with _ e1 e2
      exact .inl ⟨e1.symm, e2.symm⟩
    · rw [pAt_set_ne hqa] at e
      exact .inr ⟨q, hq, e⟩
  · rintro (⟨rfl, rfl⟩ | ⟨q, hq, e⟩)
    · exact ⟨a, by rw [List.length_set]; exact halt, pAt_set_same halt⟩
    · have nq : q ≠ a := fun e2 => by subst e2; rw [e] at hne; exact hne rfl
      exact ⟨q, by rw [List.length_set]; exact hq, by rw [pAt_set_ne nq]; exact e⟩
theorem unq_add {l : List Pl} (h : Unq l) {k : ByteArray} (hz : ∃ z, z < l.length ∧ (pAt l z).i = 0) (n : Int) (hno : ∀ m, ¬ Ent l k m) : Unq (l.set (addI l (hk k)) ⟨1, k, n⟩) := by
  obtain ⟨halt, hne⟩ := addI_ok (h := hk k) hz
  generalize addI l (hk k) = a at *
  have no2 : ∀ q, q < l.length → (pAt l q).i = 1 → (pAt l q).k ≠ k := fun q hq h1 hkk => hno (pAt l q).n ⟨q, hq, by
    cases e : pAt l q with
    | mk x y z => rw [e] at h1 hkk; cases h1; cases hkk; rfl⟩
  intro p q hp hq h1 h2 hkk
  rw [List.length_set] at hp hq
  by_cases hpa : p = a
  · by_cases hqa : q = a
    · rw [hpa, hqa]
    · rw [hpa, pAt_set_same halt, pAt_set_ne hqa] at hkk
      rw [pAt_set_ne hqa] at h2
      exact absurd hkk.symm (no2 q hq h2)
  · by_cases hqa : q = a
    · rw [hqa, pAt_set_same halt, pAt_set_ne hpa] at hkk
      rw [pAt_set_ne hpa] at h1
      exact absurd hkk (no2 p hp h1)
    · rw [pAt_set_ne hpa] at h1 hkk
      rw [pAt_set_ne hqa] at h2 hkk
      exact h p q hp hq h1 h2 hkk
theorem setN_k (l : List Pl) (p : Nat) (n : Int) (j : Nat) : (pAt (setN l p n) j).k = (pAt l j).k := by
  unfold setN
  by_cases h : j = p
  · subst h
    by_cases hj : j < l.length
    · rw [pAt_set_same hj]
    · rw [List.set_eq_of_length_le (by omega)]
  · rw [pAt_set_ne h]
theorem rch_setN {l : List Pl} (h : Rch l) (p : Nat) (n : Int) : Rch (setN l p n) := by
  intro q hq h1
  rw [setN_len] at hq ⊢
  rw [setN_i] at h1
  rw [setN_k]
  obtain ⟨t, ht, e, hb⟩ := h q hq h1
  exact ⟨t, ht, e, fun u hu => by rw [setN_i]; exact hb u hu⟩
theorem unq_setN {l : List Pl} (h : Unq l) (p : Nat) (n : Int) : Unq (setN l p n) := by
  intro a b ha hb h1 h2 hkk
  rw [setN_len] at ha hb
  rw [setN_i] at h1 h2
  rw [setN_k, setN_k] at hkk
  exact h a b ha hb h1 h2 hkk
theorem ent_setN {l : List Pl} (h : Unq l) {p : Nat} (hp : p < l.length) (h1 : (pAt l p).i = 1) {k : ByteArray} (hk1 : (pAt l p).k = k) (n : Int) (k' : ByteArray) (n' : Int) : Ent (setN l p n) k' n' ↔ (k' = k ∧ n' = n) ∨ (k' ≠ k ∧ Ent l k' n') := by
  constructor
  · rintro ⟨q, hq, e⟩
    rw [setN_len] at hq
    by_cases hqp : q = p
    · subst hqp
      unfold setN at e
      rw [pAt_set_same hq] at e
      injection e with _ e1 e2
      exact .inl ⟨by rw [← e1, hk1], e2.symm⟩
    · unfold setN at e
      rw [pAt_set_ne hqp] at e
      exact .inr ⟨fun e2 => hqp (h q p hq hp (by rw [e]) h1 (by rw [e, hk1]; exact e2)), q, hq, e⟩
  · rintro (⟨rfl, rfl⟩ | ⟨hne, q, hq, e⟩)
    · refine ⟨p, by rw [setN_len]; exact hp, ?_⟩
      unfold setN
      rw [pAt_set_same hp, h1, hk1]
    · have nq : q ≠ p := fun e2 => by subst e2; rw [e] at hk1; exact hne hk1
      refine ⟨q, by rw [setN_len]; exact hq, ?_⟩
      unfold setN
      rw [pAt_set_ne nq]; exact e
theorem rch_zero (n : Nat) : Rch (List.replicate n zeroPl) := fun p hp h1 => by
  rw [pAt_lt hp, List.getElem_replicate] at h1
  cases h1
theorem unq_zero (n : Nat) : Unq (List.replicate n zeroPl) := fun p _ hp _ h1 _ _ => by
  rw [pAt_lt hp, List.getElem_replicate] at h1
  cases h1
theorem ent_zero (n : Nat) (k : ByteArray) (m : Int) : ¬ Ent (List.replicate n zeroPl) k m := by
  rintro ⟨p, hp, e⟩
  rw [pAt_lt hp, List.getElem_replicate] at e
  cases e
/-- Each key stands once, where it is come to. -/
structure Kp (s : St) : Prop where
  ra : Rch s.now
  rb : Rch s.nxt
  ua : Unq s.now
  ub : Unq s.nxt
  ap : ∀ k n m, Ent s.now k n → ¬ Ent s.nxt k m
def Has (s : St) (k : ByteArray) (n : Int) : Prop := Ent s.now k n ∨ Ent s.nxt k n
theorem Kp.one {s : St} (h : Kp s) {k : ByteArray} {n m : Int} (a : Has s k n) (b : Has s k m) : n = m := by
  rcases a with a | a <;> rcases b with b | b
  · exact h.ua.one a b
  · exact absurd b (h.ap _ _ _ a)
  · exact absurd a (h.ap _ _ _ b)
  · exact h.ub.one a b
theorem Kp.has {s : St} (h : Kp s) (k : ByteArray) (n : Int) : Has s k n ↔ (fnd s k (hk k)).isSome = true ∧ valS s k = n := by
  have fa := find_ent (k := k) (n := n) h.ra h.ua
  have fb := find_ent (k := k) (n := n) h.rb h.ub
  unfold Has
  rw [fa, fb]
  unfold valS fnd
  cases h1 : findP s.now k (hk k) with
  | some p =>
    have hno : findP s.nxt k (hk k) = none := by
      cases h2 : findP s.nxt k (hk k) with
      | none => rfl
      | some q => exact absurd ((find_ent h.rb h.ub).2 ⟨q, h2, rfl⟩) (h.ap _ _ _ ((find_ent h.ra h.ua).2 ⟨p, h1, rfl⟩))
    rw [hno]
    simp
  | none =>
    cases h2 : findP s.nxt k (hk k) with
    | some q => simp
    | none => simp
theorem Kp.none {s : St} (h : Kp s) {k : ByteArray} (hf : fnd s k (hk k) = none) (n : Int) : ¬ Has s k n := by
  rw [h.has, hf]
  simp
theorem Kp.mv1 {c : Int} {s : St} (h : Kp s) (hO : Ok c s) (hc : 0 ≤ c) (hn : 0 < s.nxt.length) (hm : s.mv < s.now.length) : Kp (mv1 s) ∧ ∀ k n, Has (Ta.mv1 s) k n ↔ Has s k n := by
  unfold Ta.mv1
  cases hf : (pAt s.now s.mv).i == 1
  · exact ⟨⟨h.ra, h.rb, h.ua, h.ub, h.ap⟩, fun _ _ => Iff.rfl⟩
  · have h1 : (pAt s.now s.mv).i = 1 := eq_of_beq hf
    have hz := hO.nxt0 hc hn
    have hE : Ent s.now (pAt s.now s.mv).k (pAt s.now s.mv).n := ⟨s.mv, hm, by
      cases e : pAt s.now s.mv with
      | mk x y z => rw [e] at h1; cases h1; rfl⟩
    have hno : ∀ m, ¬ Ent s.nxt (pAt s.now s.mv).k m := fun m => h.ap _ _ _ hE
    refine ⟨⟨rch_bury h.ra _, rch_add h.rb hz _, unq_bury h.ua _, unq_add h.ub hz _ hno, fun k n m a b => ?_⟩, fun k n => ?_⟩
    · obtain ⟨a1, a2⟩ := (ent_bury h.ua hm h1 k n).1 a
      rcases (ent_add hz _ k m).1 b with ⟨e, -⟩ | b
      · exact a2 e
      · exact h.ap _ _ _ a1 b
    · show Ent (s.now.set s.mv gravePl) k n ∨ Ent (s.nxt.set _ _) k n ↔ Ent s.now k n ∨ Ent s.nxt k n
      rw [ent_bury h.ua hm h1, ent_add hz]
      constructor
      · rintro (⟨a, -⟩ | ⟨rfl, rfl⟩ | b)
        · exact .inl a
        · exact .inl hE
        · exact .inr b
      · rintro (a | b)
        · by_cases hkk : k = (pAt s.now s.mv).k
          · subst hkk
            exact .inr (.inl ⟨rfl, h.ua.one a hE⟩)
          · exact .inl ⟨a, hkk⟩
        · exact .inr (.inr b)
theorem Kp.step {s : St} (h : Kp s) (hO : OkS 0 s) : Kp (step s) ∧ ∀ k n, Has (Ta.step s) k n ↔ Has s k n := by
  unfold Ta.step
  by_cases hn : s.nxt.length = 0
  · rw [if_pos hn]; exact ⟨h, fun _ _ => Iff.rfl⟩
  · rw [if_neg hn]
    have hn : 0 < s.nxt.length := by omega
    have hm := hO.mn hn
    have h8 := hO.p1.facts
    have h4 := hO.m4
    obtain ⟨x1, y1, z1⟩ := mv1_len s
    obtain ⟨x2, y2, z2⟩ := mv1_len (Ta.mv1 s)
    obtain ⟨x3, y3, z3⟩ := mv1_len (Ta.mv1 (Ta.mv1 s))
    obtain ⟨x4, y4, z4⟩ := mv1_len (Ta.mv1 (Ta.mv1 (Ta.mv1 s)))
    have k1 := mv1_ok hO.toOk (Int.le_refl _) hn hm
    have k2 := mv1_ok k1 (by omega) (by omega) (by omega)
    have k3 := mv1_ok k2 (by omega) (by omega) (by omega)
    have k4 := mv1_ok k3 (by omega) (by omega) (by omega)
    obtain ⟨p1, q1⟩ := h.mv1 hO.toOk (Int.le_refl _) hn hm
    obtain ⟨p2, q2⟩ := p1.mv1 k1 (by omega) (by omega) (by omega)
    obtain ⟨p3, q3⟩ := p2.mv1 k2 (by omega) (by omega) (by omega)
    obtain ⟨p4, q4⟩ := p3.mv1 k3 (by omega) (by omega) (by omega)
    have q : ∀ k n, Has (Ta.mv1 (Ta.mv1 (Ta.mv1 (Ta.mv1 s)))) k n ↔ Has s k n := fun k n => (q4 k n).trans ((q3 k n).trans ((q2 k n).trans (q1 k n)))
    generalize Ta.mv1 (Ta.mv1 (Ta.mv1 (Ta.mv1 s))) = s' at *
    unfold fin
    by_cases he : s'.mv = s'.now.length
    · rw [if_pos he]
      have hno : ∀ k n, ¬ Ent s'.now k n := by
        rintro k n ⟨p, hp, e⟩
        exact k4.mf p (by omega) (by rw [e])
      refine ⟨⟨p4.rb, rch_zero 0, p4.ub, unq_zero 0, fun k n m _ => ent_zero 0 k m⟩, fun k n => ?_⟩
      rw [← q]
      show Ent s'.nxt k n ∨ Ent [] k n ↔ Ent s'.now k n ∨ Ent s'.nxt k n
      constructor
      · rintro (a | a)
        · exact .inr a
        · exact absurd a (ent_zero 0 k n)
      · rintro (a | a)
        · exact absurd a (hno k n)
        · exact .inl a
    · rw [if_neg he]; exact ⟨p4, q⟩
theorem Kp.beg {s : St} (h : Kp s) : Kp (beg s) ∧ ∀ k n, Has (Ta.beg s) k n ↔ Has s k n := by
  unfold Ta.beg
  by_cases hc : s.nxt.length = 0 ∧ (s.now.length : Int) / 2 ≤ s.e1 + s.d1
  · rw [if_pos hc]
    refine ⟨⟨h.ra, rch_zero _, h.ua, unq_zero _, fun k n m _ => ent_zero _ k m⟩, fun k n => ?_⟩
    show Ent s.now k n ∨ Ent (List.replicate (nextR s) zeroPl) k n ↔ Ent s.now k n ∨ Ent s.nxt k n
    constructor
    · rintro (a | a)
      · exact .inl a
      · exact absurd a (ent_zero _ k n)
    · rintro (a | ⟨p, hp, -⟩)
      · exact .inl a
      · omega
  · rw [if_neg hc]; exact ⟨h, fun _ _ => Iff.rfl⟩
theorem Kp.ins {s : St} (h : Kp s) (hO : OkS 4 s) {k : ByteArray} (n : Int) (hno : ∀ m, ¬ Has s k m) : Kp (ins s k n) ∧ ∀ k' n', Has (Ta.ins s k n) k' n' ↔ (k' = k ∧ n' = n) ∨ (k' ≠ k ∧ Has s k' n') := by
  have na : ∀ m, ¬ Ent s.now k m := fun m a => hno m (.inl a)
  have nb : ∀ m, ¬ Ent s.nxt k m := fun m a => hno m (.inr a)
  unfold Ta.ins
  by_cases hn : 0 < s.nxt.length
  · rw [if_pos hn]
    have hz := hO.nxt0 (by omega) hn
    refine ⟨⟨h.ra, rch_add h.rb hz _, h.ua, unq_add h.ub hz _ nb, fun k' n' m a b => ?_⟩, fun k' n' => ?_⟩
    · rcases (ent_add hz _ k' m).1 b with ⟨rfl, -⟩ | b
      · exact na _ a
      · exact h.ap _ _ _ a b
    · show Ent s.now k' n' ∨ Ent (s.nxt.set _ _) k' n' ↔ _
      rw [ent_add hz]
      constructor
      · rintro (a | a | a)
        · exact .inr ⟨fun e => na _ (e ▸ a), .inl a⟩
        · exact .inl a
        · exact .inr ⟨fun e => nb _ (e ▸ a), .inr a⟩
      · rintro (a | ⟨-, a | a⟩)
        · exact .inr (.inl a)
        · exact .inl a
        · exact .inr (.inr a)
  · rw [if_neg hn]
    have hz := hO.now0
    refine ⟨⟨rch_add h.ra hz _, h.rb, unq_add h.ua hz _ na, h.ub, fun k' n' m a b => ?_⟩, fun k' n' => ?_⟩
    · rcases (ent_add hz _ k' n').1 a with ⟨rfl, -⟩ | a
      · exact nb _ b
      · exact h.ap _ _ _ a b
    · show Ent (s.now.set _ _) k' n' ∨ Ent s.nxt k' n' ↔ _
      rw [ent_add hz]
      constructor
      · rintro ((a | a) | a)
        · exact .inl a
        · exact .inr ⟨fun e => na _ (e ▸ a), .inl a⟩
        · exact .inr ⟨fun e => nb _ (e ▸ a), .inr a⟩
      · rintro (a | ⟨-, a | a⟩)
        · exact .inl (.inl a)
        · exact .inl (.inr a)
        · exact .inr a
theorem Kp.put {s : St} (h : Kp s) (hO : OkS 4 s) (hl : lenS s ≤ 511) (k : ByteArray) (n : Int) : Kp (putS s k n) ∧ ∀ k' n', Has (putS s k n) k' n' ↔ (k' = k ∧ n' = n) ∨ (k' ≠ k ∧ Has s k' n') := by
  unfold putS
  cases hf : fnd s k (hk k) with
  | none =>
    obtain ⟨a, -, -⟩ := beg_ok hO hl
    obtain ⟨p, q⟩ := h.beg
    obtain ⟨x, y⟩ := p.ins a (k := k) n (fun m => by rw [q]; exact h.none hf m)
    refine ⟨x, fun k' n' => ?_⟩
    show Has (Ta.ins (Ta.beg s) k n) k' n' ↔ _
    rw [y, q]
  | some r =>
    obtain ⟨b, p⟩ := r
    cases b
    · obtain ⟨p1, p2, p3⟩ := findP_ok (fnd_now hf)
      have p3 := ba_inj p3
      have hE : Ent s.now k (pAt s.now p).n := (find_ent h.ra h.ua).2 ⟨p, fnd_now hf, rfl⟩
      refine ⟨⟨rch_setN h.ra _ _, h.rb, unq_setN h.ua _ _, h.ub, fun k' n' m a b => ?_⟩, fun k' n' => ?_⟩
      · rcases (ent_setN h.ua p1 p2 p3 n k' n').1 a with ⟨rfl, -⟩ | ⟨-, a⟩
        · exact h.ap _ _ _ hE b
        · exact h.ap _ _ _ a b
      · show Ent (setN s.now p n) k' n' ∨ Ent s.nxt k' n' ↔ _
        rw [ent_setN h.ua p1 p2 p3]
        constructor
        · rintro ((a | a) | a)
          · exact .inl a
          · exact .inr ⟨a.1, .inl a.2⟩
          · exact .inr ⟨fun e => h.ap _ _ _ hE (e ▸ a), .inr a⟩
        · rintro (a | ⟨hne, a | a⟩)
          · exact .inl (.inl a)
          · exact .inl (.inr ⟨hne, a⟩)
          · exact .inr a
    · obtain ⟨f1, f2⟩ := fnd_nxt hf
      obtain ⟨p1, p2, p3⟩ := findP_ok f2
      have p3 := ba_inj p3
      have hE : Ent s.nxt k (pAt s.nxt p).n := (find_ent h.rb h.ub).2 ⟨p, f2, rfl⟩
      refine ⟨⟨h.ra, rch_setN h.rb _ _, h.ua, unq_setN h.ub _ _, fun k' n' m a b => ?_⟩, fun k' n' => ?_⟩
      · rcases (ent_setN h.ub p1 p2 p3 n k' m).1 b with ⟨rfl, -⟩ | ⟨-, b⟩
        · exact h.ap _ _ _ a hE
        · exact h.ap _ _ _ a b
      · show Ent s.now k' n' ∨ Ent (setN s.nxt p n) k' n' ↔ _
        rw [ent_setN h.ub p1 p2 p3]
        constructor
        · rintro (a | a | a)
          · exact .inr ⟨fun e => h.ap _ _ _ (e ▸ a) hE, .inl a⟩
          · exact .inl a
          · exact .inr ⟨a.1, .inr a.2⟩
        · rintro (a | ⟨hne, a | a⟩)
          · exact .inr (.inl a)
          · exact .inl a
          · exact .inr (.inr ⟨hne, a⟩)
theorem Kp.drop {s : St} (h : Kp s) (k : ByteArray) : Kp (dropS s k) ∧ ∀ k' n', Has (dropS s k) k' n' ↔ k' ≠ k ∧ Has s k' n' := by
  unfold dropS
  cases hf : fnd s k (hk k) with
  | none => exact ⟨h, fun k' n' => ⟨fun a => ⟨fun e => h.none hf n' (e ▸ a), a⟩, fun a => a.2⟩⟩
  | some r =>
    obtain ⟨b, p⟩ := r
    cases b
    · obtain ⟨p1, p2, p3⟩ := findP_ok (fnd_now hf)
      have p3 := ba_inj p3
      have hE : Ent s.now k (pAt s.now p).n := (find_ent h.ra h.ua).2 ⟨p, fnd_now hf, rfl⟩
      refine ⟨⟨rch_bury h.ra _, h.rb, unq_bury h.ua _, h.ub, fun k' n' m a b => h.ap _ _ _ ((ent_bury h.ua p1 p2 k' n').1 a).1 b⟩, fun k' n' => ?_⟩
      show Ent (s.now.set p gravePl) k' n' ∨ Ent s.nxt k' n' ↔ _
      rw [ent_bury h.ua p1 p2, p3]
      constructor
      · rintro (a | a)
        · exact ⟨a.2, .inl a.1⟩
        · exact ⟨fun e => h.ap _ _ _ hE (e ▸ a), .inr a⟩
      · rintro ⟨hne, a | a⟩
        · exact .inl ⟨a, hne⟩
        · exact .inr a
    · obtain ⟨f1, f2⟩ := fnd_nxt hf
      obtain ⟨p1, p2, p3⟩ := findP_ok f2
      have p3 := ba_inj p3
      have hE : Ent s.nxt k (pAt s.nxt p).n := (find_ent h.rb h.ub).2 ⟨p, f2, rfl⟩
      refine ⟨⟨h.ra, rch_bury h.rb _, h.ua, unq_bury h.ub _, fun k' n' m a b => h.ap _ _ _ a ((ent_bury h.ub p1 p2 k' m).1 b).1⟩, fun k' n' => ?_⟩
      show Ent s.now k' n' ∨ Ent (s.nxt.set p gravePl) k' n' ↔ _
      rw [ent_bury h.ub p1 p2, p3]
      constructor
      · rintro (a | a)
        · exact ⟨fun e => h.ap _ _ _ (e ▸ a) hE, .inl a⟩
        · exact ⟨a.2, .inr a.1⟩
      · rintro ⟨hne, a | a⟩
        · exact .inl a
        · exact .inr ⟨a, hne⟩
theorem Kp.new : Kp newS := ⟨rch_zero 8, rch_zero 0, unq_zero 8, unq_zero 0, fun k n _ a => absurd a (ent_zero 8 k n)⟩
theorem has_new (k : ByteArray) (n : Int) : ¬ Has newS k n := by
  rintro (a | a)
  · exact ent_zero 8 k n a
  · exact ent_zero 0 k n a
end Go.Proofs.Ytpbblijnfigapaa.Ta
