/- Package table, plain: what is found is what was put last. No program. -/
import Derived.Test.YtmjlhmohglbecaaGreatDoorTaD
import Derived.Maps.OwnSet
namespace Go.Proofs.YtmjlhmohglbecaaGreatDoor.Ta
theorem ba_inj {a b : ByteArray} (h : a.toList = b.toList) : a = b := by
  rw [Lib.toList_data, Lib.toList_data] at h
  cases a; cases b
  simpa using h
theorem pos_inj0 {n h u t : Nat} (ht : t < n) (hut : u ≤ t) (e : pos n h u = pos n h t) : u = t := by
  unfold pos at e
  have h1 : ((h + t) - (h + u)) % n = 0 := Nat.sub_mod_eq_zero_of_mod_eq e.symm
  have h2 : (h + t) - (h + u) = t - u := by omega
  rw [h2, Nat.mod_eq_of_lt (by omega)] at h1
  omega
theorem least {n : Nat} {f : Nat → Prop} : ∀ z, z < n → f z → ∃ t, t < n ∧ f t ∧ ∀ u, u < t → ¬ f u := by
  intro z
  induction z using Nat.strongRecOn with
  | ind z ih =>
    intro hz hf
    by_cases h : ∃ u, u < z ∧ f u
    · obtain ⟨u, hu, hfu⟩ := h
      exact ih u hu (by omega) hfu
    · exact ⟨z, hz, hf, fun u hu hfu => h ⟨u, hu, hfu⟩⟩
/-- Each entry is come to, on its key's way, ahead of any empty place. -/
def Rch (l : List Pl) : Prop := ∀ p, p < l.length → (pAt l p).i = 1 → ∃ t, t < l.length ∧ pos l.length (hk (pAt l p).k) t = p ∧ ∀ u, u < t → (pAt l (pos l.length (hk (pAt l p).k) u)).i ≠ 0
/-- No key stands twice. -/
def Unq (l : List Pl) : Prop := ∀ p q, p < l.length → q < l.length → (pAt l p).i = 1 → (pAt l q).i = 1 → (pAt l p).k = (pAt l q).k → p = q
/-- A key has a number. -/
def Ent (l : List Pl) (k : ByteArray) (n : Int) : Prop := ∃ p, p < l.length ∧ pAt l p = ⟨1, k, n⟩
theorem Unq.one {l : List Pl} (h : Unq l) {k : ByteArray} {n m : Int} (a : Ent l k n) (b : Ent l k m) : n = m := by
  obtain ⟨p, hp, ep⟩ := a
  obtain ⟨q, hq, eq⟩ := b
  have := h p q hp hq (by rw [ep]) (by rw [eq]) (by rw [ep, eq])
  subst this
  rw [ep] at eq
  injection eq
theorem find_at {l : List Pl} (hR : Rch l) (hU : Unq l) {p : Nat} (hp : p < l.length) (h1 : (pAt l p).i = 1) {k : ByteArray} (hk1 : (pAt l p).k = k) : findP l k (hk k) = some p := by
  obtain ⟨t, ht, e, hb⟩ := hR p hp h1
  rw [hk1] at e hb
  have hs : stp l k (pos l.length (hk k) t) = true := by
    unfold stp
    rw [e, h1, hk1]
    simp
  rw [findP_of ht hs ?_, e, h1]
  · rfl
  · intro u hu
    have h0 := hb u hu
    have hlt : pos l.length (hk k) u < l.length := pos_lt (by omega) _ _
    unfold stp
    rw [beq_eq_false_iff_ne.2 h0, Bool.false_or]
    cases hq : ((pAt l (pos l.length (hk k) u)).i == 1)
    · rfl
    · rw [Bool.true_and]
      refine beq_eq_false_iff_ne.2 fun hkk => ?_
      have h2 := hU _ _ hlt hp (eq_of_beq hq) h1 (by rw [hk1]; exact ba_inj hkk)
      rw [← e] at h2
      have := pos_inj0 ht (Nat.le_of_lt hu) h2
      omega
theorem find_ent {l : List Pl} (hR : Rch l) (hU : Unq l) {k : ByteArray} {n : Int} : Ent l k n ↔ ∃ p, findP l k (hk k) = some p ∧ (pAt l p).n = n := by
  constructor
  · rintro ⟨p, hp, e⟩
    exact ⟨p, find_at hR hU hp (by rw [e]) (by rw [e]), by rw [e]⟩
  · rintro ⟨p, hf, hn⟩
    obtain ⟨p1, p2, p3⟩ := findP_ok hf
    refine ⟨p, p1, ?_⟩
    have := ba_inj p3
    cases hq : pAt l p with
    | mk a b c => rw [hq] at p2 this hn; cases p2; cases this; cases hn; rfl
theorem rch_bury {l : List Pl} (h : Rch l) (p : Nat) : Rch (l.set p gravePl) := by
  intro q hq h1
  rw [List.length_set] at hq ⊢
  by_cases hqp : q = p
  · subst hqp
    rw [pAt_set_same hq] at h1
    exact absurd h1 (by show (2 : Int) ≠ 1; omega)
  · rw [pAt_set_ne hqp] at h1 ⊢
    obtain ⟨t, ht, e, hb⟩ := h q hq h1
    refine ⟨t, ht, e, fun u hu => ?_⟩
    by_cases hup : pos l.length (hk (pAt l q).k) u = p
    · rw [hup, pAt_set_same (by rw [← hup]; exact pos_lt (by omega) _ _)]
      show (2 : Int) ≠ 0; omega
    · rw [pAt_set_ne hup]; exact hb u hu
theorem unq_bury {l : List Pl} (h : Unq l) (p : Nat) : Unq (l.set p gravePl) := by
  intro a b ha hb h1 h2 hkk
  rw [List.length_set] at ha hb
  have na : a ≠ p := fun e => by subst e; rw [pAt_set_same ha] at h1; exact absurd h1 (by show (2 : Int) ≠ 1; omega)
  have nb : b ≠ p := fun e => by subst e; rw [pAt_set_same hb] at h2; exact absurd h2 (by show (2 : Int) ≠ 1; omega)
  rw [pAt_set_ne na] at h1 hkk
  rw [pAt_set_ne nb] at h2 hkk
  exact h a b ha hb h1 h2 hkk
theorem ent_bury {l : List Pl} (h : Unq l) {p : Nat} (hp : p < l.length) (h1 : (pAt l p).i = 1) (k : ByteArray) (n : Int) : Ent (l.set p gravePl) k n ↔ Ent l k n ∧ k ≠ (pAt l p).k := by
  constructor
  · rintro ⟨q, hq, e⟩
    rw [List.length_set] at hq
    have nq : q ≠ p := fun e2 => by subst e2; rw [pAt_set_same hq] at e; exact absurd (congrArg Pl.i e) (by show (2 : Int) ≠ 1; omega)
    rw [pAt_set_ne nq] at e
    exact ⟨⟨q, hq, e⟩, fun e2 => nq (h q p hq hp (by rw [e]) h1 (by rw [e]; exact e2))⟩
  · rintro ⟨⟨q, hq, e⟩, hne⟩
    have nq : q ≠ p := fun e2 => by subst e2; rw [e] at hne; exact hne rfl
    exact ⟨q, by rw [List.length_set]; exact hq, by rw [pAt_set_ne nq]; exact e⟩
theorem addI_least {l : List Pl} {h : Nat} (hz : ∃ z, z < l.length ∧ (pAt l z).i = 0) : ∃ t, t < l.length ∧ addI l h = pos l.length h t ∧ (∀ u, u < t → (pAt l (pos l.length h u)).i = 1) := by
  obtain ⟨z, hz1, hz2⟩ := hz
  obtain ⟨t0, ht0, rfl⟩ := pos_onto h hz1
  obtain ⟨t, ht, hf, hl⟩ := least (f := fun t => (pAt l (pos l.length h t)).i ≠ 1) t0 ht0 (by rw [hz2]; omega)
  have hl2 : ∀ u, u < t → (pAt l (pos l.length h u)).i = 1 := fun u hu => Classical.not_not.1 (hl u hu)
  exact ⟨t, ht, addI_of ht (beq_eq_false_iff_ne.2 hf) (fun u hu => by rw [hl2 u hu]; rfl), hl2⟩
theorem rch_add {l : List Pl} (h : Rch l) {k : ByteArray} (hz : ∃ z, z < l.length ∧ (pAt l z).i = 0) (n : Int) : Rch (l.set (addI l (hk k)) ⟨1, k, n⟩) := by
  obtain ⟨t0, ht0, e0, hl0⟩ := addI_least (h := hk k) hz
  have halt : addI l (hk k) < l.length := by rw [e0]; exact pos_lt (by omega) _ _
  have keep : ∀ j, (pAt l j).i ≠ 0 → (pAt (l.set (addI l (hk k)) ⟨1, k, n⟩) j).i ≠ 0 := fun j hj => by
    by_cases hja : j = addI l (hk k)
    · rw [hja, pAt_set_same halt]; show (1 : Int) ≠ 0; omega
    · rw [pAt_set_ne hja]; exact hj
  intro q hq h1
  rw [List.length_set] at hq ⊢
  by_cases hqa : q = addI l (hk k)
  · rw [hqa, pAt_set_same halt]
    exact ⟨t0, ht0, e0.symm, fun u hu => keep _ (by rw [hl0 u hu]; omega)⟩
  · rw [pAt_set_ne hqa] at h1 ⊢
    obtain ⟨t, ht, e, hb⟩ := h q hq h1
    exact ⟨t, ht, e, fun u hu => keep _ (hb u hu)⟩
theorem ent_add {l : List Pl} {k : ByteArray} (hz : ∃ z, z < l.length ∧ (pAt l z).i = 0) (n : Int) (k' : ByteArray) (n' : Int) : Ent (l.set (addI l (hk k)) ⟨1, k, n⟩) k' n' ↔ (k' = k ∧ n' = n) ∨ Ent l k' n' := by
  obtain ⟨halt, hne⟩ := addI_ok (h := hk k) hz
  generalize addI l (hk k) = a at *
  constructor
  · rintro ⟨q, hq, e⟩
    rw [List.length_set] at hq
    by_cases hqa : q = a
    · subst hqa
      rw [pAt_set_same hq] at e
      injection e with _ e1 e2
      exact .inl ⟨e1.symm, e2.symm⟩
    · rw [pAt_set_ne hqa] at e
      exact .inr ⟨q, hq, e⟩
  · rintro (⟨rfl, rfl⟩ | ⟨q, hq, e⟩)
    · exact ⟨a, by rw [List.length_set]; exact halt, pAt_set_same halt⟩
    · have nq : q ≠ a := fun e2 => by subst e2; rw [e] at hne; exact hne rfl
      exact ⟨q, by rw [List.length_set]; exact hq, by rw [pAt_set_ne nq]; exact e⟩
theorem unq_add {l : List Pl} (h : Unq l) {k : ByteArray} (hz : ∃ z, z < l.length ∧ (pAt l z).i = 0) (n : Int) (hno : ∀ m, ¬ Ent l k m) : Unq (l.set (addI l (hk k)) ⟨1, k, n⟩) := by
  obtain ⟨halt, hne⟩ := addI_ok (h := hk k) hz
  generalize addI l (hk k) = a at *
  have no2 : ∀ q, q < l.length → (pAt l q).i = 1 → (pAt l q).k ≠ k := fun q hq h1 hkk => hno (pAt l q).n ⟨q, hq, by
    cases e : pAt l q with
    | mk x y z => rw [e] at h1 hkk; cases h1; cases hkk; rfl⟩
  intro p q hp hq h1 h2 hkk
  rw [List.length_set] at hp hq
  by_cases hpa : p = a
  · by_cases hqa : q = a
    · rw [hpa, hqa]
    · rw [hpa, pAt_set_same halt, pAt_set_ne hqa] at hkk
      rw [pAt_set_ne hqa] at h2
      exact absurd hkk.symm (no2 q hq h2)
  · by_cases hqa : q = a
    · rw [hqa, pAt_set_same halt, pAt_set_ne hpa] at hkk
      rw [pAt_set_ne hpa] at h1
      exact absurd hkk (no2 p hp h1)
    · rw [pAt_set_ne hpa] at h1 hkk
      rw [pAt_set_ne hqa] at h2 hkk
      exact h p q hp hq h1 h2 hkk
theorem setN_k (l : List Pl) (p : Nat) (n : Int) (j : Nat) : (pAt (setN l p n) j).k = (pAt l j).k := by
  unfold setN
  by_cases h : j = p
  · subst h
    by_cases hj : j < l.length
    · rw [pAt_set_same hj]
    · rw [List.set_eq_of_length_le (by omega)]
  · rw [pAt_set_ne h]
theorem rch_setN {l : List Pl} (h : Rch l) (p : Nat) (n : Int) : Rch (setN l p n) := by
  intro q hq h1
  rw [setN_len] at hq ⊢
  rw [setN_i] at h1
  rw [setN_k]
  obtain ⟨t, ht, e, hb⟩ := h q hq h1
  exact ⟨t, ht, e, fun u hu => by rw [setN_i]; exact hb u hu⟩
theorem unq_setN {l : List Pl} (h : Unq l) (p : Nat) (n : Int) : Unq (setN l p n) := by
  intro a b ha hb h1 h2 hkk
  rw [setN_len] at ha hb
  rw [setN_i] at h1 h2
  rw [setN_k, setN_k] at hkk
  exact h a b ha hb h1 h2 hkk
theorem ent_setN {l : List Pl} (h : Unq l) {p : Nat} (hp : p < l.length) (h1 : (pAt l p).i = 1) {k : ByteArray} (hk1 : (pAt l p).k = k) (n : Int) (k' : ByteArray) (n' : Int) : Ent (setN l p n) k' n' ↔ (k' = k ∧ n' = n) ∨ (k' ≠ k ∧ Ent l k' n') := by
  constructor
  · rintro ⟨q, hq, e⟩
    rw [setN_len] at hq
    by_cases hqp : q = p
    · subst hqp
      unfold setN at e
      rw [pAt_set_same hq] at e
      injection e with _ e1 e2
      exact .inl ⟨by rw [← e1, hk1], e2.symm⟩
    · unfold setN at e
      rw [pAt_set_ne hqp] at e
      exact .inr ⟨fun e2 => hqp (h q p hq hp (by rw [e]) h1 (by rw [e, hk1]; exact e2)), q, hq, e⟩
  · rintro (⟨rfl, rfl⟩ | ⟨hne, q, hq, e⟩)
    · refine ⟨p, by rw [setN_len]; exact hp, ?_⟩
      unfold setN
      rw [pAt_set_same hp, h1, hk1]
    · have nq : q ≠ p := fun e2 => by subst e2; rw [e] at hk1; exact hne hk1
      refine ⟨q, by rw [setN_len]; exact hq, ?_⟩
      unfold setN
      rw [pAt_set_ne nq]; exact e
theorem rch_zero (n : Nat) : Rch (List.replicate n zeroPl) := fun p hp h1 => by
  rw [pAt_lt hp, List.getElem_replicate] at h1
  cases h1
theorem unq_zero (n : Nat) : Unq (List.replicate n zeroPl) := fun p _ hp _ h1 _ _ => by
  rw [pAt_lt hp, List.getElem_replicate] at h1
  cases h1
theorem ent_zero (n : Nat) (k : ByteArray) (m : Int) : ¬ Ent (List.replicate n zeroPl) k m := by
  rintro ⟨p, hp, e⟩
  rw [pAt_lt hp, List.getElem_replicate] at e
  cases e
/-- Each key stands once, where it is come to. -/
structure Kp (s : St) : Prop where
  ra : Rch s.now
  rb : Rch s.nxt
  ua : Unq s.now
  ub : Unq s.nxt
  ap : ∀ k n m, Ent s.now k n → ¬ Ent s.nxt k m
def Has (s : St) (k : ByteArray) (n : Int) : Prop := Ent s.now k n ∨ Ent s.nxt k n
theorem Kp.one {s : St} (h : Kp s) {k : ByteArray} {n m : Int} (a : Has s k n) (b : Has s k m) : n = m := by
  rcases a with a | a <;> rcases b with b | b
  · exact h.ua.one a b
  · exact absurd b (h.ap _ _ _ a)
  · exact absurd a (h.ap _ _ _ b)
  · exact h.ub.one a b
theorem Kp.has {s : St} (h : Kp s) (k : ByteArray) (n : Int) : Has s k n ↔ (fnd s k (hk k)).isSome = true ∧ valS s k = n := by
  have fa := find_ent (k := k) (n := n) h.ra h.ua
  have fb := find_ent (k := k) (n := n) h.rb h.ub
  unfold Has
  rw [fa, fb]
  unfold valS fnd
  cases h1 : findP s.now k (hk k) with
  | some p =>
    have hno : findP s.nxt k (hk k) = none := by
      cases h2 : findP s.nxt k (hk k) with
      | none => rfl
      | some q => exact absurd ((find_ent h.rb h.ub).2 ⟨q, h2, rfl⟩) (h.ap _ _ _ ((find_ent h.ra h.ua).2 ⟨p, h1, rfl⟩))
    rw [hno]
    simp
  | none =>
    cases h2 : findP s.nxt k (hk k) with
    | some q => simp
    | none => simp
theorem Kp.none {s : St} (h : Kp s) {k : ByteArray} (hf : fnd s k (hk k) = none) (n : Int) : ¬ Has s k n := by
  rw [h.has, hf]
  simp
theorem Kp.mv1 {c : Int} {s : St} (h : Kp s) (hO : Ok c s) (hc : 0 ≤ c) (hn : 0 < s.nxt.length) (hm : s.mv < s.now.length) : Kp (mv1 s) ∧ ∀ k n, Has (Ta.mv1 s) k n ↔ Has s k n := by
  unfold Ta.mv1
  cases hf : (pAt s.now s.mv).i == 1
  · exact ⟨⟨h.ra, h.rb, h.ua, h.ub, h.ap⟩, fun _ _ => Iff.rfl⟩
  · have h1 : (pAt s.now s.mv).i = 1 := eq_of_beq hf
    have hz := hO.nxt0 hc hn
    have hE : Ent s.now (pAt s.now s.mv).k (pAt s.now s.mv).n := ⟨s.mv, hm, by
      cases e : pAt s.now s.mv with
      | mk x y z => rw [e] at h1; cases h1; rfl⟩
    have hno : ∀ m, ¬ Ent s.nxt (pAt s.now s.mv).k m := fun m => h.ap _ _ _ hE
    refine ⟨⟨rch_bury h.ra _, rch_add h.rb hz _, unq_bury h.ua _, unq_add h.ub hz _ hno, fun k n m a b => ?_⟩, fun k n => ?_⟩
    · obtain ⟨a1, a2⟩ := (ent_bury h.ua hm h1 k n).1 a
      rcases (ent_add hz _ k m).1 b with ⟨e, -⟩ | b
      · exact a2 e
      · exact h.ap _ _ _ a1 b
    · show Ent (s.now.set s.mv gravePl) k n ∨ Ent (s.nxt.set _ _) k n ↔ Ent s.now k n ∨ Ent s.nxt k n
      rw [ent_bury h.ua hm h1, ent_add hz]
      constructor
      · rintro (⟨a, -⟩ | ⟨rfl, rfl⟩ | b)
        · exact .inl a
        · exact .inl hE
        · exact .inr b
      · rintro (a | b)
        · by_cases hkk : k = (pAt s.now s.mv).k
          · subst hkk
            exact .inr (.inl ⟨rfl, h.ua.one a hE⟩)
          · exact .inl ⟨a, hkk⟩
        · exact .inr (.inr b)
theorem Kp.step {s : St} (h : Kp s) (hO : OkS 0 s) : Kp (step s) ∧ ∀ k n, Has (Ta.step s) k n ↔ Has s k n := by
  unfold Ta.step
  by_cases hn : s.nxt.length = 0
  · rw [if_pos hn]; exact ⟨h, fun _ _ => Iff.rfl⟩
  · rw [if_neg hn]
    have hn : 0 < s.nxt.length := by omega
    have hm := hO.mn hn
    have h8 := hO.p1.facts
    have h4 := hO.m4
    obtain ⟨x1, y1, z1⟩ := mv1_len s
    obtain ⟨x2, y2, z2⟩ := mv1_len (Ta.mv1 s)
    obtain ⟨x3, y3, z3⟩ := mv1_len (Ta.mv1 (Ta.mv1 s))
    obtain ⟨x4, y4, z4⟩ := mv1_len (Ta.mv1 (Ta.mv1 (Ta.mv1 s)))
    have k1 := mv1_ok hO.toOk (Int.le_refl _) hn hm
    have k2 := mv1_ok k1 (by omega) (by omega) (by omega)
    have k3 := mv1_ok k2 (by omega) (by omega) (by omega)
    have k4 := mv1_ok k3 (by omega) (by omega) (by omega)
    obtain ⟨p1, q1⟩ := h.mv1 hO.toOk (Int.le_refl _) hn hm
    obtain ⟨p2, q2⟩ := p1.mv1 k1 (by omega) (by omega) (by omega)
    obtain ⟨p3, q3⟩ := p2.mv1 k2 (by omega) (by omega) (by omega)
    obtain ⟨p4, q4⟩ := p3.mv1 k3 (by omega) (by omega) (by omega)
    have q : ∀ k n, Has (Ta.mv1 (Ta.mv1 (Ta.mv1 (Ta.mv1 s)))) k n ↔ Has s k n := fun k n => (q4 k n).trans ((q3 k n).trans ((q2 k n).trans (q1 k n)))
    generalize Ta.mv1 (Ta.mv1 (Ta.mv1 (Ta.mv1 s))) = s' at *
    unfold fin
    by_cases he : s'.mv = s'.now.length
    · rw [if_pos he]
      have hno : ∀ k n, ¬ Ent s'.now k n := by
        rintro k n ⟨p, hp, e⟩
        exact k4.mf p (by omega) (by rw [e])
      refine ⟨⟨p4.rb, rch_zero 0, p4.ub, unq_zero 0, fun k n m _ => ent_zero 0 k m⟩, fun k n => ?_⟩
      rw [← q]
      show Ent s'.nxt k n ∨ Ent [] k n ↔ Ent s'.now k n ∨ Ent s'.nxt k n
      constructor
      · rintro (a | a)
        · exact .inr a
        · exact absurd a (ent_zero 0 k n)
      · rintro (a | a)
        · exact absurd a (hno k n)
        · exact .inl a
    · rw [if_neg he]; exact ⟨p4, q⟩
theorem Kp.beg {s : St} (h : Kp s) : Kp (beg s) ∧ ∀ k n, Has (Ta.beg s) k n ↔ Has s k n := by
  unfold Ta.beg
  by_cases hc : s.nxt.length = 0 ∧ (s.now.length : Int) / 2 ≤ s.e1 + s.d1
  · rw [if_pos hc]
    refine ⟨⟨h.ra, rch_zero _, h.ua, unq_zero _, fun k n m _ => ent_zero _ k m⟩, fun k n => ?_⟩
    show Ent s.now k n ∨ Ent (List.replicate (nextR s) zeroPl) k n ↔ Ent s.now k n ∨ Ent s.nxt k n
    constructor
    · rintro (a | a)
      · exact .inl a
      · exact absurd a (ent_zero _ k n)
    · rintro (a | ⟨p, hp, -⟩)
      · exact .inl a
      · omega
  · rw [if_neg hc]; exact ⟨h, fun _ _ => Iff.rfl⟩
theorem Kp.ins {s : St} (h : Kp s) (hO : OkS 4 s) {k : ByteArray} (n : Int) (hno : ∀ m, ¬ Has s k m) : Kp (ins s k n) ∧ ∀ k' n', Has (Ta.ins s k n) k' n' ↔ (k' = k ∧ n' = n) ∨ (k' ≠ k ∧ Has s k' n') := by
  have na : ∀ m, ¬ Ent s.now k m := fun m a => hno m (.inl a)
  have nb : ∀ m, ¬ Ent s.nxt k m := fun m a => hno m (.inr a)
  unfold Ta.ins
  by_cases hn : 0 < s.nxt.length
  · rw [if_pos hn]
    have hz := hO.nxt0 (by omega) hn
    refine ⟨⟨h.ra, rch_add h.rb hz _, h.ua, unq_add h.ub hz _ nb, fun k' n' m a b => ?_⟩, fun k' n' => ?_⟩
    · rcases (ent_add hz _ k' m).1 b with ⟨rfl, -⟩ | b
      · exact na _ a
      · exact h.ap _ _ _ a b
    · show Ent s.now k' n' ∨ Ent (s.nxt.set _ _) k' n' ↔ _
      rw [ent_add hz]
      constructor
      · rintro (a | a | a)
        · exact .inr ⟨fun e => na _ (e ▸ a), .inl a⟩
        · exact .inl a
        · exact .inr ⟨fun e => nb _ (e ▸ a), .inr a⟩
      · rintro (a | ⟨-, a | a⟩)
        · exact .inr (.inl a)
        · exact .inl a
        · exact .inr (.inr a)
  · rw [if_neg hn]
    have hz := hO.now0
    refine ⟨⟨rch_add h.ra hz _, h.rb, unq_add h.ua hz _ na, h.ub, fun k' n' m a b => ?_⟩, fun k' n' => ?_⟩
    · rcases (ent_add hz _ k' n').1 a with ⟨rfl, -⟩ | a
      · exact nb _ b
      · exact h.ap _ _ _ a b
    · show Ent (s.now.set _ _) k' n' ∨ Ent s.nxt k' n' ↔ _
      rw [ent_add hz]
      constructor
      · rintro ((a | a) | a)
        · exact .inl a
        · exact .inr ⟨fun e => na _ (e ▸ a), .inl a⟩
        · exact .inr ⟨fun e => nb _ (e ▸ a), .inr a⟩
      · rintro (a | ⟨-, a | a⟩)
        · exact .inl (.inl a)
        · exact .inl (.inr a)
        · exact .inr a
theorem Kp.put {s : St} (h : Kp s) (hO : OkS 4 s) (hl : lenS s ≤ 511) (k : ByteArray) (n : Int) : Kp (putS s k n) ∧ ∀ k' n', Has (putS s k n) k' n' ↔ (k' = k ∧ n' = n) ∨ (k' ≠ k ∧ Has s k' n') := by
  unfold putS
  cases hf : fnd s k (hk k) with
  | none =>
    obtain ⟨a, -, -⟩ := beg_ok hO hl
    obtain ⟨p, q⟩ := h.beg
    obtain ⟨x, y⟩ := p.ins a (k := k) n (fun m => by rw [q]; exact h.none hf m)
    refine ⟨x, fun k' n' => ?_⟩
    show Has (Ta.ins (Ta.beg s) k n) k' n' ↔ _
    rw [y, q]
  | some r =>
    obtain ⟨b, p⟩ := r
    cases b
    · obtain ⟨p1, p2, p3⟩ := findP_ok (fnd_now hf)
      have p3 := ba_inj p3
      have hE : Ent s.now k (pAt s.now p).n := (find_ent h.ra h.ua).2 ⟨p, fnd_now hf, rfl⟩
      refine ⟨⟨rch_setN h.ra _ _, h.rb, unq_setN h.ua _ _, h.ub, fun k' n' m a b => ?_⟩, fun k' n' => ?_⟩
      · rcases (ent_setN h.ua p1 p2 p3 n k' n').1 a with ⟨rfl, -⟩ | ⟨-, a⟩
        · exact h.ap _ _ _ hE b
        · exact h.ap _ _ _ a b
      · show Ent (setN s.now p n) k' n' ∨ Ent s.nxt k' n' ↔ _
        rw [ent_setN h.ua p1 p2 p3]
        constructor
        · rintro ((a | a) | a)
          · exact .inl a
          · exact .inr ⟨a.1, .inl a.2⟩
          · exact .inr ⟨fun e => h.ap _ _ _ hE (e ▸ a), .inr a⟩
        · rintro (a | ⟨hne, a | a⟩)
          · exact .inl (.inl a)
          · exact .inl (.inr ⟨hne, a⟩)
          · exact .inr a
    · obtain ⟨f1, f2⟩ := fnd_nxt hf
      obtain ⟨p1, p2, p3⟩ := findP_ok f2
      have p3 := ba_inj p3
      have hE : Ent s.nxt k (pAt s.nxt p).n := (find_ent h.rb h.ub).2 ⟨p, f2, rfl⟩
      refine ⟨⟨h.ra, rch_setN h.rb _ _, h.ua, unq_setN h.ub _ _, fun k' n' m a b => ?_⟩, fun k' n' => ?_⟩
      · rcases (ent_setN h.ub p1 p2 p3 n k' m).1 b with ⟨rfl, -⟩ | ⟨-, b⟩
        · exact h.ap _ _ _ a hE
        · exact h.ap _ _ _ a b
      · show Ent s.now k' n' ∨ Ent (setN s.nxt p n) k' n' ↔ _
        rw [ent_setN h.ub p1 p2 p3]
        constructor
        · rintro (a | a | a)
          · exact .inr ⟨fun e => h.ap _ _ _ (e ▸ a) hE, .inl a⟩
          · exact .inl a
          · exact .inr ⟨a.1, .inr a.2⟩
        · rintro (a | ⟨hne, a | a⟩)
          · exact .inr (.inl a)
          · exact .inl a
          · exact .inr (.inr ⟨hne, a⟩)
theorem Kp.drop {s : St} (h : Kp s) (k : ByteArray) : Kp (dropS s k) ∧ ∀ k' n', Has (dropS s k) k' n' ↔ k' ≠ k ∧ Has s k' n' := by
  unfold dropS
  cases hf : fnd s k (hk k) with
  | none => exact ⟨h, fun k' n' => ⟨fun a => ⟨fun e => h.none hf n' (e ▸ a), a⟩, fun a => a.2⟩⟩
  | some r =>
    obtain ⟨b, p⟩ := r
    cases b
    · obtain ⟨p1, p2, p3⟩ := findP_ok (fnd_now hf)
      have p3 := ba_inj p3
      have hE : Ent s.now k (pAt s.now p).n := (find_ent h.ra h.ua).2 ⟨p, fnd_now hf, rfl⟩
      refine ⟨⟨rch_bury h.ra _, h.rb, unq_bury h.ua _, h.ub, fun k' n' m a b => h.ap _ _ _ ((ent_bury h.ua p1 p2 k' n').1 a).1 b⟩, fun k' n' => ?_⟩
      show Ent (s.now.set p gravePl) k' n' ∨ Ent s.nxt k' n' ↔ _
      rw [ent_bury h.ua p1 p2, p3]
      constructor
      · rintro (a | a)
        · exact ⟨a.2, .inl a.1⟩
        · exact ⟨fun e => h.ap _ _ _ hE (e ▸ a), .inr a⟩
      · rintro ⟨hne, a | a⟩
        · exact .inl ⟨a, hne⟩
        · exact .inr a
    · obtain ⟨f1, f2⟩ := fnd_nxt hf
      obtain ⟨p1, p2, p3⟩ := findP_ok f2
      have p3 := ba_inj p3
      have hE : Ent s.nxt k (pAt s.nxt p).n := (find_ent h.rb h.ub).2 ⟨p, f2, rfl⟩
      refine ⟨⟨h.ra, rch_bury h.rb _, h.ua, unq_bury h.ub _, fun k' n' m a b => h.ap _ _ _ a ((ent_bury h.ub p1 p2 k' m).1 b).1⟩, fun k' n' => ?_⟩
      show Ent s.now k' n' ∨ Ent (s.nxt.set p gravePl) k' n' ↔ _
      rw [ent_bury h.ub p1 p2, p3]
      constructor
      · rintro (a | a)
        · exact ⟨fun e => h.ap _ _ _ (e ▸ a) hE, .inl a⟩
        · exact ⟨a.2, .inr a.1⟩
      · rintro ⟨hne, a | a⟩
        · exact .inl a
        · exact .inr ⟨a, hne⟩
theorem Kp.new : Kp newS := ⟨rch_zero 8, rch_zero 0, unq_zero 8, unq_zero 0, fun k n _ a => absurd a (ent_zero 8 k n)⟩
theorem has_new (k : ByteArray) (n : Int) : ¬ Has newS k n := by
  rintro (a | a)
  · exact ent_zero 8 k n a
  · exact ent_zero 0 k n a
end Go.Proofs.YtmjlhmohglbecaaGreatDoor.Ta
/- Package table: a table beside a map that says the same. No condition. -/
namespace Go.Proofs.YtmjlhmohglbecaaGreatDoor.Ta
open Go.ChangeShapes Go.WideShapes Go.ChangeAt Go.RowKit Go.Maps Go.WideMaps
/-- What a key has. -/
def look (s : St) (k : ByteArray) : Option Int := match fnd s k (hk k) with
  | none => none
  | some _ => some (valS s k)
theorem look_some (s : St) (k : ByteArray) : (fnd s k (hk k)).isSome = (look s k).isSome := by
  unfold look
  cases fnd s k (hk k) <;> rfl
theorem look_val (s : St) (k : ByteArray) : valS s k = (look s k).getD 0 := by
  unfold look
  cases h : fnd s k (hk k)
  · unfold valS; rw [h]; rfl
  · rfl
theorem Kp.look_iff {s : St} (h : Kp s) (k : ByteArray) (n : Int) : look s k = some n ↔ Has s k n := by
  rw [h.has]
  unfold look
  cases hf : fnd s k (hk k)
  · simp
  · simp
theorem look_ext {s s' : St} {k k' : ByteArray} (h : Kp s) (h' : Kp s') (e : ∀ n, Has s' k' n ↔ Has s k n) : look s' k' = look s k := by
  apply Option.ext
  intro n
  rw [h.look_iff, h'.look_iff, e]
theorem look_step {s : St} (h : Kp s) (hO : OkS 0 s) (k : ByteArray) : look (step s) k = look s k := look_ext h (h.step hO).1 ((h.step hO).2 k)
theorem look_put {s : St} (h : Kp s) (hO : OkS 4 s) (hl : lenS s ≤ 511) (k : ByteArray) (n : Int) (k' : ByteArray) : look (putS s k n) k' = if k' = k then some n else look s k' := by
  obtain ⟨p, q⟩ := h.put hO hl k n
  by_cases hkk : k' = k
  · subst hkk
    rw [if_pos rfl]
    exact (p.look_iff _ _).2 ((q _ _).2 (.inl ⟨rfl, rfl⟩))
  · rw [if_neg hkk]
    refine look_ext h p fun m => ?_
    rw [q]
    exact ⟨fun a => by rcases a with a | a; exact absurd a.1 hkk; exact a.2, fun a => .inr ⟨hkk, a⟩⟩
theorem look_drop {s : St} (h : Kp s) (k k' : ByteArray) : look (dropS s k) k' = if k' = k then none else look s k' := by
  obtain ⟨p, q⟩ := h.drop k
  by_cases hkk : k' = k
  · subst hkk
    rw [if_pos rfl]
    cases e : look (dropS s k') k' with
    | none => rfl
    | some n => exact absurd rfl ((q _ _).1 ((p.look_iff _ _).1 e)).1
  · rw [if_neg hkk]
    refine look_ext h p fun m => ?_
    rw [q]
    exact ⟨fun a => a.2, fun a => ⟨hkk, a⟩⟩
theorem look_new (k : ByteArray) : look newS k = none := by
  cases e : look newS k with
  | none => rfl
  | some n => exact absurd ((Kp.new.look_iff _ _).1 e) (has_new k n)
def klit (k : ByteArray) : Lit := .string k.data.toList
theorem klit_ne {a b : ByteArray} (h : a ≠ b) : klit a ≠ klit b := fun e => h (by
  unfold klit at e
  injection e with e
  cases a; cases b
  simpa using e)
theorem klit_key (k : ByteArray) : WideAt.IsKeyLit (klit k) := True.intro
/-- A map that says what the table says. -/
structure KI (s : St) (D : DataW Unit) : Prop where
  kp : Kp s
  ti : Tidy D
  hs : ∀ k, Maps.has D (klit k) = (look s k).isSome
  av : ∀ k, D.atKey (klit k) (.lit (.int .i64 0)) = .lit (.int .i64 ((look s k).getD 0))
  sz : (Maps.size D : Int) = lenS s
theorem KI.step {s : St} {D : DataW Unit} (h : KI s D) (hO : OkS 0 s) : KI (step s) D :=
  ⟨(h.kp.step hO).1, h.ti, fun k => by rw [look_step h.kp hO]; exact h.hs k, fun k => by rw [look_step h.kp hO]; exact h.av k, by rw [step_len hO]; exact h.sz⟩
theorem KI.put {s : St} {D : DataW Unit} (h : KI s D) (hO : OkS 4 s) (hl : lenS s ≤ 511) (k : ByteArray) (hk1 : k.size ≤ 1000) (n : Int) : KI (putS s k n) (D.put (klit k) (.lit (.int .i64 n))) := by
  refine ⟨(h.kp.put hO hl k n).1, h.ti.put (klit_key k) _, fun k' => ?_, fun k' => ?_, ?_⟩
  · rw [look_put h.kp hO hl]
    by_cases hkk : k' = k
    · subst hkk; rw [if_pos rfl, has_put_same h.ti.isMap (klit_key _)]; rfl
    · rw [if_neg hkk, has_put_other (klit_ne hkk)]; exact h.hs k'
  · rw [look_put h.kp hO hl]
    by_cases hkk : k' = k
    · subst hkk; rw [if_pos rfl, atKey_put_same h.ti.isMap (klit_key _)]; rfl
    · rw [if_neg hkk, atKey_put_other (klit_ne hkk)]; exact h.av k'
  · rw [size_put h.ti, (putS_ok hO hl k hk1 n).2, look_some, ← h.hs, ← h.sz]
    cases Maps.has D (klit k) <;> simp
theorem KI.drop {s : St} {D : DataW Unit} (h : KI s D) (hO : OkS 4 s) (k : ByteArray) : KI (dropS s k) (D.del (klit k)) := by
  refine ⟨(h.kp.drop k).1, h.ti.del _, fun k' => ?_, fun k' => ?_, ?_⟩
  · rw [look_drop h.kp]
    by_cases hkk : k' = k
    · subst hkk; rw [if_pos rfl, has_del_same]; rfl
    · rw [if_neg hkk, has_del_other (klit_ne hkk)]; exact h.hs k'
  · rw [look_drop h.kp]
    by_cases hkk : k' = k
    · subst hkk; rw [if_pos rfl, atKey_del_same]; rfl
    · rw [if_neg hkk, atKey_del_other (klit_ne hkk)]; exact h.av k'
  · have e := size_del (k := klit k) h.ti
    rw [(dropS_ok hO k).2, look_some, ← h.hs, ← h.sz, ← e]
    cases Maps.has D (klit k) <;> simp
theorem KI.new : KI newS (.map []) := ⟨Kp.new, tidy_empty, fun k => by rw [look_new]; rfl, fun k => by rw [look_new]; rfl, rfl⟩
theorem RI.mono {P Q : Nat} {s : St} (h : RI P s) (hQ : P ≤ Q) : RI Q s := ⟨h.ok, by have := h.q; omega, fun e => by have := h.r e; omega, h.m⟩
theorem uStr : Tryz.prog.underlying 9 = some .string := Tryz.underlying9
theorem keyed : Keyed Tryz.prog 9 := string_keyed Tryz.underlying9
theorem hkey {k : ByteArray} (h : k.size ≤ maxLen) : keyOf Tryz.prog 9 (.string k) = some (klit k) := keyOf_string_mk Tryz.underlying9 h
/-- The table s at T, the map D at M, all of it at block b0 or above; what lay below in the world o stands. -/
def TM (b0 : Nat) (o : World) (T M : Nat) (w : World) (s : St) (D : DataW Unit) (n : Nat) : Prop :=
  b0 ≤ o.heap.size ∧ w.ownsMap Tryz.prog 9 (plainElem Tryz.prog 2) M n D ∧ b0 ≤ M ∧ 0 < s.now.length ∧ ∃ A B, TAt w T A B s ∧ (∀ j, own T A B s j → b0 ≤ j ∧ j ≠ M) ∧ Fr (fun j => b0 ≤ j) o w
theorem map_same {H : Type} {P : Program} {k : TypeId} {R : Value → Option (DataW H × List MemPlace)} {w w' : World} {b n : Nat} {D : DataW H} (h : w.ownsMap P k R b n D) (e : w'.heap[b]? = w.heap[b]?) : w'.ownsMap P k R b n D := by
  obtain ⟨es, clock, hb, F, hs, hD⟩ := h
  exact ⟨es, clock, e.trans hb, F, hs, hD⟩
theorem TM.moved {b0 : Nat} {o : World} {T M A B n : Nat} {w w' : World} {s s' : St} {D : DataW Unit} (hb : b0 ≤ o.heap.size) (hm : w.ownsMap Tryz.prog 9 (plainElem Tryz.prog 2) M n D) (hM : b0 ≤ M) (hl : 0 < s'.now.length) (hP : ∀ j, own T A B s j → b0 ≤ j ∧ j ≠ M) (hF : Fr (fun j => b0 ≤ j) o w) (h : Moved T A B s w s' w') : TM b0 o T M w' s' D n := by
  obtain ⟨H1, H2, a, b, c⟩ := h
  refine ⟨hb, map_same hm (b.block M hm.lt fun e => (hP M e).2 rfl), hM, hl, H1, H2, a, fun j hj => ?_, hF.trans (b.mono fun j hj => (hP j hj).1)⟩
  rcases c j hj with e | e
  · exact hP j e
  · have := hm.lt
    have := hF.size
    exact ⟨by omega, by omega⟩
theorem TM.put {b0 : Nat} {o : World} {T M n : Nat} {w : World} {s : St} {D : DataW Unit} (h : TM b0 o T M w s D n) (hO : OkS 0 s) (hl : lenS s ≤ 511) (k : ByteArray) (hk1 : k.size ≤ 1000) (v : Int) :
    Calls Tryz.prog 75 #[.pointer (some ⟨T, 0, none⟩), .string k, .int .i64 v] w fun en w' => en = .returned (.bool (fnd (step s) k (hk k)).isNone) ∧ TM b0 o T M w' (putS (step s) k v) D n := by
  obtain ⟨hb, hm, hM, -, A, B, hT, hP, hF⟩ := h
  have hp := (putS_ok (step_ok hO) (by rw [step_len hO]; exact hl) k hk1 v).1.p1.facts
  exact (put_calls w T A B s hT hO hl k hk1 v).mono fun _ _ ⟨a, b⟩ => ⟨a, TM.moved hb hm hM (by omega) hP hF b⟩
theorem TM.drop {b0 : Nat} {o : World} {T M n : Nat} {w : World} {s : St} {D : DataW Unit} (h : TM b0 o T M w s D n) (hO : OkS 0 s) (k : ByteArray) (hk1 : k.size ≤ 1000) :
    Calls Tryz.prog 83 #[.pointer (some ⟨T, 0, none⟩), .string k] w fun en w' => en = .returned (.tuple #[.int .i64 (valS (step s) k), .bool (fnd (step s) k (hk k)).isSome]) ∧ TM b0 o T M w' (dropS (step s) k) D n := by
  obtain ⟨hb, hm, hM, -, A, B, hT, hP, hF⟩ := h
  have hp := (dropS_ok (step_ok hO) k).1.p1.facts
  exact (drop_calls w T A B s hT hO k hk1).mono fun _ _ ⟨a, b⟩ => ⟨a, TM.moved hb hm hM (by omega) hP hF b⟩
theorem TM.get {b0 : Nat} {o : World} {T M n : Nat} {w : World} {s : St} {D : DataW Unit} (h : TM b0 o T M w s D n) (hO : OkS 0 s) (k : ByteArray) (hk1 : k.size ≤ 1000) :
    Calls Tryz.prog 45 #[.pointer (some ⟨T, 0, none⟩), .string k] w fun en w' => en = .returned (.tuple #[.int .i64 (valS (step s) k), .bool (fnd (step s) k (hk k)).isSome]) ∧ TM b0 o T M w' (step s) D n := by
  obtain ⟨hb, hm, hM, -, A, B, hT, hP, hF⟩ := h
  have hp := (step_ok hO).p1.facts
  exact (get_calls w T A B s hT hO k hk1).mono fun _ _ ⟨a, b⟩ => ⟨a, TM.moved hb hm hM (by omega) hP hF b⟩
theorem TM.drew {b0 : Nat} {o : World} {T M n : Nat} {w : World} {s : St} {D : DataW Unit} (h : TM b0 o T M w s D n) (m : Nat) : TM b0 o T M (w.drewN m) s D n := by
  obtain ⟨hb, hm, hM, hl, A, B, hT, hP, hF⟩ := h
  exact ⟨hb, map_same hm rfl, hM, hl, A, B, hT.below (drewN_below w m), hP, hF.trans (Fr.drewN w m)⟩
theorem TM.bel {b0 : Nat} {o : World} {T M n : Nat} {w w' : World} {s : St} {D : DataW Unit} (h : TM b0 o T M w s D n) (hw : Below w.heap.size w w') : TM b0 o T M w' s D n := by
  obtain ⟨hb, hm, hM, hl, A, B, hT, hP, hF⟩ := h
  exact ⟨hb, map_same hm (hw.block M hm.lt), hM, hl, A, B, hT.below hw, hP, hF.trans (Fr.of_below hw)⟩
theorem TM.own {b0 : Nat} {o : World} {T M n : Nat} {w : World} {s : St} {D : DataW Unit} (h : TM b0 o T M w s D n) : w.ownsMap Tryz.prog 9 (plainElem Tryz.prog 2) M n D := h.2.1
theorem TM.len {b0 : Nat} {o : World} {T M n : Nat} {w : World} {s : St} {D : DataW Unit} (h : TM b0 o T M w s D n) {c : Int} (hO : Ok c s) :
    Calls Tryz.prog 11 #[.pointer (some ⟨T, 0, none⟩)] w fun e w' => e = .returned (.int .i64 (lenS s)) ∧ ∃ n, w' = w.drewN n := by
  obtain ⟨-, -, -, -, A, B, hT, -, -⟩ := h
  exact len_calls w T A B s hT hO
theorem TM.written {b0 : Nat} {o : World} {T M n n' : Nat} {w w' : World} {s : St} {D D' : DataW Unit} (h : TM b0 o T M w s D n) (hm' : w'.ownsMap Tryz.prog 9 (plainElem Tryz.prog 2) M n' D') (hg : w.grownBy w' (some M)) : TM b0 o T M w' s D' n' := by
  obtain ⟨hb, hm, hM, hl, A, B, hT, hP, hF⟩ := h
  have hf : Fr (fun j => j = M) w w' := ⟨hg.os, hg.tape, hg.output, hg.size, fun i hi hne => hg.block i hi (fun e => hne (by injection e))⟩
  exact ⟨hb, hm', hM, hl, A, B, hT.fr hl hf (fun e => (hP _ (.inl rfl)).2 e) (fun e => (hP _ (.inr (.inl rfl))).2 e) (fun hn e => (hP _ (.inr (.inr ⟨hn, rfl⟩))).2 e), hP, hF.trans (hf.mono fun j e => by subst e; exact hM)⟩
theorem TM.below {b0 : Nat} {o : World} {T M n : Nat} {w : World} {s : St} {D : DataW Unit} (h : TM b0 o T M w s D n) : Below b0 o w := by
  obtain ⟨hb, -, -, -, A, B, -, -, hF⟩ := h
  exact hF.below hb (fun i hi => by omega)
theorem TM.new {w w' : World} (hT : TAt w' (w.heap.size + 2) (w.heap.size + 1) (w.heap.size + 1) newS) (hb : Below w.heap.size w w') : TM w.heap.size w (w.heap.size + 2) w'.heap.size (w'.alloc (.map #[] 0)) newS (.map []) 0 := by
  have h2 := hT.a.lt
  refine ⟨Nat.le_refl _, World.ownsMap_made _ _ _ _, hb.size, by decide, _, _, hT.below (bbox _), fun j hj => ?_, (Fr.of_below hb).trans (Fr.of_below (bbox _))⟩
  rcases hj with e | e | ⟨e, -⟩
  · omega
  · omega
  · exact absurd e (Nat.lt_irrefl _)
end Go.Proofs.YtmjlhmohglbecaaGreatDoor.Ta
