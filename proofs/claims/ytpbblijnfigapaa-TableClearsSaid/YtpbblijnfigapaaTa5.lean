/- Package table: a plain model of a table, what is always so of it. No program. -/
import Derived.Test.YtpbblijnfigapaaTa4
namespace Go.Proofs.Ytpbblijnfigapaa.Ta
/-- A table: its places now, entries, graves; those it is moved into, entries, graves; how many were moved. -/
structure St where
  now : List Pl
  e1 : Int
  d1 : Int
  nxt : List Pl
  e2 : Int
  d2 : Int
  mv : Nat
def zeroPl : Pl := ⟨0, ⟨#[]⟩, 0⟩
structure PsOk (l : List Pl) (e d : Int) : Prop where
  v : ∀ q, q ∈ l → q.i = 0 ∨ q.i = 1 ∨ q.i = 2
  k : ∀ q, q ∈ l → q.k.size ≤ 1000
  ce : e = (l.countP (fun q => q.i == 1) : Nat)
  cd : d = (l.countP (fun q => q.i == 2) : Nat)
theorem cnt3 : ∀ (l : List Pl), (∀ q, q ∈ l → q.i = 0 ∨ q.i = 1 ∨ q.i = 2) → l.countP (fun q => q.i == 0) + l.countP (fun q => q.i == 1) + l.countP (fun q => q.i == 2) = l.length
  | [], _ => rfl
  | q :: l, h => by
    have ih := cnt3 l (fun x hx => h x (List.mem_cons_of_mem _ hx))
    have hq := h q (List.mem_cons_self ..)
    rw [List.countP_cons, List.countP_cons, List.countP_cons, List.length_cons]
    rcases hq with e | e | e <;> rw [e] <;> simp <;> omega
theorem PsOk.rng {l : List Pl} {e d : Int} (h : PsOk l e d) : 0 ≤ e ∧ 0 ≤ d ∧ e + d ≤ l.length := by
  have h3 := cnt3 l h.v
  have := h.ce
  have := h.cd
  omega
theorem PsOk.ex0 {l : List Pl} {e d : Int} (h : PsOk l e d) (hlt : e + d < l.length) : ∃ z, z < l.length ∧ (pAt l z).i = 0 := by
  have h3 := cnt3 l h.v
  have he := h.ce
  have hd := h.cd
  have hp : 0 < l.countP (fun q => q.i == 0) := by omega
  obtain ⟨q, hq, hz⟩ := List.countP_pos_iff.1 hp
  obtain ⟨z, hz1, hz2⟩ := List.mem_iff_getElem.1 hq
  refine ⟨z, hz1, ?_⟩
  rw [pAt_lt hz1, hz2]
  exact eq_of_beq hz
theorem PsOk.at_v {l : List Pl} {e d : Int} (h : PsOk l e d) {p : Nat} (hp : p < l.length) : (pAt l p).i = 0 ∨ (pAt l p).i = 1 ∨ (pAt l p).i = 2 := by
  rw [pAt_lt hp]; exact h.v _ (List.getElem_mem hp)
theorem PsOk.at_k {l : List Pl} {e d : Int} (h : PsOk l e d) (p : Nat) : (pAt l p).k.size ≤ 1000 := by
  by_cases hp : p < l.length
  · rw [pAt_lt hp]; exact h.k _ (List.getElem_mem hp)
  · unfold pAt
    rw [List.getD_eq_getElem?_getD, List.getElem?_eq_none (by omega)]
    exact Nat.zero_le _
theorem cnt_set (f : Pl → Bool) (l : List Pl) (p : Nat) (hp : p < l.length) (q : Pl) : (l.set p q).countP f + (if f (pAt l p) then 1 else 0) = l.countP f + (if f q then 1 else 0) := by
  have h0 : 0 < l.countP f ∨ f l[p] = false := by
    cases hf : f l[p]
    · exact .inr rfl
    · exact .inl (List.countP_pos_iff.2 ⟨_, List.getElem_mem hp, hf⟩)
  rw [List.countP_set hp, pAt_lt hp]
  cases hf : f l[p]
  · rw [if_neg (by decide), Nat.add_zero, Nat.sub_zero]
  · have h1 : 0 < l.countP f := by
      rcases h0 with h | h
      · exact h
      · rw [hf] at h; cases h
    rw [if_pos rfl]; omega
theorem mem_set {l : List Pl} {p : Nat} {q x : Pl} (h : x ∈ l.set p q) : x ∈ l ∨ x = q := List.mem_or_eq_of_mem_set h
theorem PsOk.set {l : List Pl} {e d e' d' : Int} (h : PsOk l e d) {p : Nat} (hp : p < l.length) (q : Pl) (hv : q.i = 0 ∨ q.i = 1 ∨ q.i = 2) (hk : q.k.size ≤ 1000)
    (he : e' + (if (pAt l p).i == 1 then 1 else 0) = e + (if q.i == 1 then 1 else 0)) (hd : d' + (if (pAt l p).i == 2 then 1 else 0) = d + (if q.i == 2 then 1 else 0)) : PsOk (l.set p q) e' d' := by
  refine ⟨fun x hx => ?_, fun x hx => ?_, ?_, ?_⟩
  · rcases mem_set hx with h1 | rfl
    · exact h.v x h1
    · exact hv
  · rcases mem_set hx with h1 | rfl
    · exact h.k x h1
    · exact hk
  · have h1 := cnt_set (fun q => q.i == 1) l p hp q
    have h2 := h.ce
    revert h1 he
    cases ((pAt l p).i == 1) <;> cases (q.i == 1) <;> simp <;> omega
  · have h1 := cnt_set (fun q => q.i == 2) l p hp q
    have h2 := h.cd
    revert h1 hd
    cases ((pAt l p).i == 2) <;> cases (q.i == 2) <;> simp <;> omega
theorem PsOk.bury {l : List Pl} {e d : Int} (h : PsOk l e d) {p : Nat} (hp : p < l.length) (hf : (pAt l p).i = 1) : PsOk (l.set p gravePl) (e - 1) (d + 1) :=
  h.set hp gravePl (.inr (.inr rfl)) (Nat.zero_le _) (by rw [hf]; show e - 1 + 1 = e + 0; omega) (by rw [hf]; show d + 1 + 0 = d + 1; omega)
theorem PsOk.add {l : List Pl} {e d : Int} (h : PsOk l e d) {p : Nat} (hp : p < l.length) (hf : (pAt l p).i ≠ 1) (k : ByteArray) (hk : k.size ≤ 1000) (n : Int) : PsOk (l.set p ⟨1, k, n⟩) (e + 1) (addD l p d) := by
  refine h.set hp ⟨1, k, n⟩ (.inr (.inl rfl)) hk ?_ ?_
  · rw [show ((pAt l p).i == 1) = false from beq_eq_false_iff_ne.2 hf]; show e + 1 + 0 = e + 1; omega
  · unfold addD graveI
    cases ((pAt l p).i == 2)
    · show d + 0 = d + 0; rfl
    · show d - 1 + 1 = d + 0; omega
theorem PsOk.setn {l : List Pl} {e d : Int} (h : PsOk l e d) {p : Nat} (hp : p < l.length) (n : Int) : PsOk (l.set p ⟨(pAt l p).i, (pAt l p).k, n⟩) e d :=
  h.set hp _ (h.at_v hp) (h.at_k p) rfl rfl
theorem PsOk.nil : PsOk [] 0 0 := ⟨fun _ h => (List.not_mem_nil h).elim, fun _ h => (List.not_mem_nil h).elim, rfl, rfl⟩
theorem PsOk.fresh (n : Nat) : PsOk (List.replicate n zeroPl) 0 0 := by
  refine ⟨fun q h => ?_, fun q h => ?_, ?_, ?_⟩
  · rw [List.eq_of_mem_replicate h]; exact .inl rfl
  · rw [List.eq_of_mem_replicate h]; exact Nat.zero_le _
  · rw [List.countP_replicate]; rfl
  · rw [List.countP_replicate]; rfl
theorem addI_ok {l : List Pl} {h : Nat} (hz : ∃ z, z < l.length ∧ (pAt l z).i = 0) : addI l h < l.length ∧ (pAt l (addI l h)).i ≠ 1 := by
  obtain ⟨z, hz1, hz2⟩ := hz
  obtain ⟨t, ht, rfl⟩ := pos_onto h hz1
  have hl : 0 < l.length := by omega
  unfold addI addT
  cases hf : (List.range l.length).find? fun t => !((pAt l (pos l.length h t)).i == 1) with
  | none =>
    have := List.find?_eq_none.1 hf t (List.mem_range.2 ht)
    rw [hz2] at this
    exact absurd rfl this
  | some t2 =>
    have h1 := List.find?_some hf
    refine ⟨pos_lt hl _ _, fun e => ?_⟩
    rw [show (some t2).getD 0 = t2 from rfl] at e
    rw [e] at h1
    cases h1
theorem findP_ok {l : List Pl} {k : ByteArray} {h p : Nat} (hf : findP l k h = some p) : p < l.length ∧ (pAt l p).i = 1 ∧ (pAt l p).k.toList = k.toList := by
  unfold findP at hf
  cases hT : findT l k h with
  | none => rw [hT] at hf; cases hf
  | some t =>
    rw [hT] at hf
    have h1 : stp l k (pos l.length h t) = true := List.find?_some (p := fun t => stp l k (pos l.length h t)) hT
    have h2 : t < l.length := List.mem_range.1 (List.mem_of_find?_eq_some hT)
    have hf : (if (pAt l (pos l.length h t)).i == 0 then none else some (pos l.length h t)) = some p := hf
    unfold stp at h1
    cases h0 : ((pAt l (pos l.length h t)).i == 0)
    · rw [h0] at hf h1
      have hf : some (pos l.length h t) = some p := hf
      injection hf with hf
      subst hf
      rw [Bool.false_or, Bool.and_eq_true] at h1
      exact ⟨pos_lt (by omega) _ _, eq_of_beq h1.1, eq_of_beq h1.2⟩
    · rw [h0] at hf; cases hf
def Pow (n : Nat) : Prop := ∃ k, n = 8 * 2 ^ k
theorem Pow.facts {n : Nat} (h : Pow n) : 8 ≤ n ∧ n % 8 = 0 := by
  obtain ⟨k, rfl⟩ := h
  have := Nat.two_pow_pos k
  omega
theorem Pow.twice {n : Nat} (h : Pow n) : Pow (n * 2) := by
  obtain ⟨k, rfl⟩ := h
  exact ⟨k + 1, by rw [Nat.pow_succ]; omega⟩
theorem Pow.half {n : Nat} (h : Pow n) : Pow (max 8 (n / 2)) := by
  obtain ⟨k, rfl⟩ := h
  cases k with
  | zero => exact ⟨0, rfl⟩
  | succ k =>
    refine ⟨k, ?_⟩
    have := Nat.two_pow_pos k
    rw [Nat.pow_succ]
    omega
/-- What is always so of a table; c: how much room is to be had besides. -/
structure Ok (c : Int) (s : St) : Prop where
  a : PsOk s.now s.e1 s.d1
  b : PsOk s.nxt s.e2 s.d2
  p1 : Pow s.now.length
  p2 : 0 < s.nxt.length → Pow s.nxt.length
  b1 : s.now.length ≤ 4096
  b2 : s.nxt.length ≤ 4096
  r1 : 4 * (s.e1 + s.d1) ≤ 3 * s.now.length
  m0 : s.nxt.length = 0 → s.mv = 0
  m1 : 0 < s.nxt.length → 4 * (s.e1 + s.e2 + s.d2) + (s.now.length - s.mv) + c ≤ 3 * s.nxt.length
  ml : s.mv ≤ s.now.length
  mf : ∀ i, i < s.mv → (pAt s.now i).i ≠ 1
structure OkS (c : Int) (s : St) : Prop extends Ok c s where
  m4 : s.mv % 4 = 0
  mn : 0 < s.nxt.length → s.mv < s.now.length
theorem Ok.mono {c c' : Int} {s : St} (h : Ok c s) (hc : c' ≤ c) : Ok c' s := { h with m1 := fun hn => by have := h.m1 hn; omega }
theorem Ok.now0 {c : Int} {s : St} (h : Ok c s) : ∃ z, z < s.now.length ∧ (pAt s.now z).i = 0 := h.a.ex0 (by have := h.r1; have := h.p1.facts; omega)
theorem Ok.nxt0 {s : St} {c : Int} (h : Ok c s) (hc : 0 ≤ c) (hn : 0 < s.nxt.length) : ∃ z, z < s.nxt.length ∧ (pAt s.nxt z).i = 0 := h.b.ex0 (by have := h.m1 hn; have := h.ml; have := h.a.rng; omega)
/-- One place is moved. -/
def mv1 (s : St) : St :=
  if (pAt s.now s.mv).i == 1 then
    { now := s.now.set s.mv gravePl, e1 := s.e1 - 1, d1 := s.d1 + 1
      nxt := s.nxt.set (addI s.nxt (hk (pAt s.now s.mv).k)) ⟨1, (pAt s.now s.mv).k, (pAt s.now s.mv).n⟩, e2 := s.e2 + 1, d2 := addD s.nxt (addI s.nxt (hk (pAt s.now s.mv).k)) s.d2, mv := s.mv + 1 }
  else { s with mv := s.mv + 1 }
theorem pAt_set_ne {l : List Pl} {p j : Nat} {q : Pl} (h : j ≠ p) : pAt (l.set p q) j = pAt l j := by
  unfold pAt
  rw [List.getD_eq_getElem?_getD, List.getD_eq_getElem?_getD, List.getElem?_set_ne (fun e => h e.symm)]
theorem pAt_set_same {l : List Pl} {p : Nat} {q : Pl} (h : p < l.length) : pAt (l.set p q) p = q := by
  rw [pAt_lt (by rw [List.length_set]; exact h), List.getElem_set_self]
theorem addD_le (l : List Pl) (p : Nat) (d : Int) : addD l p d ≤ d := by
  unfold addD
  cases graveI l p
  · exact Int.le_refl _
  · show d - 1 ≤ d; omega
theorem mv1_len (s : St) : (mv1 s).now.length = s.now.length ∧ (mv1 s).nxt.length = s.nxt.length ∧ (mv1 s).mv = s.mv + 1 := by
  unfold mv1
  cases (pAt s.now s.mv).i == 1
  · exact ⟨rfl, rfl, rfl⟩
  · exact ⟨List.length_set, List.length_set, rfl⟩
theorem mv1_ok {c : Int} {s : St} (h : Ok c s) (hc : 0 ≤ c) (hn : 0 < s.nxt.length) (hm : s.mv < s.now.length) : Ok (c + 1) (mv1 s) := by
  obtain ⟨z1, z2⟩ := addI_ok (h := hk (pAt s.now s.mv).k) (h.nxt0 hc hn)
  unfold mv1
  cases hf : (pAt s.now s.mv).i == 1
  · have hf : (pAt s.now s.mv).i ≠ 1 := beq_eq_false_iff_ne.1 hf
    exact { a := h.a, b := h.b, p1 := h.p1, p2 := h.p2, b1 := h.b1, b2 := h.b2, r1 := h.r1, m0 := fun e => absurd hn (by show ¬ (0 < s.nxt.length); have e : s.nxt.length = 0 := e; omega), m1 := fun _ => (by
      have := h.m1 hn
      show 4 * (s.e1 + s.e2 + s.d2) + ((s.now.length : Int) - (s.mv + 1 : Nat)) + (c + 1) ≤ 3 * s.nxt.length
      omega), ml := hm, mf := fun i hi => (by
      by_cases h2 : i < s.mv
      · exact h.mf i h2
      · obtain rfl : i = s.mv := (by have hi : i < s.mv + 1 := hi; omega)
        exact hf) }
  · have hf : (pAt s.now s.mv).i = 1 := eq_of_beq hf
    refine { a := h.a.bury hm hf, b := h.b.add z1 z2 _ (h.a.at_k _) _, p1 := (by show Pow (s.now.set _ _).length; rw [List.length_set]; exact h.p1), p2 := fun _ => (by show Pow (s.nxt.set _ _).length; rw [List.length_set]; exact h.p2 hn), b1 := (by show (s.now.set _ _).length ≤ _; rw [List.length_set]; exact h.b1), b2 := (by show (s.nxt.set _ _).length ≤ _; rw [List.length_set]; exact h.b2), r1 := ?_, m0 := fun e => ?_, m1 := fun _ => ?_, ml := ?_, mf := fun i hi => ?_ }
    · have := h.r1
      show 4 * (s.e1 - 1 + (s.d1 + 1)) ≤ 3 * ((s.now.set _ _).length : Int)
      rw [List.length_set]; omega
    · have e : (s.nxt.set _ _).length = 0 := e
      rw [List.length_set] at e
      omega
    · have := h.m1 hn
      have := addD_le s.nxt (addI s.nxt (hk (pAt s.now s.mv).k)) s.d2
      show 4 * (s.e1 - 1 + (s.e2 + 1) + addD _ _ _) + (((s.now.set _ _).length : Int) - (s.mv + 1 : Nat)) + (c + 1) ≤ 3 * ((s.nxt.set _ _).length : Int)
      rw [List.length_set, List.length_set]; omega
    · show s.mv + 1 ≤ (s.now.set _ _).length
      rw [List.length_set]; exact hm
    · show (pAt (s.now.set _ _) i).i ≠ 1
      by_cases h2 : i = s.mv
      · subst h2; rw [pAt_set_same hm]; show (2 : Int) ≠ 1; omega
      · rw [pAt_set_ne h2]; exact h.mf i (by have hi : i < s.mv + 1 := hi; omega)
def fin (s : St) : St := if s.mv = s.now.length then ⟨s.nxt, s.e2, s.d2, [], 0, 0, 0⟩ else s
def step (s : St) : St := if s.nxt.length = 0 then s else fin (mv1 (mv1 (mv1 (mv1 s))))
theorem step_ok {s : St} (h : OkS 0 s) : OkS 4 (step s) := by
  unfold step
  by_cases hn : s.nxt.length = 0
  · rw [if_pos hn]
    exact { h with m1 := fun h2 => absurd h2 (by omega) }
  · rw [if_neg hn]
    have hn : 0 < s.nxt.length := by omega
    have hm := h.mn hn
    have h8 := h.p1.facts
    have h4 := h.m4
    obtain ⟨x1, y1, z1⟩ := mv1_len s
    obtain ⟨x2, y2, z2⟩ := mv1_len (mv1 s)
    obtain ⟨x3, y3, z3⟩ := mv1_len (mv1 (mv1 s))
    obtain ⟨x4, y4, z4⟩ := mv1_len (mv1 (mv1 (mv1 s)))
    have k1 := mv1_ok h.toOk (Int.le_refl _) hn hm
    have k2 := mv1_ok k1 (by omega) (by omega) (by omega)
    have k3 := mv1_ok k2 (by omega) (by omega) (by omega)
    have k4 := mv1_ok k3 (by omega) (by omega) (by omega)
    generalize hs : mv1 (mv1 (mv1 (mv1 s))) = s' at *
    unfold fin
    by_cases he : s'.mv = s'.now.length
    · rw [if_pos he]
      have hr := k4.m1 (by omega)
      have ha := k4.a.rng
      exact { a := k4.b, b := PsOk.nil, p1 := k4.p2 (by omega), p2 := fun h => absurd h (Nat.lt_irrefl _), b1 := k4.b2, b2 := Nat.zero_le _, r1 := (by show 4 * (s'.e2 + s'.d2) ≤ 3 * (s'.nxt.length : Int); omega), m0 := fun _ => rfl, m1 := fun h => absurd h (Nat.lt_irrefl _), ml := Nat.zero_le _, mf := fun i hi => absurd hi (Nat.not_lt_zero _), m4 := rfl, mn := fun h => absurd h (Nat.lt_irrefl _) }
    · rw [if_neg he]
      have := k4.ml
      exact { k4.mono (by omega) with m4 := (by omega), mn := fun _ => (by omega) }
end Go.Proofs.Ytpbblijnfigapaa.Ta
