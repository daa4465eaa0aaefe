/- Package table: a plain model of a table, what is always so of it. No program. -/
import Derived.Test.YtmjlhmohglbecaaGreatDoorTaA
namespace Go.Proofs.YtmjlhmohglbecaaGreatDoor.Ta
/-- A table: its places now, entries, graves; those it is moved into, entries, graves; how many were moved. -/
structure St where
  now : List Pl
  e1 : Int
  d1 : Int
  nxt : List Pl
  e2 : Int
  d2 : Int
  mv : Nat
def zeroPl : Pl := ⟨0, ⟨#[]⟩, 0⟩
structure PsOk (l : List Pl) (e d : Int) : Prop where
  v : ∀ q, q ∈ l → q.i = 0 ∨ q.i = 1 ∨ q.i = 2
  k : ∀ q, q ∈ l → q.k.size ≤ 1000
  ce : e = (l.countP (fun q => q.i == 1) : Nat)
  cd : d = (l.countP (fun q => q.i == 2) : Nat)
theorem cnt3 : ∀ (l : List Pl), (∀ q, q ∈ l → q.i = 0 ∨ q.i = 1 ∨ q.i = 2) → l.countP (fun q => q.i == 0) + l.countP (fun q => q.i == 1) + l.countP (fun q => q.i == 2) = l.length
  | [], _ => rfl
  | q :: l, h => by
    have ih := cnt3 l (fun x hx => h x (List.mem_cons_of_mem _ hx))
    have hq := h q (List.mem_cons_self ..)
    rw [List.countP_cons, List.countP_cons, List.countP_cons, List.length_cons]
    rcases hq with e | e | e <;> rw [e] <;> simp <;> omega
theorem PsOk.rng {l : List Pl} {e d : Int} (h : PsOk l e d) : 0 ≤ e ∧ 0 ≤ d ∧ e + d ≤ l.length := by
  have h3 := cnt3 l h.v
  have := h.ce
  have := h.cd
  omega
theorem PsOk.ex0 {l : List Pl} {e d : Int} (h : PsOk l e d) (hlt : e + d < l.length) : ∃ z, z < l.length ∧ (pAt l z).i = 0 := by
  have h3 := cnt3 l h.v
  have he := h.ce
  have hd := h.cd
  have hp : 0 < l.countP (fun q => q.i == 0) := by omega
  obtain ⟨q, hq, hz⟩ := List.countP_pos_iff.1 hp
  obtain ⟨z, hz1, hz2⟩ := List.mem_iff_getElem.1 hq
  refine ⟨z, hz1, ?_⟩
  rw [pAt_lt hz1, hz2]
  exact eq_of_beq hz
theorem PsOk.at_v {l : List Pl} {e d : Int} (h : PsOk l e d) {p : Nat} (hp : p < l.length) : (pAt l p).i = 0 ∨ (pAt l p).i = 1 ∨ (pAt l p).i = 2 := by
  rw [pAt_lt hp]; exact h.v _ (List.getElem_mem hp)
theorem PsOk.at_k {l : List Pl} {e d : Int} (h : PsOk l e d) (p : Nat) : (pAt l p).k.size ≤ 1000 := by
  by_cases hp : p < l.length
  · rw [pAt_lt hp]; exact h.k _ (List.getElem_mem hp)
  · unfold pAt
    rw [List.getD_eq_getElem?_getD, List.getElem?_eq_none (by omega)]
    exact Nat.zero_le _
theorem cnt_set (f : Pl → Bool) (l : List Pl) (p : Nat) (hp : p < l.length) (q : Pl) : (l.set p q).countP f + (if f (pAt l p) then 1 else 0) = l.countP f + (if f q then 1 else 0) := by
  have h0 : 0 < l.countP f ∨ f l[p] = false := by
    cases hf : f l[p]
    · exact .inr rfl
    · exact .inl (List.countP_pos_iff.2 ⟨_, List.getElem_mem hp, hf⟩)
  rw [List.countP_set hp, pAt_lt hp]
  cases hf : f l[p]
  · rw [if_neg (by decide), Nat.add_zero, Nat.sub_zero]
  · have h1 : 0 < l.countP f := by
      rcases h0 with h | h
      · exact h
      · rw [hf] at h; cases h
    rw [if_pos rfl]; omega
theorem mem_set {l : List Pl} {p : Nat} {q x : Pl} (h : x ∈ l.set p q) : x ∈ l ∨ x = q := List.mem_or_eq_of_mem_set h
theorem PsOk.set {l : List Pl} {e d e' d' : Int} (h : PsOk l e d) {p : Nat} (hp : p < l.length) (q : Pl) (hv : q.i = 0 ∨ q.i = 1 ∨ q.i = 2) (hk : q.k.size ≤ 1000)
    (he : e' + (if (pAt l p).i == 1 then 1 else 0) = e + (if q.i == 1 then 1 else 0)) (hd : d' + (if (pAt l p).i == 2 then 1 else 0) = d + (if q.i == 2 then 1 else 0)) : PsOk (l.set p q) e' d' := by
  refine ⟨fun x hx => ?_, fun x hx => ?_, ?_, ?_⟩
  · rcases mem_set hx with h1 | rfl
    · exact h.v x h1
    · exact hv
  · rcases mem_set hx with h1 | rfl
    · exact h.k x h1
    · exact hk
  · have h1 := cnt_set (fun q => q.i == 1) l p hp q
    have h2 := h.ce
    revert h1 he
    cases ((pAt l p).i == 1) <;> cases (q.i == 1) <;> simp <;> omega
  · have h1 := cnt_set (fun q => q.i == 2) l p hp q
    have h2 := h.cd
    revert h1 hd
    cases ((pAt l p).i == 2) <;> cases (q.i == 2) <;> simp <;> omega
theorem PsOk.bury {l : List Pl} {e d : Int} (h : PsOk l e d) {p : Nat} (hp : p < l.length) (hf : (pAt l p).i = 1) : PsOk (l.set p gravePl) (e - 1) (d + 1) :=
  h.set hp gravePl (.inr (.inr rfl)) (Nat.zero_le _) (by rw [hf]; show e - 1 + 1 = e + 0; omega) (by rw [hf]; show d + 1 + 0 = d + 1; omega)
theorem PsOk.add {l : List Pl} {e d : Int} (h : PsOk l e d) {p : Nat} (hp : p < l.length) (hf : (pAt l p).i ≠ 1) (k : ByteArray) (hk : k.size ≤ 1000) (n : Int) : PsOk (l.set p ⟨1, k, n⟩) (e + 1) (addD l p d) := by
  refine h.set hp ⟨1, k, n⟩ (.inr (.inl rfl)) hk ?_ ?_
  · rw [show ((pAt l p).i == 1) = false from beq_eq_false_iff_ne.2 hf]; show e + 1 + 0 = e + 1; omega
  · unfold addD graveI
    cases ((pAt l p).i == 2)
    · show d + 0 = d + 0; rfl
    · show d - 1 + 1 = d + 0; omega
theorem PsOk.setn {l : List Pl} {e d : Int} (h : PsOk l e d) {p : Nat} (hp : p < l.length) (n : Int) : PsOk (l.set p ⟨(pAt l p).i, (pAt l p).k, n⟩) e d :=
  h.set hp _ (h.at_v hp) (h.at_k p) rfl rfl
theorem PsOk.nil : PsOk [] 0 0 := ⟨fun _ h => (List.not_mem_nil h).elim, fun _ h => (List.not_mem_nil h).elim, rfl, rfl⟩
theorem PsOk.fresh (n : Nat) : PsOk (List.replicate n zeroPl) 0 0 := by
  refine ⟨fun q h => ?_, fun q h => ?_, ?_, ?_⟩
  · rw [List.eq_of_mem_replicate h]; exact .inl rfl
  · rw [List.eq_of_mem_replicate h]; exact Nat.zero_le _
  · rw [List.countP_replicate]; rfl
  · rw [List.countP_replicate]; rfl
theorem addI_ok {l : List Pl} {h : Nat} (hz : ∃ z, z < l.length ∧ (pAt l z).i = 0) : addI l h < l.length ∧ (pAt l (addI l h)).i ≠ 1 := by
  obtain ⟨z, hz1, hz2⟩ := hz
  obtain ⟨t, ht, rfl⟩ := pos_onto h hz1
  have hl : 0 < l.length := by omega
  unfold addI addT
  cases hf : (List.range l.length).find? fun t => !((pAt l (pos l.length h t)).i == 1) with
  | none =>
    have := List.find?_eq_none.1 hf t (List.mem_range.2 ht)
    rw [hz2] at this
    exact absurd rfl this
  | some t2 =>
    have h1 := List.find?_some hf
    refine ⟨pos_lt hl _ _, fun e => ?_⟩
    rw [show (some t2).getD 0 = t2 from rfl] at e
    rw [e] at h1
    cases h1
theorem findP_ok {l : List Pl} {k : ByteArray} {h p : Nat} (hf : findP l k h = some p) : p < l.length ∧ (pAt l p).i = 1 ∧ (pAt l p).k.toList = k.toList := by
  unfold findP at hf
  cases hT : findT l k h with
  | none => rw [hT] at hf; cases hf
  | some t =>
    rw [hT] at hf
    have h1 : stp l k (pos l.length h t) = true := List.find?_some (p := fun t => stp l k (pos l.length h t)) hT
    have h2 : t < l.length := List.mem_range.1 (List.mem_of_find?_eq_some hT)
    have hf : (if (pAt l (pos l.length h t)).i == 0 then none else some (pos l.length h t)) = some p := hf
    unfold stp at h1
    cases h0 : ((pAt l (pos l.length h t)).i == 0)
    · rw [h0] at hf h1
      have hf : some (pos l.length h t) = some p := hf
      injection hf with hf
      subst hf
      rw [Bool.false_or, Bool.and_eq_true] at h1
      exact ⟨pos_lt (by omega) _ _, eq_of_beq h1.1, eq_of_beq h1.2⟩
    · rw [h0] at hf; cases hf
def Pow (n : Nat) : Prop := ∃ k, n = 8 * 2 ^ k
theorem Pow.facts {n : Nat} (h : Pow n) : 8 ≤ n ∧ n % 8 = 0 := by
  obtain ⟨k, rfl⟩ := h
  have := Nat.two_pow_pos k
  omega
theorem Pow.twice {n : Nat} (h : Pow n) : Pow (n * 2) := by
  obtain ⟨k, rfl⟩ := h
  exact ⟨k + 1, by rw [Nat.pow_succ]; omega⟩
theorem Pow.half {n : Nat} (h : Pow n) : Pow (max 8 (n / 2)) := by
  obtain ⟨k, rfl⟩ := h
  cases k with
  | zero => exact ⟨0, rfl⟩
  | succ k =>
    refine ⟨k, ?_⟩
    have := Nat.two_pow_pos k
    rw [Nat.pow_succ]
    omega
/-- What is always so of a table; c: how much room is to be had besides. -/
structure Ok (c : Int) (s : St) : Prop where
  a : PsOk s.now s.e1 s.d1
  b : PsOk s.nxt s.e2 s.d2
  p1 : Pow s.now.length
  p2 : 0 < s.nxt.length → Pow s.nxt.length
  b1 : s.now.length ≤ 4096
  b2 : s.nxt.length ≤ 4096
  r1 : 4 * (s.e1 + s.d1) ≤ 3 * s.now.length
  m0 : s.nxt.length = 0 → s.mv = 0
  m1 : 0 < s.nxt.length → 4 * (s.e1 + s.e2 + s.d2) + (s.now.length - s.mv) + c ≤ 3 * s.nxt.length
  ml : s.mv ≤ s.now.length
  mf : ∀ i, i < s.mv → (pAt s.now i).i ≠ 1
structure OkS (c : Int) (s : St) : Prop extends Ok c s where
  m4 : s.mv % 4 = 0
  mn : 0 < s.nxt.length → s.mv < s.now.length
theorem Ok.mono {c c' : Int} {s : St} (h : Ok c s) (hc : c' ≤ c) : Ok c' s := { h with m1 := fun hn => by have := h.m1 hn; omega }
theorem Ok.now0 {c : Int} {s : St} (h : Ok c s) : ∃ z, z < s.now.length ∧ (pAt s.now z).i = 0 := h.a.ex0 (by have := h.r1; have := h.p1.facts; omega)
theorem Ok.nxt0 {s : St} {c : Int} (h : Ok c s) (hc : 0 ≤ c) (hn : 0 < s.nxt.length) : ∃ z, z < s.nxt.length ∧ (pAt s.nxt z).i = 0 := h.b.ex0 (by have := h.m1 hn; have := h.ml; have := h.a.rng; omega)
/-- One place is moved. -/
def mv1 (s : St) : St :=
  if (pAt s.now s.mv).i == 1 then
    { now := s.now.set s.mv gravePl, e1 := s.e1 - 1, d1 := s.d1 + 1
      nxt := s.nxt.set (addI s.nxt (hk (pAt s.now s.mv).k)) ⟨1, (pAt s.now s.mv).k, (pAt s.now s.mv).n⟩, e2 := s.e2 + 1, d2 := addD s.nxt (addI s.nxt (hk (pAt s.now s.mv).k)) s.d2, mv := s.mv + 1 }
  else { s with mv := s.mv + 1 }
theorem pAt_set_ne {l : List Pl} {p j : Nat} {q : Pl} (h : j ≠ p) : pAt (l.set p q) j = pAt l j := by
  unfold pAt
  rw [List.getD_eq_getElem?_getD, List.getD_eq_getElem?_getD, List.getElem?_set_ne (fun e => h e.symm)]
theorem pAt_set_same {l : List Pl} {p : Nat} {q : Pl} (h : p < l.length) : pAt (l.set p q) p = q := by
  rw [pAt_lt (by rw [List.length_set]; exact h), List.getElem_set_self]
theorem addD_le (l : List Pl) (p : Nat) (d : Int) : addD l p d ≤ d := by
  unfold addD
  cases graveI l p
  · exact Int.le_refl _
  · show d - 1 ≤ d; omega
theorem mv1_len (s : St) : (mv1 s).now.length = s.now.length ∧ (mv1 s).nxt.length = s.nxt.length ∧ (mv1 s).mv = s.mv + 1 := by
  unfold mv1
  cases (pAt s.now s.mv).i == 1
  · exact ⟨rfl, rfl, rfl⟩
  · exact ⟨List.length_set, List.length_set, rfl⟩
theorem mv1_ok {c : Int} {s : St} (h : Ok c s) (hc : 0 ≤ c) (hn : 0 < s.nxt.length) (hm : s.mv < s.now.length) : Ok (c + 1) (mv1 s) := by
  obtain ⟨z1, z2⟩ := addI_ok (h := hk (pAt s.now s.mv).k) (h.nxt0 hc hn)
  unfold mv1
  cases hf : (pAt s.now s.mv).i == 1
  · have hf : (pAt s.now s.mv).i ≠ 1 := beq_eq_false_iff_ne.1 hf
    exact { a := h.a, b := h.b, p1 := h.p1, p2 := h.p2, b1 := h.b1, b2 := h.b2, r1 := h.r1, m0 := fun e => absurd hn (by show ¬ (0 < s.nxt.length); have e : s.nxt.length = 0 := e; omega), m1 := fun _ => (by
      have := h.m1 hn
      show 4 * (s.e1 + s.e2 + s.d2) + ((s.now.length : Int) - (s.mv + 1 : Nat)) + (c + 1) ≤ 3 * s.nxt.length
      omega), ml := hm, mf := fun i hi => (by
      by_cases h2 : i < s.mv
      · exact h.mf i h2
      · obtain rfl : i = s.mv := (by have hi : i < s.mv + 1 := hi; omega)
        exact hf) }
  · have hf : (pAt s.now s.mv).i = 1 := eq_of_beq hf
    refine { a := h.a.bury hm hf, b := h.b.add z1 z2 _ (h.a.at_k _) _, p1 := (by show Pow (s.now.set _ _).length; rw [List.length_set]; exact h.p1), p2 := fun _ => (by show Pow (s.nxt.set _ _).length; rw [List.length_set]; exact h.p2 hn), b1 := (by show (s.now.set _ _).length ≤ _; rw [List.length_set]; exact h.b1), b2 := (by show (s.nxt.set _ _).length ≤ _; rw [List.length_set]; exact h.b2), r1 := ?_, m0 := fun e => ?_, m1 := fun _ => ?_, ml := ?_, mf := fun i hi => ?_ }
    · have := h.r1
      show 4 * (s.e1 - 1 + (s.d1 + 1)) ≤ 3 * ((s.now.set _ _).length : Int)
      rw [List.length_set]; omega
    · have e : (s.nxt.set _ _).length = 0 := e
      rw [List.length_set] at e
      omega
    · have := h.m1 hn
      have := addD_le s.nxt (addI s.nxt (hk (pAt s.now s.mv).k)) s.d2
      show 4 * (s.e1 - 1 + (s.e2 + 1) + addD _ _ _) + (((s.now.set _ _).length : Int) - (s.mv + 1 : Nat)) + (c + 1) ≤ 3 * ((s.nxt.set _ _).length : Int)
      rw [List.length_set, List.length_set]; omega
    · show s.mv + 1 ≤ (s.now.set _ _).length
      rw [List.length_set]; exact hm
    · show (pAt (s.now.set _ _) i).i ≠ 1
      by_cases h2 : i = s.mv
      · subst h2; rw [pAt_set_same hm]; show (2 : Int) ≠ 1; omega
      · rw [pAt_set_ne h2]; exact h.mf i (by have hi : i < s.mv + 1 := hi; omega)
def fin (s : St) : St := if s.mv = s.now.length then ⟨s.nxt, s.e2, s.d2, [], 0, 0, 0⟩ else s
def step (s : St) : St := if s.nxt.length = 0 then s else fin (mv1 (mv1 (mv1 (mv1 s))))
theorem step_ok {s : St} (h : OkS 0 s) : OkS 4 (step s) := by
  unfold step
  by_cases hn : s.nxt.length = 0
  · rw [if_pos hn]
    exact { h with m1 := fun h2 => absurd h2 (by omega) }
  · rw [if_neg hn]
    have hn : 0 < s.nxt.length := by omega
    have hm := h.mn hn
    have h8 := h.p1.facts
    have h4 := h.m4
    obtain ⟨x1, y1, z1⟩ := mv1_len s
    obtain ⟨x2, y2, z2⟩ := mv1_len (mv1 s)
    obtain ⟨x3, y3, z3⟩ := mv1_len (mv1 (mv1 s))
    obtain ⟨x4, y4, z4⟩ := mv1_len (mv1 (mv1 (mv1 s)))
    have k1 := mv1_ok h.toOk (Int.le_refl _) hn hm
    have k2 := mv1_ok k1 (by omega) (by omega) (by omega)
    have k3 := mv1_ok k2 (by omega) (by omega) (by omega)
    have k4 := mv1_ok k3 (by omega) (by omega) (by omega)
    generalize hs : mv1 (mv1 (mv1 (mv1 s))) = s' at *
    unfold fin
    by_cases he : s'.mv = s'.now.length
    · rw [if_pos he]
      have hr := k4.m1 (by omega)
      have ha := k4.a.rng
      exact { a := k4.b, b := PsOk.nil, p1 := k4.p2 (by omega), p2 := fun h => absurd h (Nat.lt_irrefl _), b1 := k4.b2, b2 := Nat.zero_le _, r1 := (by show 4 * (s'.e2 + s'.d2) ≤ 3 * (s'.nxt.length : Int); omega), m0 := fun _ => rfl, m1 := fun h => absurd h (Nat.lt_irrefl _), ml := Nat.zero_le _, mf := fun i hi => absurd hi (Nat.not_lt_zero _), m4 := rfl, mn := fun h => absurd h (Nat.lt_irrefl _) }
    · rw [if_neg he]
      have := k4.ml
      exact { k4.mono (by omega) with m4 := (by omega), mn := fun _ => (by omega) }
end Go.Proofs.YtmjlhmohglbecaaGreatDoor.Ta
/- Package table: a plain model of Put, Drop, Get, Clear; what stays so. No program. -/
namespace Go.Proofs.YtmjlhmohglbecaaGreatDoor.Ta
def lenS (s : St) : Int := s.e1 + s.e2
/-- The least room from a room on, by doubling, of which a quarter is more than len. -/
def nr : Nat → Nat → Nat → Nat
  | 0, room, _ => room
  | f + 1, room, len => if room / 4 ≤ len then nr f (room * 2) len else room
def nextR (s : St) : Nat := nr 60 (max 8 (s.now.length / 2)) (lenS s).toNat
theorem nr_ok : ∀ (f room len : Nat), Pow room → room ≤ 4096 → len ≤ 511 → 4 * len + 3 < room * 2 ^ f → Pow (nr f room len) ∧ len < nr f room len / 4 ∧ room ≤ nr f room len ∧ nr f room len ≤ 4096
  | 0, room, len, h, h1, _, h3 => by
    show Pow room ∧ len < room / 4 ∧ room ≤ room ∧ room ≤ 4096
    rw [Nat.pow_zero, Nat.mul_one] at h3
    exact ⟨h, by omega, Nat.le_refl _, h1⟩
  | f + 1, room, len, h, h1, h2, h3 => by
    unfold nr
    by_cases hc : room / 4 ≤ len
    · rw [if_pos hc]
      obtain ⟨a, b, c, d⟩ := nr_ok f (room * 2) len h.twice (by omega) h2 (by rw [Nat.pow_succ] at h3; rw [Nat.mul_assoc, Nat.mul_comm 2]; exact h3)
      exact ⟨a, b, by omega, d⟩
    · rw [if_neg hc]
      exact ⟨h, by omega, Nat.le_refl _, h1⟩
theorem nextR_ok {c : Int} {s : St} (h : Ok c s) (hl : lenS s ≤ 511) : Pow (nextR s) ∧ lenS s < (nextR s / 4 : Nat) ∧ s.now.length / 2 ≤ nextR s ∧ nextR s ≤ 4096 := by
  have ha := h.a.rng
  have hb := h.b.rng
  have hh := h.p1.half
  have h1 := h.b1
  have h8 := hh.facts
  have hl0 : 0 ≤ lenS s := by unfold lenS; omega
  obtain ⟨a, b, d, e⟩ := nr_ok 60 (max 8 (s.now.length / 2)) (lenS s).toNat hh (by omega) (by omega) (by
    have : (2 : Nat) ^ 60 = 1152921504606846976 := rfl
    rw [this]; omega)
  unfold nextR
  exact ⟨a, by omega, by omega, e⟩
def setN (l : List Pl) (p : Nat) (n : Int) : List Pl := l.set p ⟨(pAt l p).i, (pAt l p).k, n⟩
def beg (s : St) : St := if s.nxt.length = 0 ∧ (s.now.length : Int) / 2 ≤ s.e1 + s.d1 then { s with nxt := List.replicate (nextR s) zeroPl, e2 := 0, d2 := 0 } else s
def ins (s : St) (k : ByteArray) (n : Int) : St :=
  if 0 < s.nxt.length then { s with nxt := s.nxt.set (addI s.nxt (hk k)) ⟨1, k, n⟩, e2 := s.e2 + 1, d2 := addD s.nxt (addI s.nxt (hk k)) s.d2 }
  else { s with now := s.now.set (addI s.now (hk k)) ⟨1, k, n⟩, e1 := s.e1 + 1, d1 := addD s.now (addI s.now (hk k)) s.d1 }
def fnd (s : St) (k : ByteArray) (h : Nat) : Option (Bool × Nat) :=
  match findP s.now k h with
  | some p => some (false, p)
  | none => match findP s.nxt k h with
    | some p => some (true, p)
    | none => none
/-- Put, behind its step. -/
def putS (s : St) (k : ByteArray) (n : Int) : St :=
  match fnd s k (hk k) with
  | some (false, p) => { s with now := setN s.now p n }
  | some (true, p) => { s with nxt := setN s.nxt p n }
  | none => ins (beg s) k n
def dropS (s : St) (k : ByteArray) : St :=
  match fnd s k (hk k) with
  | some (false, p) => { s with now := s.now.set p gravePl, e1 := s.e1 - 1, d1 := s.d1 + 1 }
  | some (true, p) => { s with nxt := s.nxt.set p gravePl, e2 := s.e2 - 1, d2 := s.d2 + 1 }
  | none => s
def valS (s : St) (k : ByteArray) : Int :=
  match fnd s k (hk k) with
  | some (false, p) => (pAt s.now p).n
  | some (true, p) => (pAt s.nxt p).n
  | none => 0
def newS : St := ⟨List.replicate 8 zeroPl, 0, 0, [], 0, 0, 0⟩
theorem fnd_now {s : St} {k : ByteArray} {h p : Nat} (hf : fnd s k h = some (false, p)) : findP s.now k h = some p := by
  unfold fnd at hf
  cases h1 : findP s.now k h with
  | some q => rw [h1] at hf; injection hf with hf; injection hf with _ hf; rw [hf]
  | none =>
    rw [h1] at hf
    cases h2 : findP s.nxt k h with
    | some q => rw [h2] at hf; injection hf with hf; injection hf with hf; cases hf
    | none => rw [h2] at hf; cases hf
theorem fnd_nxt {s : St} {k : ByteArray} {h p : Nat} (hf : fnd s k h = some (true, p)) : findP s.now k h = none ∧ findP s.nxt k h = some p := by
  unfold fnd at hf
  cases h1 : findP s.now k h with
  | some q => rw [h1] at hf; injection hf with hf; injection hf with hf; cases hf
  | none =>
    rw [h1] at hf
    cases h2 : findP s.nxt k h with
    | some q => rw [h2] at hf; injection hf with hf; injection hf with _ hf; rw [hf]; exact ⟨rfl, rfl⟩
    | none => rw [h2] at hf; cases hf
theorem setN_i (l : List Pl) (p : Nat) (n : Int) (j : Nat) : (pAt (setN l p n) j).i = (pAt l j).i := by
  unfold setN
  by_cases h : j = p
  · subst h
    by_cases hj : j < l.length
    · rw [pAt_set_same hj]
    · rw [List.set_eq_of_length_le (by omega)]
  · rw [pAt_set_ne h]
theorem setN_ok (l : List Pl) (e d : Int) (h : PsOk l e d) (p : Nat) (n : Int) : PsOk (setN l p n) e d := by
  unfold setN
  by_cases hp : p < l.length
  · exact h.setn hp n
  · rw [List.set_eq_of_length_le (by omega)]; exact h
theorem setN_len (l : List Pl) (p : Nat) (n : Int) : (setN l p n).length = l.length := List.length_set
theorem put_now {c : Int} {s : St} (h : OkS c s) (p : Nat) (n : Int) : OkS c { s with now := setN s.now p n } :=
  { a := setN_ok _ _ _ h.a p n, b := h.b, p1 := by (show Pow (setN s.now p n).length; rw [setN_len]; exact h.p1), p2 := h.p2, b1 := by (show (setN s.now p n).length ≤ _; rw [setN_len]; exact h.b1), b2 := h.b2
    r1 := by (show 4 * (s.e1 + s.d1) ≤ 3 * ((setN s.now p n).length : Int); rw [setN_len]; exact h.r1), m0 := h.m0, m1 := fun hn => by (show 4 * (s.e1 + s.e2 + s.d2) + (((setN s.now p n).length : Int) - s.mv) + c ≤ 3 * s.nxt.length; rw [setN_len]; exact h.m1 hn)
    ml := by (show s.mv ≤ (setN s.now p n).length; rw [setN_len]; exact h.ml), mf := fun i hi => by (show (pAt (setN s.now p n) i).i ≠ 1; rw [setN_i]; exact h.mf i hi), m4 := h.m4, mn := fun hn => by (show s.mv < (setN s.now p n).length; rw [setN_len]; exact h.mn hn) }
theorem put_nxt {c : Int} {s : St} (h : OkS c s) (p : Nat) (n : Int) : OkS c { s with nxt := setN s.nxt p n } :=
  { a := h.a, b := setN_ok _ _ _ h.b p n, p1 := h.p1, p2 := fun hn => by (rw [show (St.nxt { s with nxt := setN s.nxt p n }) = setN s.nxt p n from rfl, setN_len] at hn ⊢; exact h.p2 hn), b1 := h.b1, b2 := by (show (setN s.nxt p n).length ≤ _; rw [setN_len]; exact h.b2)
    r1 := h.r1, m0 := fun hn => by (rw [show (St.nxt { s with nxt := setN s.nxt p n }) = setN s.nxt p n from rfl, setN_len] at hn; exact h.m0 hn), m1 := fun hn => by (rw [show (St.nxt { s with nxt := setN s.nxt p n }) = setN s.nxt p n from rfl, setN_len] at hn ⊢; exact h.m1 hn)
    ml := h.ml, mf := h.mf, m4 := h.m4, mn := fun hn => by (rw [show (St.nxt { s with nxt := setN s.nxt p n }) = setN s.nxt p n from rfl, setN_len] at hn; exact h.mn hn) }
theorem bury_now {c : Int} {s : St} (h : OkS c s) {p : Nat} (hp : p < s.now.length) (hf : (pAt s.now p).i = 1) : OkS c { s with now := s.now.set p gravePl, e1 := s.e1 - 1, d1 := s.d1 + 1 } := by
  have hl : (s.now.set p gravePl).length = s.now.length := List.length_set
  exact { a := h.a.bury hp hf, b := h.b, p1 := by (show Pow (s.now.set p gravePl).length; rw [hl]; exact h.p1), p2 := h.p2, b1 := by (show (s.now.set p gravePl).length ≤ _; rw [hl]; exact h.b1), b2 := h.b2
          r1 := by (show 4 * (s.e1 - 1 + (s.d1 + 1)) ≤ 3 * ((s.now.set p gravePl).length : Int); rw [hl]; have := h.r1; omega), m0 := h.m0, m1 := fun hn => by (show 4 * (s.e1 - 1 + s.e2 + s.d2) + (((s.now.set p gravePl).length : Int) - s.mv) + c ≤ 3 * s.nxt.length; rw [hl]; have := h.m1 hn; omega)
          ml := by (show s.mv ≤ (s.now.set p gravePl).length; rw [hl]; exact h.ml), mf := fun i hi => by (
            show (pAt (s.now.set p gravePl) i).i ≠ 1
            by_cases h2 : i = p
            · subst h2; rw [pAt_set_same hp]; show (2 : Int) ≠ 1; omega
            · rw [pAt_set_ne h2]; exact h.mf i hi), m4 := h.m4, mn := fun hn => by (show s.mv < (s.now.set p gravePl).length; rw [hl]; exact h.mn hn) }
theorem bury_nxt {c : Int} {s : St} (h : OkS c s) {p : Nat} (hp : p < s.nxt.length) (hf : (pAt s.nxt p).i = 1) : OkS c { s with nxt := s.nxt.set p gravePl, e2 := s.e2 - 1, d2 := s.d2 + 1 } := by
  have hl : (s.nxt.set p gravePl).length = s.nxt.length := List.length_set
  have hn : 0 < s.nxt.length := by omega
  exact { a := h.a, b := h.b.bury hp hf, p1 := h.p1, p2 := fun _ => by (show Pow (s.nxt.set p gravePl).length; rw [hl]; exact h.p2 hn), b1 := h.b1, b2 := by (show (s.nxt.set p gravePl).length ≤ _; rw [hl]; exact h.b2)
          r1 := h.r1, m0 := fun e => by (have e : (s.nxt.set p gravePl).length = 0 := e; rw [hl] at e; omega), m1 := fun _ => by (show 4 * (s.e1 + (s.e2 - 1) + (s.d2 + 1)) + ((s.now.length : Int) - s.mv) + c ≤ 3 * ((s.nxt.set p gravePl).length : Int); rw [hl]; have := h.m1 hn; omega)
          ml := h.ml, mf := h.mf, m4 := h.m4, mn := fun _ => h.mn hn }
theorem beg_ok {s : St} (h : OkS 4 s) (hl : lenS s ≤ 511) : OkS 4 (beg s) ∧ ((beg s).nxt.length = 0 → (beg s).e1 + (beg s).d1 < ((beg s).now.length : Int) / 2) ∧ lenS (beg s) = lenS s := by
  unfold beg
  by_cases hc : s.nxt.length = 0 ∧ (s.now.length : Int) / 2 ≤ s.e1 + s.d1
  · rw [if_pos hc]
    obtain ⟨n1, n2, n3, n4⟩ := nextR_ok h.toOk hl
    have h8 := n1.facts
    have h88 := h.p1.facts
    have hm := h.m0 hc.1
    have hb := h.b.rng
    have he : s.e2 = 0 := by omega
    have hlen : (List.replicate (nextR s) zeroPl).length = nextR s := List.length_replicate
    refine ⟨{ a := h.a, b := PsOk.fresh _, p1 := h.p1, p2 := fun _ => by (show Pow (List.replicate (nextR s) zeroPl).length; rw [hlen]; exact n1), b1 := h.b1, b2 := by (show (List.replicate (nextR s) zeroPl).length ≤ 4096; rw [hlen]; exact n4), r1 := h.r1, m0 := fun _ => hm, m1 := fun _ => ?_, ml := h.ml, mf := h.mf, m4 := h.m4, mn := fun _ => ?_ }, fun e => ?_, ?_⟩
    · show 4 * (s.e1 + 0 + 0) + ((s.now.length : Int) - s.mv) + 4 ≤ 3 * ((List.replicate (nextR s) zeroPl).length : Int)
      rw [hlen]
      unfold lenS at n2
      omega
    · show s.mv < s.now.length
      have := h.p1.facts
      omega
    · have e : (List.replicate (nextR s) zeroPl).length = 0 := e
      rw [hlen] at e
      omega
    · show s.e1 + 0 = s.e1 + s.e2
      omega
  · rw [if_neg hc]
    refine ⟨h, fun e => ?_, rfl⟩
    by_cases h2 : (s.now.length : Int) / 2 ≤ s.e1 + s.d1
    · exact absurd ⟨e, h2⟩ hc
    · omega
theorem ins_ok {s : St} (h : OkS 4 s) (hc : s.nxt.length = 0 → s.e1 + s.d1 < (s.now.length : Int) / 2) (k : ByteArray) (hk1 : k.size ≤ 1000) (n : Int) : OkS 0 (ins s k n) ∧ lenS (ins s k n) = lenS s + 1 := by
  unfold ins
  by_cases hn : 0 < s.nxt.length
  · rw [if_pos hn]
    obtain ⟨z1, z2⟩ := addI_ok (h := hk k) (h.nxt0 (by omega) hn)
    have hl : (s.nxt.set (addI s.nxt (hk k)) ⟨1, k, n⟩).length = s.nxt.length := List.length_set
    refine ⟨{ a := h.a, b := h.b.add z1 z2 k hk1 n, p1 := h.p1, p2 := fun _ => by (show Pow (s.nxt.set _ _).length; rw [hl]; exact h.p2 hn), b1 := h.b1, b2 := by (show (s.nxt.set _ _).length ≤ _; rw [hl]; exact h.b2), r1 := h.r1, m0 := fun e => by (have e : (s.nxt.set (addI s.nxt (hk k)) ⟨1, k, n⟩).length = 0 := e; rw [hl] at e; omega), m1 := fun _ => ?_, ml := h.ml, mf := h.mf, m4 := h.m4, mn := fun _ => h.mn hn }, by show s.e1 + (s.e2 + 1) = s.e1 + s.e2 + 1; omega⟩
    show 4 * (s.e1 + (s.e2 + 1) + addD s.nxt (addI s.nxt (hk k)) s.d2) + ((s.now.length : Int) - s.mv) + 0 ≤ 3 * ((s.nxt.set (addI s.nxt (hk k)) ⟨1, k, n⟩).length : Int)
    rw [hl]
    have := h.m1 hn
    have := addD_le s.nxt (addI s.nxt (hk k)) s.d2
    omega
  · rw [if_neg hn]
    obtain ⟨z1, z2⟩ := addI_ok (h := hk k) h.now0
    have hl : (s.now.set (addI s.now (hk k)) ⟨1, k, n⟩).length = s.now.length := List.length_set
    have hm := h.m0 (by omega)
    refine ⟨{ a := h.a.add z1 z2 k hk1 n, b := h.b, p1 := by (show Pow (s.now.set _ _).length; rw [hl]; exact h.p1), p2 := h.p2, b1 := by (show (s.now.set _ _).length ≤ _; rw [hl]; exact h.b1), b2 := h.b2, r1 := ?_, m0 := h.m0, m1 := fun e => absurd e hn, ml := by (show s.mv ≤ _; omega), mf := fun i hi => by (have hi : i < s.mv := hi; omega), m4 := h.m4, mn := fun e => absurd e hn }, by show s.e1 + 1 + s.e2 = s.e1 + s.e2 + 1; omega⟩
    show 4 * (s.e1 + 1 + addD s.now (addI s.now (hk k)) s.d1) ≤ 3 * ((s.now.set (addI s.now (hk k)) ⟨1, k, n⟩).length : Int)
    rw [hl]
    have := hc (by omega)
    have := addD_le s.now (addI s.now (hk k)) s.d1
    omega
theorem putS_ok {s : St} (h : OkS 4 s) (hl : lenS s ≤ 511) (k : ByteArray) (hk1 : k.size ≤ 1000) (n : Int) : OkS 0 (putS s k n) ∧ lenS (putS s k n) = lenS s + (if (fnd s k (hk k)).isSome then 0 else 1) := by
  unfold putS
  cases hf : fnd s k (hk k) with
  | none =>
    obtain ⟨a, b, c⟩ := beg_ok h hl
    obtain ⟨x, y⟩ := ins_ok a b k hk1 n
    exact ⟨x, by rw [y, c]; rfl⟩
  | some r =>
    obtain ⟨b, p⟩ := r
    have h0 : OkS 0 s := { h.mono (by omega : (0 : Int) ≤ 4) with m4 := h.m4, mn := h.mn }
    cases b
    · exact ⟨put_now h0 p n, (Int.add_zero _).symm⟩
    · exact ⟨put_nxt h0 p n, (Int.add_zero _).symm⟩
theorem dropS_ok {s : St} (h : OkS 4 s) (k : ByteArray) : OkS 0 (dropS s k) ∧ lenS (dropS s k) = lenS s - (if (fnd s k (hk k)).isSome then 1 else 0) := by
  have h0 : OkS 0 s := { h.mono (by omega : (0 : Int) ≤ 4) with m4 := h.m4, mn := h.mn }
  unfold dropS
  cases hf : fnd s k (hk k) with
  | none => exact ⟨h0, (Int.sub_zero _).symm⟩
  | some r =>
    obtain ⟨b, p⟩ := r
    cases b
    · obtain ⟨p1, p2, -⟩ := findP_ok (fnd_now hf)
      exact ⟨bury_now h0 p1 p2, by show s.e1 - 1 + s.e2 = s.e1 + s.e2 - 1; omega⟩
    · obtain ⟨p1, p2, -⟩ := findP_ok (fnd_nxt hf).2
      exact ⟨bury_nxt h0 p1 p2, by show s.e1 + (s.e2 - 1) = s.e1 + s.e2 - 1; omega⟩
theorem newS_ok : OkS 0 newS :=
  { a := PsOk.fresh 8, b := PsOk.nil, p1 := ⟨0, rfl⟩, p2 := fun h => absurd h (Nat.lt_irrefl _), b1 := by decide, b2 := by decide, r1 := by decide, m0 := fun _ => rfl, m1 := fun h => absurd h (Nat.lt_irrefl _), ml := Nat.zero_le _, mf := fun i hi => absurd hi (Nat.not_lt_zero _), m4 := rfl, mn := fun h => absurd h (Nat.lt_irrefl _) }
theorem mv1_lenS (s : St) : lenS (mv1 s) = lenS s := by
  unfold mv1
  cases (pAt s.now s.mv).i == 1
  · rfl
  · show s.e1 - 1 + (s.e2 + 1) = s.e1 + s.e2; omega
theorem Ok.none {c : Int} {s : St} (h : Ok c s) (hm : s.mv = s.now.length) : s.e1 = 0 := by
  have he := h.a.ce
  have : s.now.countP (fun q => q.i == 1) = 0 := List.countP_eq_zero.2 fun q hq hb => by
    obtain ⟨i, hi, rfl⟩ := List.mem_iff_getElem.1 hq
    have := h.mf i (by omega)
    rw [pAt_lt hi] at this
    exact this (eq_of_beq hb)
  omega
theorem step_len {s : St} (h : OkS 0 s) : lenS (step s) = lenS s := by
  unfold step
  by_cases hn : s.nxt.length = 0
  · rw [if_pos hn]
  · rw [if_neg hn]
    have hn : 0 < s.nxt.length := by omega
    have hm := h.mn hn
    have h8 := h.p1.facts
    have h4 := h.m4
    obtain ⟨x1, y1, z1⟩ := mv1_len s
    obtain ⟨x2, y2, z2⟩ := mv1_len (mv1 s)
    obtain ⟨x3, y3, z3⟩ := mv1_len (mv1 (mv1 s))
    have k1 := mv1_ok h.toOk (Int.le_refl _) hn hm
    have k2 := mv1_ok k1 (by omega) (by omega) (by omega)
    have k3 := mv1_ok k2 (by omega) (by omega) (by omega)
    have k4 := mv1_ok k3 (by omega) (by omega) (by omega)
    have hl : lenS (mv1 (mv1 (mv1 (mv1 s)))) = lenS s := by rw [mv1_lenS, mv1_lenS, mv1_lenS, mv1_lenS]
    generalize mv1 (mv1 (mv1 (mv1 s))) = s' at *
    rw [← hl]
    unfold fin
    by_cases he : s'.mv = s'.now.length
    · rw [if_pos he]
      have := k4.none he
      show s'.e2 + 0 = s'.e1 + s'.e2
      omega
    · rw [if_neg he]
end Go.Proofs.YtmjlhmohglbecaaGreatDoor.Ta
/- Package table: a table as it lies; both, find. Conditions: what is always so of a table; bounds. -/
namespace Go.Proofs.YtmjlhmohglbecaaGreatDoor.Ta
open Go.ChangeShapes Go.WideShapes Go.ChangeAt Go.RowKit
/-- The table s in block T, its lists in G1 and G2. -/
structure TAt (w : World) (T G1 G2 : Nat) (s : St) : Prop where
  a : PAt w T 0 G1 s.now s.e1 s.d1
  b : PAt w T 3 G2 s.nxt s.e2 s.d2
  m : w.cell? ⟨T, 6, none⟩ = some (.int .i64 s.mv)
  g : 0 < s.nxt.length → G1 ≠ G2
theorem TAt.below {w w' : World} {T G1 G2 : Nat} {s : St} (h : TAt w T G1 G2 s) (hb : Below w.heap.size w w') : TAt w' T G1 G2 s :=
  ⟨h.a.below hb, h.b.below hb, (hb.cell (p := ⟨T, 6, none⟩) h.a.lt).trans h.m, h.g⟩
theorem TAt.fr {w w' : World} {T G1 G2 : Nat} {s : St} {S : Nat → Prop} (h : TAt w T G1 G2 s) (hl : 0 < s.now.length) (k : Fr S w w') (h1 : ¬ S T) (h2 : ¬ S G1) (h3 : 0 < s.nxt.length → ¬ S G2) : TAt w' T G1 G2 s := by
  have hT := k.block T h.a.lt h1
  have hc : ∀ i, w'.cell? ⟨T, i, none⟩ = w.cell? ⟨T, i, none⟩ := fun i => by simp only [World.cell?, hT]
  have hf : ∀ i, w'.frozen? ⟨T, i, none⟩ = w.frozen? ⟨T, i, none⟩ := fun i => by simp only [World.frozen?, hT]
  exact ⟨h.a.keep (fun i _ => hc _) hf (fun _ => k.block G1 (h.a.ltG hl) h2), h.b.keep (fun i _ => hc _) hf (fun hn => k.block G2 (h.b.ltG hn) (h3 hn)), (hc 6).trans h.m, h.g⟩
theorem iBoth : (Tryz.prog.info? 90).map (·.size) = some 2 := by kernel_rfl
set_option maxHeartbeats 4000000 in
theorem both_calls (w : World) (T : Nat) :
    Calls Tryz.prog 42 #[.pointer (some ⟨T, 0, none⟩)] w fun e w' => e = .returned (.agg #[.pointer (some ⟨T, 0, none⟩), .pointer (some ⟨T, 3, none⟩)]) ∧ Below w.heap.size w w' := by
  go_enter Tryz.func42, Tryz.ntmps42
  go_wp2_with fail
  go_region
  all_goals (go_wp2_with fail)
  all_goals (refine bodyPost_ret (results_cell_row rfl _ _ w.heap.size 90 #[.pointer (some ⟨T, 0, none⟩), .pointer (some ⟨T, 3, none⟩)] (0, 0) _ rfl ?hg Tryz.underlying90 rfl iBoth) rfl ⟨rfl, ?_⟩)
  all_goals first | exact heap_alloc_new w _ | exact (bbox _).drew
@[go_sem] theorem index2_0 (w : World) (x y : Value) : (Instr.index 90 (.agg #[x, y]) (.int .i64 0)).run Tryz.prog w = .ok x w := by kernel_rfl
@[go_sem] theorem index2_1 (w : World) (x y : Value) : (Instr.index 90 (.agg #[x, y]) (.int .i64 1)).run Tryz.prog w = .ok y w := by kernel_rfl
def fptr (T : Nat) : Option (Bool × Nat) → Value
  | none => .pointer none
  | some (b, _) => .pointer (some ⟨T, if b then 3 else 0, none⟩)
def fidx : Option (Bool × Nat) → Nat
  | none => 0
  | some (_, p) => p
set_option maxHeartbeats 4000000 in
set_option maxRecDepth 100000 in
theorem tfind_calls (w : World) (T G1 G2 : Nat) (s : St) (hT : TAt w T G1 G2 s) {c : Int} (hO : Ok c s) (hc : 0 ≤ c) (k : ByteArray) (h : Nat) (hh : h < 18446744073709551616) :
    Calls Tryz.prog 70 #[.pointer (some ⟨T, 0, none⟩), .string k, .int .u64 (h : Nat)] w fun e w' => e = .returned (.tuple #[fptr T (fnd s k h), .int .i64 (fidx (fnd s k h) : Nat)]) ∧ Below w.heap.size w w' := by
  have H0 := Lib.hid (both_calls w T)
  have H1 := Lib.hid (fun W (hb : Below w.heap.size w W) => pfind_calls W T 0 G1 s.now s.e1 s.d1 (hT.a.below hb) k h hh (by have := hO.b1; omega) (fun _ => hO.now0))
  have H2 := Lib.hid (fun W (hb : Below w.heap.size w W) => pfind_calls W T 3 G2 s.nxt s.e2 s.d2 (hT.b.below hb) k h hh (by have := hO.b2; omega) (fun hn => hO.nxt0 hc hn))
  obtain ⟨r, hr⟩ : ∃ r, r = fnd s k h := ⟨_, rfl⟩
  rw [← hr]
  have HR : Hid (r = match findP s.now k h with | some p => some (false, p) | none => match findP s.nxt k h with | some p => some (true, p) | none => none) := Lib.hid hr
  clear hr hT hO hc
  generalize findP s.now k h = r1 at *
  generalize findP s.nxt k h = r2 at *
  go_enter Tryz.func70, Tryz.ntmps70
  go_wp2_with fail
  refine H0.out.mono ?_; rintro en w2 ⟨rfl, hb2⟩
  have HB2 := Lib.hid hb2
  have HQ1 := Lib.hid (H1.out w2 hb2)
  have HQ2 := Lib.hid (H2.out w2 hb2)
  clear hb2
  go_wp2_with fail
  refine wp_loop_rounds 3 ?_
  rw [rounds_succ]
  go_wp2_with fail
  refine HQ1.out.mono ?_; rintro en w3 ⟨rfl, rfl⟩
  cases r1 with
  | some p =>
    go_wp2_with fail
    go_ret2
    exact ⟨by rw [HR.out]; rfl, HB2.out⟩
  | none =>
    go_wp2_with fail
    rw [rounds_succ]
    go_wp2_with fail
    refine HQ2.out.mono ?_; rintro en w3 ⟨rfl, rfl⟩
    cases r2 with
    | some p =>
      go_wp2_with fail
      go_ret2
      exact ⟨by rw [HR.out]; rfl, HB2.out⟩
    | none =>
      go_wp2_with fail
      rw [rounds_succ]
      go_wp2_with fail
      go_ret2
      exact ⟨by rw [HR.out]; rfl, HB2.out⟩
end Go.Proofs.YtmjlhmohglbecaaGreatDoor.Ta
