/- Package table: a plain model of Put, Drop, Get, Clear; what stays so. No program. -/
import Derived.Test.YtpbblijnfigapaaTa5
namespace Go.Proofs.Ytpbblijnfigapaa.Ta
def lenS (s : St) : Int := s.e1 + s.e2
/-- The least room from a room on, by doubling, of which a quarter is more than len. -/
def nr : Nat → Nat → Nat → Nat
  | 0, room, _ => room
  | f + 1, room, len => if room / 4 ≤ len then nr f (room * 2) len else room
def nextR (s : St) : Nat := nr 60 (max 8 (s.now.length / 2)) (lenS s).toNat
theorem nr_ok : ∀ (f room len : Nat), Pow room → room ≤ 4096 → len ≤ 511 → 4 * len + 3 < room * 2 ^ f → Pow (nr f room len) ∧ len < nr f room len / 4 ∧ room ≤ nr f room len ∧ nr f room len ≤ 4096
  | 0, room, len, h, h1, _, h3 => by
    show Pow room ∧ len < room / 4 ∧ room ≤ room ∧ room ≤ 4096
    rw [Nat.pow_zero, Nat.mul_one] at h3
    exact ⟨h, by omega, Nat.le_refl _, h1⟩
  | f + 1, room, len, h, h1, h2, h3 => by
    unfold nr
    by_cases hc : room / 4 ≤ len
    · rw [if_pos hc]
      obtain ⟨a, b, c, d⟩ := nr_ok f (room * 2) len h.twice (by omega) h2 (by rw [Nat.pow_succ] at h3; rw [Nat.mul_assoc, Nat.mul_comm 2]; exact h3)
      exact ⟨a, b, by omega, d⟩
    · rw [if_neg hc]
      exact ⟨h, by omega, Nat.le_refl _, h1⟩
theorem nextR_ok {c : Int} {s : St} (h : Ok c s) (hl : lenS s ≤ 511) : Pow (nextR s) ∧ lenS s < (nextR s / 4 : Nat) ∧ s.now.length / 2 ≤ nextR s ∧ nextR s ≤ 4096 := by
  have ha := h.a.rng
  have hb := h.b.rng
  have hh := h.p1.half
  have h1 := h.b1
  have h8 := hh.facts
  have hl0 : 0 ≤ lenS s := by unfold lenS; omega
  obtain ⟨a, b, d, e⟩ := nr_ok 60 (max 8 (s.now.length / 2)) (lenS s).toNat hh (by omega) (by omega) (by
    have : (2 : Nat) ^ 60 = 1152921504606846976 := rfl
    rw [this]; omega)
  unfold nextR
  exact ⟨a, by omega, by omega, e⟩
def setN (l : List Pl) (p : Nat) (n : Int) : List Pl := l.set p ⟨(pAt l p).i, (pAt l p).k, n⟩
def beg (s : St) : St := if s.nxt.length = 0 ∧ (s.now.length : Int) / 2 ≤ s.e1 + s.d1 then { s with nxt := List.replicate (nextR s) zeroPl, e2 := 0, d2 := 0 } else s
def ins (s : St) (k : ByteArray) (n : Int) : St :=
  if 0 < s.nxt.length then { s with nxt := s.nxt.set (addI s.nxt (hk k)) ⟨1, k, n⟩, e2 := s.e2 + 1, d2 := addD s.nxt (addI s.nxt (hk k)) s.d2 }
  else { s with now := s.now.set (addI s.now (hk k)) ⟨1, k, n⟩, e1 := s.e1 + 1, d1 := addD s.now (addI s.now (hk k)) s.d1 }
def fnd (s : St) (k : ByteArray) (h : Nat) : Option (Bool × Nat) :=
  match findP s.now k h with
  | some p => some (false, p)
  | none => match findP s.nxt k h with
    | some p => some (true, p)
    | none => none
/-- Put, behind its step. -/
def putS (s : St) (k : ByteArray) (n : Int) : St :=
  match fnd s k (hk k) with
  | some (false, p) => { s with now := setN s.now p n }
  | some (true, p) => { s with nxt := setN s.nxt p n }
  | none => ins (beg s) k n
def dropS (s : St) (k : ByteArray) : St :=
  match fnd s k (hk k) with
  | some (false, p) => { s with now := s.now.set p gravePl, e1 := s.e1 - 1, d1 := s.d1 + 1 }
  | some (true, p) => { s with nxt := s.nxt.set p gravePl, e2 := s.e2 - 1, d2 := s.d2 + 1 }
  | none => s
def valS (s : St) (k : ByteArray) : Int :=
  match fnd s k (hk k) with
  | some (false, p) => (pAt s.now p).n
  | some (true, p) => (pAt s.nxt p).n
  | none => 0
def newS : St := ⟨List.replicate 8 zeroPl, 0, 0, [], 0, 0, 0⟩
theorem fnd_now {s : St} {k : ByteArray} {h p : Nat} (hf : fnd s k h = some (false, p)) : findP s.now k h = some p := by
  unfold fnd at hf
  cases h1 : findP s.now k h with
  | some q => rw [h1] at hf; injection hf with hf; injection hf with _ hf; rw [hf]
  | none =>
    rw [h1] at hf
    cases h2 : findP s.nxt k h with
    | some q => rw [h2] at hf; injection hf with hf; injection hf with hf; cases hf
    | none => rw [h2] at hf; cases hf
theorem fnd_nxt {s : St} {k : ByteArray} {h p : Nat} (hf : fnd s k h = some (true, p)) : findP s.now k h = none ∧ findP s.nxt k h = some p := by
  unfold fnd at hf
  cases h1 : findP s.now k h with
  | some q => rw [h1] at hf; injection hf with hf; injection hf with hf; cases hf
  | none =>
    rw [h1] at hf
    cases h2 : findP s.nxt k h with
    | some q => rw [h2] at hf; injection hf with hf; injection hf with _ hf; rw [hf]; exact ⟨rfl, rfl⟩
    | none => rw [h2] at hf; cases hf
theorem setN_i (l : List Pl) (p : Nat) (n : Int) (j : Nat) : (pAt (setN l p n) j).i = (pAt l j).i := by
  unfold setN
  by_cases h : j = p
  · subst h
    by_cases hj : j < l.length
    · rw [pAt_set_same hj]
    · rw [List.set_eq_of_length_le (by omega)]
  · rw [pAt_set_ne h]
theorem setN_ok (l : List Pl) (e d : Int) (h : PsOk l e d) (p : Nat) (n : Int) : PsOk (setN l p n) e d := by
  unfold setN
  by_cases hp : p < l.length
  · exact h.setn hp n
  · rw [List.set_eq_of_length_le (by omega)]; exact h
theorem setN_len (l : List Pl) (p : Nat) (n : Int) : (setN l p n).length = l.length := List.length_set
theorem put_now {c : Int} {s : St} (h : OkS c s) (p : Nat) (n : Int) : OkS c { s with now := setN s.now p n } :=
  { a := setN_ok _ _ _ h.a p n, b := h.b, p1 := by (show Pow (setN s.now p n).length; rw [setN_len]; exact h.p1), p2 := h.p2, b1 := by (show (setN s.now p n).length ≤ _; rw [setN_len]; exact h.b1), b2 := h.b2
    r1 := by (show 4 * (s.e1 + s.d1) ≤ 3 * ((setN s.now p n).length : Int); rw [setN_len]; exact h.r1), m0 := h.m0, m1 := fun hn => by (show 4 * (s.e1 + s.e2 + s.d2) + (((setN s.now p n).length : Int) - s.mv) + c ≤ 3 * s.nxt.length; rw [setN_len]; exact h.m1 hn)
    ml := by (show s.mv ≤ (setN s.now p n).length; rw [setN_len]; exact h.ml), mf := fun i hi => by (show (pAt (setN s.now p n) i).i ≠ 1; rw [setN_i]; exact h.mf i hi), m4 := h.m4, mn := fun hn => by (show s.mv < (setN s.now p n).length; rw [setN_len]; exact h.mn hn) }
theorem put_nxt {c : Int} {s : St} (h : OkS c s) (p : Nat) (n : Int) : OkS c { s with nxt := setN s.nxt p n } :=
  { a := h.a, b := setN_ok _ _ _ h.b p n, p1 := h.p1, p2 := fun hn => by (rw [show (St.nxt { s with nxt := setN s.nxt p n }) = setN s.nxt p n from rfl, setN_len] at hn ⊢; exact h.p2 hn), b1 := h.b1, b2 := by (show (setN s.nxt p n).length ≤ _; rw [setN_len]; exact h.b2)
    r1 := h.r1, m0 := fun hn => by (rw [show (St.nxt { s with nxt := setN s.nxt p n }) = setN s.nxt p n from rfl, setN_len] at hn; exact h.m0 hn), m1 := fun hn => by (rw [show (St.nxt { s with nxt := setN s.nxt p n }) = setN s.nxt p n from rfl, setN_len] at hn ⊢; exact h.m1 hn)
    ml := h.ml, mf := h.mf, m4 := h.m4, mn := fun hn => by (rw [show (St.nxt { s with nxt := setN s.nxt p n }) = setN s.nxt p n from rfl, setN_len] at hn; exact h.mn hn) }
theorem bury_now {c : Int} {s : St} (h : OkS c s) {p : Nat} (hp : p < s.now.length) (hf : (pAt s.now p).i = 1) : OkS c { s with now := s.now.set p gravePl, e1 := s.e1 - 1, d1 := s.d1 + 1 } := by
  have hl : (s.now.set p gravePl).length = s.now.length := List.length_set
  exact { a := h.a.bury hp hf, b := h.b, p1 := by (show Pow (s.now.set p gravePl).length; rw [hl]; exact h.p1), p2 := h.p2, b1 := by (show (s.now.set p gravePl).length ≤ _; rw [hl]; exact h.b1), b2 := h.b2
          r1 := by (show 4 * (s.e1 - 1 + (s.d1 + 1)) ≤ 3 * ((s.now.set p gravePl).length : Int); rw [hl]; have := h.r1; omega), m0 := h.m0, m1 := fun hn => by (show 4 * (s.e1 - 1 + s.e2 + s.d2) + (((s.now.set p gravePl).length : Int) - s.mv) + c ≤ 3 * s.nxt.length; rw [hl]; have := h.m1 hn; omega)
          ml := by (show s.mv ≤ (s.now.set p gravePl).length; rw [hl]; exact h.ml), mf := fun i hi => by (
            show (pAt (s.now.set p gravePl) i).i ≠ 1
            by_cases h2 : i = p
            · subst h2; rw [pAt_set_same hp]; show (2 : Int) ≠ 1; omega
            · rw [pAt_set_ne h2]; exact h.mf i hi), m4 := h.m4, mn := fun hn => by (show s.mv < (s.now.set p gravePl).length; rw [hl]; exact h.mn hn) }
theorem bury_nxt {c : Int} {s : St} (h : OkS c s) {p : Nat} (hp : p < s.nxt.length) (hf : (pAt s.nxt p).i = 1) : OkS c { s with nxt := s.nxt.set p gravePl, e2 := s.e2 - 1, d2 := s.d2 + 1 } := by
  have hl : (s.nxt.set p gravePl).length = s.nxt.length := List.length_set
  have hn : 0 < s.nxt.length := by omega
  exact { a := h.a, b := h.b.bury hp hf, p1 := h.p1, p2 := fun _ => by (show Pow (s.nxt.set p gravePl).length; rw [hl]; exact h.p2 hn), b1 := h.b1, b2 := by (show (s.nxt.set p gravePl).length ≤ _; rw [hl]; exact h.b2)
          r1 := h.r1, m0 := fun e => by (have e : (s.nxt.set p gravePl).length = 0 := e; rw [hl] at e; omega), m1 := fun _ => by (show 4 * (s.e1 + (s.e2 - 1) + (s.d2 + 1)) + ((s.now.length : Int) - s.mv) + c ≤ 3 * ((s.nxt.set p gravePl).length : Int); rw [hl]; have := h.m1 hn; omega)
          ml := h.ml, mf := h.mf, m4 := h.m4, mn := fun _ => h.mn hn }
theorem beg_ok {s : St} (h : OkS 4 s) (hl : lenS s ≤ 511) : OkS 4 (beg s) ∧ ((beg s).nxt.length = 0 → (beg s).e1 + (beg s).d1 < ((beg s).now.length : Int) / 2) ∧ lenS (beg s) = lenS s := by
  unfold beg
  by_cases hc : s.nxt.length = 0 ∧ (s.now.length : Int) / 2 ≤ s.e1 + s.d1
  · rw [if_pos hc]
    obtain ⟨n1, n2, n3, n4⟩ := nextR_ok h.toOk hl
    have h8 := n1.facts
    have h88 := h.p1.facts
    have hm := h.m0 hc.1
    have hb := h.b.rng
    have he : s.e2 = 0 := by omega
    have hlen : (List.replicate (nextR s) zeroPl).length = nextR s := List.length_replicate
    refine ⟨{ a := h.a, b := PsOk.fresh _, p1 := h.p1, p2 := fun _ => by (show Pow (List.replicate (nextR s) zeroPl).length; rw [hlen]; exact n1), b1 := h.b1, b2 := by (show (List.replicate (nextR s) zeroPl).length ≤ 4096; rw [hlen]; exact n4), r1 := h.r1, m0 := fun _ => hm, m1 := fun _ => ?_, ml := h.ml, mf := h.mf, m4 := h.m4, mn := fun _ => ?_ }, fun e => ?_, ?_⟩
    · show 4 * (s.e1 + 0 + 0) + ((s.now.length : Int) - s.mv) + 4 ≤ 3 * ((List.replicate (nextR s) zeroPl).length : Int)
      rw [hlen]
      unfold lenS at n2
      omega
    · show s.mv < s.now.length
      have := h.p1.facts
      omega
    · have e : (List.replicate (nextR s) zeroPl).length = 0 := e
      rw [hlen] at e
      omega
    · show s.e1 + 0 = s.e1 + s.e2
      omega
  · rw [if_neg hc]
    refine ⟨h, fun e => ?_, rfl⟩
    by_cases h2 : (s.now.length : Int) / 2 ≤ s.e1 + s.d1
    · exact absurd ⟨e, h2⟩ hc
    · omega
theorem ins_ok {s : St} (h : OkS 4 s) (hc : s.nxt.length = 0 → s.e1 + s.d1 < (s.now.length : Int) / 2) (k : ByteArray) (hk1 : k.size ≤ 1000) (n : Int) : OkS 0 (ins s k n) ∧ lenS (ins s k n) = lenS s + 1 := by
  unfold ins
  by_cases hn : 0 < s.nxt.length
  · rw [if_pos hn]
    obtain ⟨z1, z2⟩ := addI_ok (h := hk k) (h.nxt0 (by omega) hn)
    have hl : (s.nxt.set (addI s.nxt (hk k)) ⟨1, k, n⟩).length = s.nxt.length := List.length_set
    refine ⟨{ a := h.a, b := h.b.add z1 z2 k hk1 n, p1 := h.p1, p2 := fun _ => by (show Pow (s.nxt.set _ _).length; rw [hl]; exact h.p2 hn), b1 := h.b1, b2 := by (show (s.nxt.set _ _).length ≤ _; rw [hl]; exact h.b2), r1 := h.r1, m0 := fun e => by (have e : (s.nxt.set (addI s.nxt (hk k)) ⟨1, k, n⟩).length = 0 := e; rw [hl] at e; omega), m1 := fun _ => ?_, ml := h.ml, mf := h.mf, m4 := h.m4, mn := fun _ => h.mn hn }, by show s.e1 + (s.e2 + 1) = s.e1 + s.e2 + 1; omega⟩
    show 4 * (s.e1 + (s.e2 + 1) + addD s.nxt (addI s.nxt (hk k)) s.d2) + ((s.now.length : Int) - s.mv) + 0 ≤ 3 * ((s.nxt.set (addI s.nxt (hk k)) ⟨1, k, n⟩).length : Int)
    rw [hl]
    have := h.m1 hn
    have := addD_le s.nxt (addI s.nxt (hk k)) s.d2
    omega
  · rw [if_neg hn]
    obtain ⟨z1, z2⟩ := addI_ok (h := hk k) h.now0
    have hl : (s.now.set (addI s.now (hk k)) ⟨1, k, n⟩).length = s.now.length := List.length_set
    have hm := h.m0 (by omega)
    refine ⟨{ a := h.a.add z1 z2 k hk1 n, b := h.b, p1 := by (show Pow (s.now.set _ _).length; rw [hl]; exact h.p1), p2 := h.p2, b1 := by (show (s.now.set _ _).length ≤ _; rw [hl]; exact h.b1), b2 := h.b2, r1 := ?_, m0 := h.m0, m1 := fun e => absurd e hn, ml := by (show s.mv ≤ _; omega), mf := fun i hi => by (have hi : i < s.mv := hi; omega), m4 := h.m4, mn := fun e => absurd e hn }, by show s.e1 + 1 + s.e2 = s.e1 + s.e2 + 1; omega⟩
    show 4 * (s.e1 + 1 + addD s.now (addI s.now (hk k)) s.d1) ≤ 3 * ((s.now.set (addI s.now (hk k)) ⟨1, k, n⟩).length : Int)
    rw [hl]
    have := hc (by omega)
    have := addD_le s.now (addI s.now (hk k)) s.d1
    omega
theorem putS_ok {s : St} (h : OkS 4 s) (hl : lenS s ≤ 511) (k : ByteArray) (hk1 : k.size ≤ 1000) (n : Int) : OkS 0 (putS s k n) ∧ lenS (putS s k n) = lenS s + (if (fnd s k (hk k)).isSome then 0 else 1) := by
  unfold putS
  cases hf : fnd s k (hk k) with
  | none =>
    obtain ⟨a, b, c⟩ := beg_ok h hl
    obtain ⟨x, y⟩ := ins_ok a b k hk1 n
    exact ⟨x, by rw [y, c]; rfl⟩
  | some r =>
    obtain ⟨b, p⟩ := r
    have h0 : OkS 0 s := { h.mono (by omega : (0 : Int) ≤ 4) with m4 := h.m4, mn := h.mn }
    cases b
    · exact ⟨put_now h0 p n, (Int.add_zero _).symm⟩
    · exact ⟨put_nxt h0 p n, (Int.add_zero _).symm⟩
theorem dropS_ok {s : St} (h : OkS 4 s) (k : ByteArray) : OkS 0 (dropS s k) ∧ lenS (dropS s k) = lenS s - (if (fnd s k (hk k)).isSome then 1 else 0) := by
  have h0 : OkS 0 s := { h.mono (by omega : (0 : Int) ≤ 4) with m4 := h.m4, mn := h.mn }
  unfold dropS
  cases hf : fnd s k (hk k) with
  | none => exact ⟨h0, (Int.sub_zero _).symm⟩
  | some r =>
    obtain ⟨b, p⟩ := r
    cases b
    · obtain ⟨p1, p2, -⟩ := findP_ok (fnd_now hf)
      exact ⟨bury_now h0 p1 p2, by show s.e1 - 1 + s.e2 = s.e1 + s.e2 - 1; omega⟩
    · obtain ⟨p1, p2, -⟩ := findP_ok (fnd_nxt hf).2
      exact ⟨bury_nxt h0 p1 p2, by show s.e1 + (s.e2 - 1) = s.e1 + s.e2 - 1; omega⟩
theorem newS_ok : OkS 0 newS :=
  { a := PsOk.fresh 8, b := PsOk.nil, p1 := ⟨0, rfl⟩, p2 := fun h => absurd h (Nat.lt_irrefl _), b1 := by decide, b2 := by decide, r1 := by decide, m0 := fun _ => rfl, m1 := fun h => absurd h (Nat.lt_irrefl _), ml := Nat.zero_le _, mf := fun i hi => absurd hi (Nat.not_lt_zero _), m4 := rfl, mn := fun h => absurd h (Nat.lt_irrefl _) }
theorem mv1_lenS (s : St) : lenS (mv1 s) = lenS s := by
  unfold mv1
  cases (pAt s.now s.mv).i == 1
  · rfl
  · show s.e1 - 1 + (s.e2 + 1) = s.e1 + s.e2; omega
theorem Ok.none {c : Int} {s : St} (h : Ok c s) (hm : s.mv = s.now.length) : s.e1 = 0 := by
  have he := h.a.ce
  have : s.now.countP (fun q => q.i == 1) = 0 := List.countP_eq_zero.2 fun q hq hb => by
    obtain ⟨i, hi, rfl⟩ := List.mem_iff_getElem.1 hq
    have := h.mf i (by omega)
    rw [pAt_lt hi] at this
    exact this (eq_of_beq hb)
  omega
theorem step_len {s : St} (h : OkS 0 s) : lenS (step s) = lenS s := by
  unfold step
  by_cases hn : s.nxt.length = 0
  · rw [if_pos hn]
  · rw [if_neg hn]
    have hn : 0 < s.nxt.length := by omega
    have hm := h.mn hn
    have h8 := h.p1.facts
    have h4 := h.m4
    obtain ⟨x1, y1, z1⟩ := mv1_len s
    obtain ⟨x2, y2, z2⟩ := mv1_len (mv1 s)
    obtain ⟨x3, y3, z3⟩ := mv1_len (mv1 (mv1 s))
    have k1 := mv1_ok h.toOk (Int.le_refl _) hn hm
    have k2 := mv1_ok k1 (by omega) (by omega) (by omega)
    have k3 := mv1_ok k2 (by omega) (by omega) (by omega)
    have k4 := mv1_ok k3 (by omega) (by omega) (by omega)
    have hl : lenS (mv1 (mv1 (mv1 (mv1 s)))) = lenS s := by rw [mv1_lenS, mv1_lenS, mv1_lenS, mv1_lenS]
    generalize mv1 (mv1 (mv1 (mv1 s))) = s' at *
    rw [← hl]
    unfold fin
    by_cases he : s'.mv = s'.now.length
    · rw [if_pos he]
      have := k4.none he
      show s'.e2 + 0 = s'.e1 + s'.e2
      omega
    · rw [if_neg he]
end Go.Proofs.Ytpbblijnfigapaa.Ta
