/- Package table, plain: how many entries and graves there are behind so many Puts; how long it is moved. No program. -/
import Derived.Test.YtpbblijnfigapaaTa9
namespace Go.Proofs.Ytpbblijnfigapaa.Ta
/-- Behind P Puts. -/
structure RI (P : Nat) (s : St) : Prop where
  ok : OkS 0 s
  q : s.e1 + s.e2 + s.d2 ≤ P
  r : s.nxt.length = 0 → s.e1 + s.d1 ≤ P
  m : 0 < s.nxt.length → s.now.length ≤ 600
theorem mv1_q (s : St) : (mv1 s).e1 + (mv1 s).e2 + (mv1 s).d2 ≤ s.e1 + s.e2 + s.d2 := by
  unfold mv1
  cases (pAt s.now s.mv).i == 1
  · exact Int.le_refl _
  · have := addD_le s.nxt (addI s.nxt (hk (pAt s.now s.mv).k)) s.d2
    show s.e1 - 1 + (s.e2 + 1) + addD _ _ _ ≤ _
    omega
theorem step_q {s : St} (h : OkS 0 s) : (step s).e1 + (step s).e2 + (step s).d2 ≤ s.e1 + s.e2 + s.d2 ∧ ((step s).nxt.length = 0 → (s.nxt.length = 0 ∧ step s = s) ∨ (step s).e1 + (step s).d1 ≤ s.e1 + s.e2 + s.d2) ∧ (0 < (step s).nxt.length → (step s).now.length = s.now.length ∧ 0 < s.nxt.length ∧ (step s).mv = s.mv + 4) := by
  unfold step
  by_cases hn : s.nxt.length = 0
  · rw [if_pos hn]
    exact ⟨Int.le_refl _, fun _ => .inl ⟨hn, rfl⟩, fun h => by omega⟩
  · rw [if_neg hn]
    have hn : 0 < s.nxt.length := by omega
    have hm := h.mn hn
    have h8 := h.p1.facts
    have h4 := h.m4
    obtain ⟨x1, y1, z1⟩ := mv1_len s
    obtain ⟨x2, y2, z2⟩ := mv1_len (mv1 s)
    obtain ⟨x3, y3, z3⟩ := mv1_len (mv1 (mv1 s))
    obtain ⟨x4, y4, z4⟩ := mv1_len (mv1 (mv1 (mv1 s)))
    have k1 := mv1_ok h.toOk (Int.le_refl _) hn hm
    have k2 := mv1_ok k1 (by omega) (by omega) (by omega)
    have k3 := mv1_ok k2 (by omega) (by omega) (by omega)
    have k4 := mv1_ok k3 (by omega) (by omega) (by omega)
    have q1 := mv1_q s
    have q2 := mv1_q (mv1 s)
    have q3 := mv1_q (mv1 (mv1 s))
    have q4 := mv1_q (mv1 (mv1 (mv1 s)))
    generalize mv1 (mv1 (mv1 (mv1 s))) = s' at *
    have ra := k4.a.rng
    have rb := k4.b.rng
    unfold fin
    by_cases he : s'.mv = s'.now.length
    · rw [if_pos he]
      refine ⟨?_, fun _ => .inr ?_, fun h => absurd h (Nat.lt_irrefl _)⟩
      · show s'.e2 + 0 + 0 ≤ _; omega
      · show s'.e2 + s'.d2 ≤ _; omega
    · rw [if_neg he]
      exact ⟨by omega, fun h => absurd h (by omega), fun _ => ⟨by omega, hn, by omega⟩⟩
theorem OkS.to0 {s : St} (h : OkS 4 s) : OkS 0 s := { h.mono (by omega : (0 : Int) ≤ 4) with m4 := h.m4, mn := h.mn }
theorem RI.step {P : Nat} {s : St} (h : RI P s) : RI P (step s) := by
  obtain ⟨a, b, c⟩ := step_q h.ok
  have hq := h.q
  refine ⟨(step_ok h.ok).to0, by omega, fun hn => ?_, fun hn => ?_⟩
  · rcases b hn with ⟨e1, e2⟩ | e
    · rw [e2]; exact h.r e1
    · omega
  · obtain ⟨e1, e2, -⟩ := c hn
    rw [e1]; exact h.m e2
theorem RI.len {P : Nat} {s : St} (h : RI P s) : lenS s ≤ P := by
  have := h.q
  have := h.ok.b.rng
  unfold lenS
  omega
theorem RI.put {P : Nat} {s : St} (h : RI P s) (h4 : OkS 4 s) (hP : P ≤ 300) (k : ByteArray) (hk1 : k.size ≤ 1000) (n : Int) : RI (P + 1) (putS s k n) := by
  have hl := h.len
  obtain ⟨a, -⟩ := putS_ok h4 (by omega) k hk1 n
  have hq := h.q
  have hr := h.r
  have hm := h.m
  have ra := h4.a.rng
  have rb := h4.b.rng
  have h8 := h4.p1.facts
  unfold putS at a ⊢
  cases hf : fnd s k (hk k) with
  | some r =>
    obtain ⟨b, p⟩ := r
    rw [hf] at a
    cases b
    · exact ⟨a, by show s.e1 + s.e2 + s.d2 ≤ _; omega, fun hn => by have := hr hn; show s.e1 + s.d1 ≤ _; omega, fun hn => by show (setN s.now p n).length ≤ _; rw [setN_len]; exact hm hn⟩
    · have hl2 : (setN s.nxt p n).length = s.nxt.length := setN_len ..
      exact ⟨a, by show s.e1 + s.e2 + s.d2 ≤ _; omega, fun hn => by have hn : (setN s.nxt p n).length = 0 := hn; have := hr (by omega); show s.e1 + s.d1 ≤ _; omega, fun hn => by have hn : 0 < (setN s.nxt p n).length := hn; exact hm (by omega)⟩
  | none =>
    rw [hf] at a
    have a : OkS 0 (ins (beg s) k n) := a
    show RI (P + 1) (ins (beg s) k n)
    unfold beg at a ⊢
    by_cases hc : s.nxt.length = 0 ∧ (s.now.length : Int) / 2 ≤ s.e1 + s.d1
    · rw [if_pos hc] at a ⊢
      have h9 := hr hc.1
      have hN := (nextR_ok h4.toOk (by omega)).1.facts
      have hlen : (List.replicate (nextR s) zeroPl).length = nextR s := List.length_replicate
      unfold ins at a ⊢
      rw [if_pos (by show 0 < (List.replicate (nextR s) zeroPl).length; omega)] at a ⊢
      have hD := addD_le (List.replicate (nextR s) zeroPl) (addI (List.replicate (nextR s) zeroPl) (hk k)) 0
      refine ⟨a, ?_, fun hn => ?_, fun _ => ?_⟩
      · show s.e1 + (0 + 1) + addD (List.replicate (nextR s) zeroPl) (addI (List.replicate (nextR s) zeroPl) (hk k)) 0 ≤ _; omega
      · have hn : ((List.replicate (nextR s) zeroPl).set (addI (List.replicate (nextR s) zeroPl) (hk k)) ⟨1, k, n⟩).length = 0 := hn
        rw [List.length_set] at hn
        omega
      · show s.now.length ≤ 600; omega
    · rw [if_neg hc] at a ⊢
      unfold ins at a ⊢
      by_cases hn : 0 < s.nxt.length
      · rw [if_pos hn] at a ⊢
        have hD := addD_le s.nxt (addI s.nxt (hk k)) s.d2
        refine ⟨a, ?_, fun hn2 => ?_, fun _ => hm hn⟩
        · show s.e1 + (s.e2 + 1) + addD _ _ s.d2 ≤ _; omega
        · have hn2 : (s.nxt.set (addI s.nxt (hk k)) ⟨1, k, n⟩).length = 0 := hn2
          rw [List.length_set] at hn2
          omega
      · rw [if_neg hn] at a ⊢
        have hD := addD_le s.now (addI s.now (hk k)) s.d1
        have h9 := hr (by omega)
        refine ⟨a, ?_, fun _ => ?_, fun hn2 => absurd hn2 hn⟩
        · show s.e1 + 1 + s.e2 + s.d2 ≤ _; omega
        · show s.e1 + 1 + addD _ _ s.d1 ≤ _; omega
theorem RI.drop {P : Nat} {s : St} (h : RI P s) (h4 : OkS 4 s) (k : ByteArray) : RI P (dropS s k) := by
  obtain ⟨a, -⟩ := dropS_ok h4 k
  have hq := h.q
  have hr := h.r
  have hm := h.m
  unfold dropS at a ⊢
  cases hf : fnd s k (hk k) with
  | none => exact h
  | some r =>
    obtain ⟨b, p⟩ := r
    rw [hf] at a
    cases b
    · exact ⟨a, by show s.e1 - 1 + s.e2 + s.d2 ≤ _; omega, fun hn => by have := hr hn; show s.e1 - 1 + (s.d1 + 1) ≤ _; omega, fun hn => by show (s.now.set p gravePl).length ≤ _; rw [List.length_set]; exact hm hn⟩
    · have hl2 : (s.nxt.set p gravePl).length = s.nxt.length := List.length_set
      exact ⟨a, by show s.e1 + (s.e2 - 1) + (s.d2 + 1) ≤ _; omega, fun hn => by have hn : (s.nxt.set p gravePl).length = 0 := hn; have := hr (by omega); show s.e1 + s.d1 ≤ _; omega, fun hn => by have hn : 0 < (s.nxt.set p gravePl).length := hn; exact hm (by omega)⟩
theorem RI.new : RI 0 newS := ⟨newS_ok, Int.le_refl _, fun _ => Int.le_refl _, fun h => absurd h (Nat.lt_irrefl _)⟩
/-- There is always a place that is free. -/
theorem room_free {s : St} (h : OkS 0 s) : (s.nxt.length = 0 → lenS s < s.now.length) ∧ (0 < s.nxt.length → lenS s < (s.now.length : Int) + s.nxt.length) := by
  have ra := h.a.rng
  have rb := h.b.rng
  have h8 := h.p1.facts
  have hr := h.r1
  refine ⟨fun hn => by unfold lenS; omega, fun hn => ?_⟩
  have := h.m1 hn
  have := h.ml
  unfold lenS
  omega
/-- Behind i Steps. -/
structure SI (i : Nat) (s : St) : Prop where
  ok : OkS 0 s
  t : 0 < s.nxt.length → s.now.length + 4 * i ≤ 1600 + s.mv
theorem SI.step {i : Nat} {s : St} (h : SI i s) : SI (i + 1) (step s) := by
  obtain ⟨-, -, c⟩ := step_q h.ok
  refine ⟨(step_ok h.ok).to0, fun hn => ?_⟩
  obtain ⟨e1, e2, e3⟩ := c hn
  have := h.t e2
  omega
theorem SI.start {P : Nat} {s : St} (h : RI P s) : SI 0 s := ⟨h.ok, fun hn => by have := h.m hn; omega⟩
theorem SI.stop {s : St} (h : SI 400 s) : s.nxt.length = 0 := by
  rcases Nat.eq_zero_or_pos s.nxt.length with hn | hn
  · exact hn
  · have := h.t hn
    have := h.ok.mn hn
    omega
end Go.Proofs.Ytpbblijnfigapaa.Ta
