/- Package table: the statements' alive call. No condition. -/
import Derived.Test.YtmjlhmohglbecaaGreatDoorTaC
import Derived.Test.YtmjlhmohglbecaaGreatDoorTaB
import Derived.Laws.Runes
import Derived.Laws.Cover4
namespace Go.Proofs.YtmjlhmohglbecaaGreatDoor.Ta
open Go.ChangeShapes Go.WideShapes Go.ChangeAt Go.RowKit
theorem Moved.tab {T G1 G2 : Nat} {s s' : St} {w w' : World} {P : Nat → Prop} (h : Moved T G1 G2 s w s' w') (hP : ∀ i, own T G1 G2 s i → P i) (hn : ∀ i, w.heap.size ≤ i → P i) : ∃ H1 H2, TAt w' T H1 H2 s' ∧ (∀ i, own T H1 H2 s' i → P i) ∧ Fr P w w' := by
  obtain ⟨H1, H2, a, b, c⟩ := h
  exact ⟨H1, H2, a, fun i hi => by rcases c i hi with h | h; exact hP i h; exact hn i h, b.mono hP⟩
/-- A few keys, none of them moved. -/
structure Al (i : Nat) (s : St) (K : List (List UInt8)) : Prop where
  ok : OkS 0 s
  nx : s.nxt.length = 0
  ln : s.now.length = 8
  e : s.e1 = i
  d : s.d1 = 0
  ks : ∀ q, q ∈ s.now → q.i = 1 → q.k.data.toList ∈ K
theorem Al.none {i : Nat} {s : St} {K : List (List UInt8)} (h : Al i s K) {k : ByteArray} (hk1 : k.data.toList ∉ K) : fnd s k (hk k) = none := by
  cases hf : fnd s k (hk k) with
  | none => rfl
  | some r =>
    obtain ⟨b, p⟩ := r
    cases b
    · obtain ⟨p1, p2, p3⟩ := findP_ok (fnd_now hf)
      rw [pAt_lt p1] at p2 p3
      have := h.ks _ (List.getElem_mem p1) p2
      rw [Lib.toList_data, Lib.toList_data] at p3
      rw [p3] at this
      exact absurd this hk1
    · obtain ⟨p1, -, -⟩ := findP_ok (fnd_nxt hf).2
      have := h.nx
      omega
theorem Al.step {i : Nat} {s : St} {K : List (List UInt8)} (h : Al i s K) : step s = s := by unfold Ta.step; rw [if_pos h.nx]
theorem Al.put {i : Nat} {s : St} {K : List (List UInt8)} (h : Al i s K) (hi : i < 4) {k : ByteArray} (hk1 : k.data.toList ∉ K) (hk2 : k.size ≤ 1000) (n : Int) :
    (fnd (Ta.step s) k (hk k)).isNone = true ∧ Al (i + 1) (putS (Ta.step s) k n) (k.data.toList :: K) := by
  have hO4 := step_ok h.ok
  rw [h.step] at hO4 ⊢
  have hf := h.none hk1
  have he := h.e
  have hd := h.d
  have hb := h.ok.b.rng
  have hx := h.nx
  have hln := h.ln
  obtain ⟨a, b⟩ := putS_ok hO4 (by unfold lenS; omega) k hk2 n
  refine ⟨by rw [hf]; rfl, ?_⟩
  have hbeg : beg s = s := by unfold beg; rw [if_neg (by rw [he, hd, hln]; omega)]
  have hp : putS s k n = { s with now := s.now.set (addI s.now (hk k)) ⟨1, k, n⟩, e1 := s.e1 + 1, d1 := addD s.now (addI s.now (hk k)) s.d1 } := by
    unfold putS
    rw [hf]
    show ins (beg s) k n = _
    rw [hbeg]
    unfold ins
    rw [if_neg (by omega)]
  rw [hp] at a ⊢
  have hr := a.a.rng
  have hr2 : (0 : Int) ≤ addD s.now (addI s.now (hk k)) s.d1 := hr.2.1
  have := addD_le s.now (addI s.now (hk k)) s.d1
  refine ⟨a, hx, by show (s.now.set _ _).length = 8; rw [List.length_set]; exact hln, by show s.e1 + 1 = ((i + 1 : Nat) : Int); omega, by show addD _ _ _ = (0 : Int); omega, fun q hq hq1 => ?_⟩
  rcases mem_set hq with h1 | rfl
  · exact List.mem_cons_of_mem _ (h.ks q h1 hq1)
  · exact List.mem_cons_self ..
theorem Al.last {s : St} {K : List (List UInt8)} (h : Al 4 s K) {k : ByteArray} (hk1 : k.data.toList ∉ K) (hk2 : k.size ≤ 1000) (n : Int) :
    (fnd (Ta.step s) k (hk k)).isNone = true ∧ OkS 0 (putS (Ta.step s) k n) ∧ (putS (Ta.step s) k n).now.length = 8 ∧ (putS (Ta.step s) k n).nxt.length = 32 ∧ lenS (putS (Ta.step s) k n) = 5 := by
  have hO4 := step_ok h.ok
  rw [h.step] at hO4 ⊢
  have hf := h.none hk1
  have he := h.e
  have hd := h.d
  have hb := h.ok.b.rng
  have hx := h.nx
  have hln := h.ln
  have hls : lenS s = 4 := by unfold lenS; omega
  obtain ⟨a, b⟩ := putS_ok hO4 (by omega) k hk2 n
  have hnr : nextR s = 32 := by unfold nextR; rw [hls, hln]; rfl
  have hbeg : beg s = { s with nxt := List.replicate 32 zeroPl, e2 := 0, d2 := 0 } := by unfold beg; rw [if_pos (by rw [he, hd, hln]; exact ⟨hx, by omega⟩), hnr]
  have hp : putS s k n = ins { s with nxt := List.replicate 32 zeroPl, e2 := 0, d2 := 0 } k n := by unfold putS; rw [hf]; show ins (beg s) k n = _; rw [hbeg]
  refine ⟨by rw [hf]; rfl, a, ?_, ?_, by rw [b, hf, hls]; rfl⟩
  · rw [hp]; unfold ins; rw [if_pos (by show 0 < (List.replicate 32 zeroPl).length; decide)]; exact hln
  · rw [hp]; unfold ins; rw [if_pos (by show 0 < (List.replicate 32 zeroPl).length; decide)]; show ((List.replicate 32 zeroPl).set _ _).length = 32; rw [List.length_set]; rfl
theorem al_new : Al 0 newS [] := ⟨newS_ok, rfl, rfl, rfl, rfl, fun q hq h => by
  rw [List.eq_of_mem_replicate hq] at h
  cases h⟩
theorem put_al {W : World} {T A B i : Nat} {s : St} {K : List (List UInt8)} {P : Nat → Prop} (hT : TAt W T A B s) (h : Al i s K) (hP : ∀ i, own T A B s i → P i) (hn : ∀ i, W.heap.size ≤ i → P i) (hi : i < 4) {k : ByteArray} (hk1 : k.data.toList ∉ K) (hk2 : k.size ≤ 1000) (n : Int) :
    Calls Tryz.prog 75 #[.pointer (some ⟨T, 0, none⟩), .string k, .int .i64 n] W fun en w' => en = .returned (.bool true) ∧ ∃ A' B' s', TAt w' T A' B' s' ∧ Al (i + 1) s' (k.data.toList :: K) ∧ (∀ i, own T A' B' s' i → P i) ∧ Fr P W w' := by
  obtain ⟨h1, h2⟩ := h.put hi hk1 hk2 n
  refine (put_calls W T A B s hT h.ok (by have := h.e; have := h.ok.b.rng; have := h.nx; unfold lenS; omega) k hk2 n).mono ?_
  rintro en w' ⟨rfl, hm⟩
  obtain ⟨A', B', a, b, c⟩ := hm.tab hP hn
  exact ⟨by rw [h1], A', B', _, a, h2, b, c⟩
theorem put_last {W : World} {T A B : Nat} {s : St} {K : List (List UInt8)} {P : Nat → Prop} (hT : TAt W T A B s) (h : Al 4 s K) (hP : ∀ i, own T A B s i → P i) (hn : ∀ i, W.heap.size ≤ i → P i) {k : ByteArray} (hk1 : k.data.toList ∉ K) (hk2 : k.size ≤ 1000) (n : Int) :
    Calls Tryz.prog 75 #[.pointer (some ⟨T, 0, none⟩), .string k, .int .i64 n] W fun en w' => en = .returned (.bool true) ∧ ∃ A' B' s', TAt w' T A' B' s' ∧ OkS 0 s' ∧ s'.now.length = 8 ∧ s'.nxt.length = 32 ∧ lenS s' = 5 ∧ (∀ i, own T A' B' s' i → P i) ∧ Fr P W w' := by
  obtain ⟨h1, h2, h3, h4, h5⟩ := h.last hk1 hk2 n
  refine (put_calls W T A B s hT h.ok (by have := h.e; have := h.ok.b.rng; have := h.nx; unfold lenS; omega) k hk2 n).mono ?_
  rintro en w' ⟨rfl, hm⟩
  obtain ⟨A', B', a, b, c⟩ := hm.tab hP hn
  exact ⟨by rw [h1], A', B', _, a, h2, h3, h4, h5, b, c⟩
end Go.Proofs.YtmjlhmohglbecaaGreatDoor.Ta
/- Package table, plain: how many entries and graves there are behind so many Puts; how long it is moved. No program. -/
namespace Go.Proofs.YtmjlhmohglbecaaGreatDoor.Ta
/-- Behind P Puts. -/
structure RI (P : Nat) (s : St) : Prop where
  ok : OkS 0 s
  q : s.e1 + s.e2 + s.d2 ≤ P
  r : s.nxt.length = 0 → s.e1 + s.d1 ≤ P
  m : 0 < s.nxt.length → s.now.length ≤ 600
theorem mv1_q (s : St) : (mv1 s).e1 + (mv1 s).e2 + (mv1 s).d2 ≤ s.e1 + s.e2 + s.d2 := by
  unfold mv1
  cases (pAt s.now s.mv).i == 1
  · exact Int.le_refl _
  · have := addD_le s.nxt (addI s.nxt (hk (pAt s.now s.mv).k)) s.d2
    show s.e1 - 1 + (s.e2 + 1) + addD _ _ _ ≤ _
    omega
theorem step_q {s : St} (h : OkS 0 s) : (step s).e1 + (step s).e2 + (step s).d2 ≤ s.e1 + s.e2 + s.d2 ∧ ((step s).nxt.length = 0 → (s.nxt.length = 0 ∧ step s = s) ∨ (step s).e1 + (step s).d1 ≤ s.e1 + s.e2 + s.d2) ∧ (0 < (step s).nxt.length → (step s).now.length = s.now.length ∧ 0 < s.nxt.length ∧ (step s).mv = s.mv + 4) := by
  unfold step
  by_cases hn : s.nxt.length = 0
  · rw [if_pos hn]
    exact ⟨Int.le_refl _, fun _ => .inl ⟨hn, rfl⟩, fun h => by omega⟩
  · rw [if_neg hn]
    have hn : 0 < s.nxt.length := by omega
    have hm := h.mn hn
    have h8 := h.p1.facts
    have h4 := h.m4
    obtain ⟨x1, y1, z1⟩ := mv1_len s
    obtain ⟨x2, y2, z2⟩ := mv1_len (mv1 s)
    obtain ⟨x3, y3, z3⟩ := mv1_len (mv1 (mv1 s))
    obtain ⟨x4, y4, z4⟩ := mv1_len (mv1 (mv1 (mv1 s)))
    have k1 := mv1_ok h.toOk (Int.le_refl _) hn hm
    have k2 := mv1_ok k1 (by omega) (by omega) (by omega)
    have k3 := mv1_ok k2 (by omega) (by omega) (by omega)
    have k4 := mv1_ok k3 (by omega) (by omega) (by omega)
    have q1 := mv1_q s
    have q2 := mv1_q (mv1 s)
    have q3 := mv1_q (mv1 (mv1 s))
    have q4 := mv1_q (mv1 (mv1 (mv1 s)))
    generalize mv1 (mv1 (mv1 (mv1 s))) = s' at *
    have ra := k4.a.rng
    have rb := k4.b.rng
    unfold fin
    by_cases he : s'.mv = s'.now.length
    · rw [if_pos he]
      refine ⟨?_, fun _ => .inr ?_, fun h => absurd h (Nat.lt_irrefl _)⟩
      · show s'.e2 + 0 + 0 ≤ _; omega
      · show s'.e2 + s'.d2 ≤ _; omega
    · rw [if_neg he]
      exact ⟨by omega, fun h => absurd h (by omega), fun _ => ⟨by omega, hn, by omega⟩⟩
theorem OkS.to0 {s : St} (h : OkS 4 s) : OkS 0 s := { h.mono (by omega : (0 : Int) ≤ 4) with m4 := h.m4, mn := h.mn }
theorem RI.step {P : Nat} {s : St} (h : RI P s) : RI P (step s) := by
  obtain ⟨a, b, c⟩ := step_q h.ok
  have hq := h.q
  refine ⟨(step_ok h.ok).to0, by omega, fun hn => ?_, fun hn => ?_⟩
  · rcases b hn with ⟨e1, e2⟩ | e
    · rw [e2]; exact h.r e1
    · omega
  · obtain ⟨e1, e2, -⟩ := c hn
    rw [e1]; exact h.m e2
theorem RI.len {P : Nat} {s : St} (h : RI P s) : lenS s ≤ P := by
  have := h.q
  have := h.ok.b.rng
  unfold lenS
  omega
theorem RI.put {P : Nat} {s : St} (h : RI P s) (h4 : OkS 4 s) (hP : P ≤ 300) (k : ByteArray) (hk1 : k.size ≤ 1000) (n : Int) : RI (P + 1) (putS s k n) := by
  have hl := h.len
  obtain ⟨a, -⟩ := putS_ok h4 (by omega) k hk1 n
  have hq := h.q
  have hr := h.r
  have hm := h.m
  have ra := h4.a.rng
  have rb := h4.b.rng
  have h8 := h4.p1.facts
  unfold putS at a ⊢
  cases hf : fnd s k (hk k) with
  | some r =>
    obtain ⟨b, p⟩ := r
    rw [hf] at a
    cases b
    · exact ⟨a, by show s.e1 + s.e2 + s.d2 ≤ _; omega, fun hn => by have := hr hn; show s.e1 + s.d1 ≤ _; omega, fun hn => by show (setN s.now p n).length ≤ _; rw [setN_len]; exact hm hn⟩
    · have hl2 : (setN s.nxt p n).length = s.nxt.length := setN_len ..
      exact ⟨a, by show s.e1 + s.e2 + s.d2 ≤ _; omega, fun hn => by have hn : (setN s.nxt p n).length = 0 := hn; have := hr (by omega); show s.e1 + s.d1 ≤ _; omega, fun hn => by have hn : 0 < (setN s.nxt p n).length := hn; exact hm (by omega)⟩
  | none =>
    rw [hf] at a
    have a : OkS 0 (ins (beg s) k n) := a
    show RI (P + 1) (ins (beg s) k n)
    unfold beg at a ⊢
    by_cases hc : s.nxt.length = 0 ∧ (s.now.length : Int) / 2 ≤ s.e1 + s.d1
    · rw [if_pos hc] at a ⊢
      have h9 := hr hc.1
      have hN := (nextR_ok h4.toOk (by omega)).1.facts
      have hlen : (List.replicate (nextR s) zeroPl).length = nextR s := List.length_replicate
      unfold ins at a ⊢
      rw [if_pos (by show 0 < (List.replicate (nextR s) zeroPl).length; omega)] at a ⊢
      have hD := addD_le (List.replicate (nextR s) zeroPl) (addI (List.replicate (nextR s) zeroPl) (hk k)) 0
      refine ⟨a, ?_, fun hn => ?_, fun _ => ?_⟩
      · show s.e1 + (0 + 1) + addD (List.replicate (nextR s) zeroPl) (addI (List.replicate (nextR s) zeroPl) (hk k)) 0 ≤ _; omega
      · have hn : ((List.replicate (nextR s) zeroPl).set (addI (List.replicate (nextR s) zeroPl) (hk k)) ⟨1, k, n⟩).length = 0 := hn
        rw [List.length_set] at hn
        omega
      · show s.now.length ≤ 600; omega
    · rw [if_neg hc] at a ⊢
      unfold ins at a ⊢
      by_cases hn : 0 < s.nxt.length
      · rw [if_pos hn] at a ⊢
        have hD := addD_le s.nxt (addI s.nxt (hk k)) s.d2
        refine ⟨a, ?_, fun hn2 => ?_, fun _ => hm hn⟩
        · show s.e1 + (s.e2 + 1) + addD _ _ s.d2 ≤ _; omega
        · have hn2 : (s.nxt.set (addI s.nxt (hk k)) ⟨1, k, n⟩).length = 0 := hn2
          rw [List.length_set] at hn2
          omega
      · rw [if_neg hn] at a ⊢
        have hD := addD_le s.now (addI s.now (hk k)) s.d1
        have h9 := hr (by omega)
        refine ⟨a, ?_, fun _ => ?_, fun hn2 => absurd hn2 hn⟩
        · show s.e1 + 1 + s.e2 + s.d2 ≤ _; omega
        · show s.e1 + 1 + addD _ _ s.d1 ≤ _; omega
theorem RI.drop {P : Nat} {s : St} (h : RI P s) (h4 : OkS 4 s) (k : ByteArray) : RI P (dropS s k) := by
  obtain ⟨a, -⟩ := dropS_ok h4 k
  have hq := h.q
  have hr := h.r
  have hm := h.m
  unfold dropS at a ⊢
  cases hf : fnd s k (hk k) with
  | none => exact h
  | some r =>
    obtain ⟨b, p⟩ := r
    rw [hf] at a
    cases b
    · exact ⟨a, by show s.e1 - 1 + s.e2 + s.d2 ≤ _; omega, fun hn => by have := hr hn; show s.e1 - 1 + (s.d1 + 1) ≤ _; omega, fun hn => by show (s.now.set p gravePl).length ≤ _; rw [List.length_set]; exact hm hn⟩
    · have hl2 : (s.nxt.set p gravePl).length = s.nxt.length := List.length_set
      exact ⟨a, by show s.e1 + (s.e2 - 1) + (s.d2 + 1) ≤ _; omega, fun hn => by have hn : (s.nxt.set p gravePl).length = 0 := hn; have := hr (by omega); show s.e1 + s.d1 ≤ _; omega, fun hn => by have hn : 0 < (s.nxt.set p gravePl).length := hn; exact hm (by omega)⟩
theorem RI.new : RI 0 newS := ⟨newS_ok, Int.le_refl _, fun _ => Int.le_refl _, fun h => absurd h (Nat.lt_irrefl _)⟩
/-- There is always a place that is free. -/
theorem room_free {s : St} (h : OkS 0 s) : (s.nxt.length = 0 → lenS s < s.now.length) ∧ (0 < s.nxt.length → lenS s < (s.now.length : Int) + s.nxt.length) := by
  have ra := h.a.rng
  have rb := h.b.rng
  have h8 := h.p1.facts
  have hr := h.r1
  refine ⟨fun hn => by unfold lenS; omega, fun hn => ?_⟩
  have := h.m1 hn
  have := h.ml
  unfold lenS
  omega
/-- Behind i Steps. -/
structure SI (i : Nat) (s : St) : Prop where
  ok : OkS 0 s
  t : 0 < s.nxt.length → s.now.length + 4 * i ≤ 1600 + s.mv
theorem SI.step {i : Nat} {s : St} (h : SI i s) : SI (i + 1) (step s) := by
  obtain ⟨-, -, c⟩ := step_q h.ok
  refine ⟨(step_ok h.ok).to0, fun hn => ?_⟩
  obtain ⟨e1, e2, e3⟩ := c hn
  have := h.t e2
  omega
theorem SI.start {P : Nat} {s : St} (h : RI P s) : SI 0 s := ⟨h.ok, fun hn => by have := h.m hn; omega⟩
theorem SI.stop {s : St} (h : SI 400 s) : s.nxt.length = 0 := by
  rcases Nat.eq_zero_or_pos s.nxt.length with hn | hn
  · exact hn
  · have := h.t hn
    have := h.ok.mn hn
    omega
end Go.Proofs.YtmjlhmohglbecaaGreatDoor.Ta
/- Package table: a table of a call's own, as one word; TableRoom. No condition. -/
namespace Go.Proofs.YtmjlhmohglbecaaGreatDoor.Ta
open Go.ChangeShapes Go.WideShapes Go.ChangeAt Go.RowKit
/-- The table s at T, all of it at block b0 or above; what lay below in the world o stands. -/
def TB (b0 : Nat) (o : World) (T : Nat) (w : World) (s : St) : Prop := b0 ≤ o.heap.size ∧ ∃ A B, TAt w T A B s ∧ (∀ j, own T A B s j → b0 ≤ j) ∧ Fr (fun j => b0 ≤ j) o w
theorem TB.moved {b0 : Nat} {o : World} {T A B : Nat} {w w' : World} {s s' : St} (hb : b0 ≤ o.heap.size) (hP : ∀ j, own T A B s j → b0 ≤ j) (hF : Fr (fun j => b0 ≤ j) o w) (h : Moved T A B s w s' w') : TB b0 o T w' s' := by
  obtain ⟨H1, H2, a, b, c⟩ := h.tab (P := fun j => b0 ≤ j) hP (fun i hi => Nat.le_trans hb (Nat.le_trans hF.size hi))
  exact ⟨hb, H1, H2, a, b, hF.trans c⟩
theorem TB.put {b0 : Nat} {o : World} {T : Nat} {w : World} {s : St} (h : TB b0 o T w s) (hO : OkS 0 s) (hl : lenS s ≤ 511) (k : ByteArray) (hk1 : k.size ≤ 1000) (n : Int) :
    Calls Tryz.prog 75 #[.pointer (some ⟨T, 0, none⟩), .string k, .int .i64 n] w fun en w' => en = .returned (.bool (fnd (step s) k (hk k)).isNone) ∧ TB b0 o T w' (putS (step s) k n) := by
  obtain ⟨hb, A, B, hT, hP, hF⟩ := h
  exact (put_calls w T A B s hT hO hl k hk1 n).mono fun _ _ ⟨a, b⟩ => ⟨a, TB.moved hb hP hF b⟩
theorem TB.drop {b0 : Nat} {o : World} {T : Nat} {w : World} {s : St} (h : TB b0 o T w s) (hO : OkS 0 s) (k : ByteArray) (hk1 : k.size ≤ 1000) :
    Calls Tryz.prog 83 #[.pointer (some ⟨T, 0, none⟩), .string k] w fun en w' => en = .returned (.tuple #[.int .i64 (valS (step s) k), .bool (fnd (step s) k (hk k)).isSome]) ∧ TB b0 o T w' (dropS (step s) k) := by
  obtain ⟨hb, A, B, hT, hP, hF⟩ := h
  exact (drop_calls w T A B s hT hO k hk1).mono fun _ _ ⟨a, b⟩ => ⟨a, TB.moved hb hP hF b⟩
theorem TB.step {b0 : Nat} {o : World} {T : Nat} {w : World} {s : St} (h : TB b0 o T w s) (hO : OkS 0 s) :
    Calls Tryz.prog 69 #[.pointer (some ⟨T, 0, none⟩)] w fun en w' => en = .returned (.tuple #[]) ∧ TB b0 o T w' (step s) := by
  obtain ⟨hb, A, B, hT, hP, hF⟩ := h
  refine (step_calls w T A B s hT hO).mono fun _ _ ⟨a, H1, H2, b, c, d⟩ => ⟨a, hb, H1, H2, b, fun j hj => hP j (d j hj), hF.trans (c.mono hP)⟩
theorem TB.drew {b0 : Nat} {o : World} {T : Nat} {w : World} {s : St} (h : TB b0 o T w s) (n : Nat) : TB b0 o T (w.drewN n) s := by
  obtain ⟨hb, A, B, hT, hP, hF⟩ := h
  exact ⟨hb, A, B, hT.below (drewN_below w n), hP, hF.trans (Fr.drewN w n)⟩
theorem TB.len {b0 : Nat} {o : World} {T : Nat} {w : World} {s : St} (h : TB b0 o T w s) {c : Int} (hO : Ok c s) :
    Calls Tryz.prog 11 #[.pointer (some ⟨T, 0, none⟩)] w fun e w' => e = .returned (.int .i64 (lenS s)) ∧ ∃ n, w' = w.drewN n := by
  obtain ⟨hb, A, B, hT, hP, hF⟩ := h
  exact len_calls w T A B s hT hO
theorem TB.below {b0 : Nat} {o : World} {T : Nat} {w : World} {s : St} (h : TB b0 o T w s) : Below b0 o w := h.2.elim fun _ ⟨_, _, _, hF⟩ => hF.below h.1 (fun i hi => by omega)
theorem TB.new {w w' : World} (hT : TAt w' (w.heap.size + 2) (w.heap.size + 1) (w.heap.size + 1) newS) (hb : Below w.heap.size w w') : TB w.heap.size w (w.heap.size + 2) w' newS :=
  ⟨Nat.le_refl _, _, _, hT, fun j hj => by
    rcases hj with e | e | ⟨e, -⟩
    · omega
    · omega
    · exact absurd e (Nat.lt_irrefl _), Fr.of_below hb⟩
theorem enc2 (x y : Int) : (Utf8.encode x ++ Utf8.encode y).size ≤ 1000 := by
  rw [ByteArray.size_append]
  have := encode_size_le x
  have := encode_size_le y
  omega
end Go.Proofs.YtmjlhmohglbecaaGreatDoor.Ta
