/- Package table: the statements' alive call. No condition. -/
import Derived.Test.YtpbblijnfigapaaTaf
namespace Go.Proofs.Ytpbblijnfigapaa.Ta
open Go.ChangeShapes Go.WideShapes Go.ChangeAt Go.RowKit
theorem Moved.tab {T G1 G2 : Nat} {s s' : St} {w w' : World} {P : Nat → Prop} (h : Moved T G1 G2 s w s' w') (hP : ∀ i, own T G1 G2 s i → P i) (hn : ∀ i, w.heap.size ≤ i → P i) : ∃ H1 H2, TAt w' T H1 H2 s' ∧ (∀ i, own T H1 H2 s' i → P i) ∧ Fr P w w' := by
  obtain ⟨H1, H2, a, b, c⟩ := h
  exact ⟨H1, H2, a, fun i hi => by rcases c i hi with h | h; exact hP i h; exact hn i h, b.mono hP⟩
/-- A few keys, none of them moved. -/
structure Al (i : Nat) (s : St) (K : List (List UInt8)) : Prop where
  ok : OkS 0 s
  nx : s.nxt.length = 0
  ln : s.now.length = 8
  e : s.e1 = i
  d : s.d1 = 0
  ks : ∀ q, q ∈ s.now → q.i = 1 → q.k.data.toList ∈ K
theorem Al.none {i : Nat} {s : St} {K : List (List UInt8)} (h : Al i s K) {k : ByteArray} (hk1 : k.data.toList ∉ K) : fnd s k (hk k) = none := by
  cases hf : fnd s k (hk k) with
  | none => rfl
  | some r =>
    obtain ⟨b, p⟩ := r
    cases b
    · obtain ⟨p1, p2, p3⟩ := findP_ok (fnd_now hf)
      rw [pAt_lt p1] at p2 p3
      have := h.ks _ (List.getElem_mem p1) p2
      rw [Lib.toList_data, Lib.toList_data] at p3
      rw [p3] at this
      exact absurd this hk1
    · obtain ⟨p1, -, -⟩ := findP_ok (fnd_nxt hf).2
      have := h.nx
      omega
theorem Al.step {i : Nat} {s : St} {K : List (List UInt8)} (h : Al i s K) : step s = s := by unfold Ta.step; rw [if_pos h.nx]
theorem Al.put {i : Nat} {s : St} {K : List (List UInt8)} (h : Al i s K) (hi : i < 4) {k : ByteArray} (hk1 : k.data.toList ∉ K) (hk2 : k.size ≤ 1000) (n : Int) :
    (fnd (Ta.step s) k (hk k)).isNone = true ∧ Al (i + 1) (putS (Ta.step s) k n) (k.data.toList :: K) := by
  have hO4 := step_ok h.ok
  rw [h.step] at hO4 ⊢
  have hf := h.none hk1
  have he := h.e
  have hd := h.d
  have hb := h.ok.b.rng
  have hx := h.nx
  have hln := h.ln
  obtain ⟨a, b⟩ := putS_ok hO4 (by unfold lenS; omega) k hk2 n
  refine ⟨by rw [hf]; rfl, ?_⟩
  have hbeg : beg s = s := by unfold beg; rw [if_neg (by rw [he, hd, hln]; omega)]
  have hp : putS s k n = { s with now := s.now.set (addI s.now (hk k)) ⟨1, k, n⟩, e1 := s.e1 + 1, d1 := addD s.now (addI s.now (hk k)) s.d1 } := by
    unfold putS
    rw [hf]
    show ins (beg s) k n = _
    rw [hbeg]
    unfold ins
    rw [if_neg (by omega)]
  rw [hp] at a ⊢
  have hr := a.a.rng
  have hr2 : (0 : Int) ≤ addD s.now (addI s.now (hk k)) s.d1 := hr.2.1
  have := addD_le s.now (addI s.now (hk k)) s.d1
  refine ⟨a, hx, by show (s.now.set _ _).length = 8; rw [List.length_set]; exact hln, by show s.e1 + 1 = ((i + 1 : Nat) : Int); omega, by show addD _ _ _ = (0 : Int); omega, fun q hq hq1 => ?_⟩
  rcases mem_set hq with h1 | rfl
  · exact List.mem_cons_of_mem _ (h.ks q h1 hq1)
  · exact List.mem_cons_self ..
theorem Al.last {s : St} {K : List (List UInt8)} (h : Al 4 s K) {k : ByteArray} (hk1 : k.data.toList ∉ K) (hk2 : k.size ≤ 1000) (n : Int) :
    (fnd (Ta.step s) k (hk k)).isNone = true ∧ OkS 0 (putS (Ta.step s) k n) ∧ (putS (Ta.step s) k n).now.length = 8 ∧ (putS (Ta.step s) k n).nxt.length = 32 ∧ lenS (putS (Ta.step s) k n) = 5 := by
  have hO4 := step_ok h.ok
  rw [h.step] at hO4 ⊢
  have hf := h.none hk1
  have he := h.e
  have hd := h.d
  have hb := h.ok.b.rng
  have hx := h.nx
  have hln := h.ln
  have hls : lenS s = 4 := by unfold lenS; omega
  obtain ⟨a, b⟩ := putS_ok hO4 (by omega) k hk2 n
  have hnr : nextR s = 32 := by unfold nextR; rw [hls, hln]; rfl
  have hbeg : beg s = { s with nxt := List.replicate 32 zeroPl, e2 := 0, d2 := 0 } := by unfold beg; rw [if_pos (by rw [he, hd, hln]; exact ⟨hx, by omega⟩), hnr]
  have hp : putS s k n = ins { s with nxt := List.replicate 32 zeroPl, e2 := 0, d2 := 0 } k n := by unfold putS; rw [hf]; show ins (beg s) k n = _; rw [hbeg]
  refine ⟨by rw [hf]; rfl, a, ?_, ?_, by rw [b, hf, hls]; rfl⟩
  · rw [hp]; unfold ins; rw [if_pos (by show 0 < (List.replicate 32 zeroPl).length; decide)]; exact hln
  · rw [hp]; unfold ins; rw [if_pos (by show 0 < (List.replicate 32 zeroPl).length; decide)]; show ((List.replicate 32 zeroPl).set _ _).length = 32; rw [List.length_set]; rfl
theorem al_new : Al 0 newS [] := ⟨newS_ok, rfl, rfl, rfl, rfl, fun q hq h => by
  rw [List.eq_of_mem_replicate hq] at h
  cases h⟩
theorem put_al {W : World} {T A B i : Nat} {s : St} {K : List (List UInt8)} {P : Nat → Prop} (hT : TAt W T A B s) (h : Al i s K) (hP : ∀ i, own T A B s i → P i) (hn : ∀ i, W.heap.size ≤ i → P i) (hi : i < 4) {k : ByteArray} (hk1 : k.data.toList ∉ K) (hk2 : k.size ≤ 1000) (n : Int) :
    Calls Try.prog 11 #[.pointer (some ⟨T, 0, none⟩), .string k, .int .i64 n] W fun en w' => en = .returned (.bool true) ∧ ∃ A' B' s', TAt w' T A' B' s' ∧ Al (i + 1) s' (k.data.toList :: K) ∧ (∀ i, own T A' B' s' i → P i) ∧ Fr P W w' := by
  obtain ⟨h1, h2⟩ := h.put hi hk1 hk2 n
  refine (put_calls W T A B s hT h.ok (by have := h.e; have := h.ok.b.rng; have := h.nx; unfold lenS; omega) k hk2 n).mono ?_
  rintro en w' ⟨rfl, hm⟩
  obtain ⟨A', B', a, b, c⟩ := hm.tab hP hn
  exact ⟨by rw [h1], A', B', _, a, h2, b, c⟩
theorem put_last {W : World} {T A B : Nat} {s : St} {K : List (List UInt8)} {P : Nat → Prop} (hT : TAt W T A B s) (h : Al 4 s K) (hP : ∀ i, own T A B s i → P i) (hn : ∀ i, W.heap.size ≤ i → P i) {k : ByteArray} (hk1 : k.data.toList ∉ K) (hk2 : k.size ≤ 1000) (n : Int) :
    Calls Try.prog 11 #[.pointer (some ⟨T, 0, none⟩), .string k, .int .i64 n] W fun en w' => en = .returned (.bool true) ∧ ∃ A' B' s', TAt w' T A' B' s' ∧ OkS 0 s' ∧ s'.now.length = 8 ∧ s'.nxt.length = 32 ∧ lenS s' = 5 ∧ (∀ i, own T A' B' s' i → P i) ∧ Fr P W w' := by
  obtain ⟨h1, h2, h3, h4, h5⟩ := h.last hk1 hk2 n
  refine (put_calls W T A B s hT h.ok (by have := h.e; have := h.ok.b.rng; have := h.nx; unfold lenS; omega) k hk2 n).mono ?_
  rintro en w' ⟨rfl, hm⟩
  obtain ⟨A', B', a, b, c⟩ := hm.tab hP hn
  exact ⟨by rw [h1], A', B', _, a, h2, h3, h4, h5, b, c⟩
set_option maxHeartbeats 4000000 in
set_option maxRecDepth 100000 in
theorem tableAlive (w : World) : Calls Try.prog 7 #[] w fun e w' => e = .returned (.bool true) ∧ Below w.heap.size w w' := by
  have H0 := Lib.hid (newT_calls w)
  go_enter Try.func7, Try.ntmps7
  go_wp2_with fail
  refine H0.out.mono ?_; rintro en w1 ⟨rfl, hT, hb⟩
  have HB := Lib.hid hb
  have hT2 := hT.a.lt
  have HT0 := Lib.hid (fun o => hT.below (bbox (w := w1) o))
  have HA0 := Lib.hid al_new
  clear hT hb
  go_wp2_with fail
  obtain ⟨T, hTe⟩ : ∃ T, T = w.heap.size + 2 := ⟨_, rfl⟩
  obtain ⟨b, hbe⟩ : ∃ b, b = w1.heap.size := ⟨_, rfl⟩
  obtain ⟨P, hPe⟩ : ∃ P : Nat → Prop, P = fun i => w.heap.size ≤ i ∧ i ≠ b := ⟨_, rfl⟩
  have HP0 : Hid (∀ i, own T (w.heap.size + 1) (w.heap.size + 1) newS i → P i) := Lib.hid (fun i hi => by
    rw [hPe]
    rcases hi with e | e | ⟨e, -⟩
    · exact ⟨by omega, by omega⟩
    · exact ⟨by omega, by omega⟩
    · exact absurd e (Nat.lt_irrefl _))
  have HPN : Hid (∀ W : World, b < W.heap.size → ∀ i, W.heap.size ≤ i → P i) := Lib.hid (fun W hW i hi => by rw [hPe]; exact ⟨by omega, by omega⟩)
  have HPB : Hid (¬ P b) := Lib.hid (by rw [hPe]; exact fun h => h.2 rfl)
  have HPW : Hid (∀ i, i < w.heap.size → ¬ P i) := Lib.hid (fun i hi h => by rw [hPe] at h; have := h.1; omega)
  have HS0 : Hid (b < (w1.alloc (.cells #[.string ⟨#[97]⟩, .string ⟨#[98]⟩, .string ⟨#[99]⟩, .string ⟨#[100]⟩, .string ⟨#[101]⟩] 9)).heap.size) := Lib.hid (by rw [hbe]; simp)
  have HC0 : Hid ((w1.alloc (.cells #[.string ⟨#[97]⟩, .string ⟨#[98]⟩, .string ⟨#[99]⟩, .string ⟨#[100]⟩, .string ⟨#[101]⟩] 9)).heap[b]? = some (.cells #[.string ⟨#[97]⟩, .string ⟨#[98]⟩, .string ⟨#[99]⟩, .string ⟨#[100]⟩, .string ⟨#[101]⟩] 9)) := Lib.hid (by rw [hbe]; exact heap_alloc_new w1 _)
  have HFW : Hid (Fr P w1 (w1.alloc (.cells #[.string ⟨#[97]⟩, .string ⟨#[98]⟩, .string ⟨#[99]⟩, .string ⟨#[100]⟩, .string ⟨#[101]⟩] 9))) := Lib.hid (Fr.of_below (bbox _))
  have HT0 := Lib.hid (HT0.out (.cells #[.string ⟨#[97]⟩, .string ⟨#[98]⟩, .string ⟨#[99]⟩, .string ⟨#[100]⟩, .string ⟨#[101]⟩] 9))
  rw [← hTe] at HT0 ⊢
  rw [← hbe]
  have Hwl := Lib.hid HB.out.size
  clear hPe hTe hT2 hbe H0
  generalize w1.alloc (.cells #[.string ⟨#[97]⟩, .string ⟨#[98]⟩, .string ⟨#[99]⟩, .string ⟨#[100]⟩, .string ⟨#[101]⟩] 9) = W0 at *
  generalize hA0 : w.heap.size + 1 = A0 at *
  generalize newS = s0 at *
  refine wp_loop_rounds 6 ?_
  rw [rounds_succ]
  have k0 : W0.cell? ⟨b, 0, none⟩ = some (.string ⟨#[97]⟩) := by simp [World.cell?, HC0.out]
  have HPu := Lib.hid (put_al HT0.out HA0.out HP0.out (HPN.out W0 HS0.out) (by omega) (k := ⟨#[97]⟩) (by decide) (by decide) 1)
  go_wp2_with fail
  refine HPu.out.mono ?_; rintro en W1 ⟨rfl, A1, B1, s1, hT, hA, hP, hF⟩
  have HT1 := Lib.hid hT
  have HA1 := Lib.hid hA
  have HP1 := Lib.hid hP
  have HS1 := Lib.hid (Nat.lt_of_lt_of_le HS0.out hF.size)
  have HC1 := Lib.hid ((hF.block b HS0.out HPB.out).trans HC0.out)
  have HFW := Lib.hid (HFW.out.trans hF)
  clear hT hA hP hF HPu k0
  go_wp2_with fail
  rw [rounds_succ]
  have k1 : W1.cell? ⟨b, 1, none⟩ = some (.string ⟨#[98]⟩) := by simp [World.cell?, HC1.out]
  have HPu := Lib.hid (put_al HT1.out HA1.out HP1.out (HPN.out W1 HS1.out) (by omega) (k := ⟨#[98]⟩) (by decide) (by decide) 1)
  go_wp2_with fail
  refine HPu.out.mono ?_; rintro en W2 ⟨rfl, A2, B2, s2, hT, hA, hP, hF⟩
  have HT2 := Lib.hid hT
  have HA2 := Lib.hid hA
  have HP2 := Lib.hid hP
  have HS2 := Lib.hid (Nat.lt_of_lt_of_le HS1.out hF.size)
  have HC2 := Lib.hid ((hF.block b HS1.out HPB.out).trans HC1.out)
  have HFW := Lib.hid (HFW.out.trans hF)
  clear hT hA hP hF HPu k1
  go_wp2_with fail
  rw [rounds_succ]
  have k2 : W2.cell? ⟨b, 2, none⟩ = some (.string ⟨#[99]⟩) := by simp [World.cell?, HC2.out]
  have HPu := Lib.hid (put_al HT2.out HA2.out HP2.out (HPN.out W2 HS2.out) (by omega) (k := ⟨#[99]⟩) (by decide) (by decide) 1)
  go_wp2_with fail
  refine HPu.out.mono ?_; rintro en W3 ⟨rfl, A3, B3, s3, hT, hA, hP, hF⟩
  have HT3 := Lib.hid hT
  have HA3 := Lib.hid hA
  have HP3 := Lib.hid hP
  have HS3 := Lib.hid (Nat.lt_of_lt_of_le HS2.out hF.size)
  have HC3 := Lib.hid ((hF.block b HS2.out HPB.out).trans HC2.out)
  have HFW := Lib.hid (HFW.out.trans hF)
  clear hT hA hP hF HPu k2
  go_wp2_with fail
  rw [rounds_succ]
  have k3 : W3.cell? ⟨b, 3, none⟩ = some (.string ⟨#[100]⟩) := by simp [World.cell?, HC3.out]
  have HPu := Lib.hid (put_al HT3.out HA3.out HP3.out (HPN.out W3 HS3.out) (by omega) (k := ⟨#[100]⟩) (by decide) (by decide) 1)
  go_wp2_with fail
  refine HPu.out.mono ?_; rintro en W4 ⟨rfl, A4, B4, s4, hT, hA, hP, hF⟩
  have HT4 := Lib.hid hT
  have HA4 := Lib.hid hA
  have HP4 := Lib.hid hP
  have HS4 := Lib.hid (Nat.lt_of_lt_of_le HS3.out hF.size)
  have HC4 := Lib.hid ((hF.block b HS3.out HPB.out).trans HC3.out)
  have HFW := Lib.hid (HFW.out.trans hF)
  clear hT hA hP hF HPu k3
  go_wp2_with fail
  rw [rounds_succ]
  have k4 : W4.cell? ⟨b, 4, none⟩ = some (.string ⟨#[101]⟩) := by simp [World.cell?, HC4.out]
  have HPu := Lib.hid (put_last HT4.out HA4.out HP4.out (HPN.out W4 HS4.out) (k := ⟨#[101]⟩) (by decide) (by decide) 1)
  go_wp2_with fail
  refine HPu.out.mono ?_; rintro en W5 ⟨rfl, A5, B5, s5, hT, hO, hl1, hl2, hl3, hP, hF⟩
  have HFW := Lib.hid (HFW.out.trans hF)
  have HRm := Lib.hid (room2_calls W5 T A5 B5 s5 hT)
  have HLn := Lib.hid (fun n => len_calls (W5.drewN n) T A5 B5 s5 (hT.below (drewN_below W5 n)) hO.toOk)
  rw [hl1, hl2] at HRm
  rw [hl3] at HLn
  clear hT hO hl1 hl2 hl3 hP hF HPu k4
  go_wp2_with fail
  rw [rounds_succ]
  go_wp2_with fail
  refine HRm.out.mono ?_; rintro en W6 ⟨rfl, n6, rfl⟩
  go_wp2_with fail
  refine (HLn.out _).mono ?_; rintro en W7 ⟨rfl, n7, rfl⟩
  go_wp2_with fail
  go_ret
  exact ⟨rfl, HB.out.trans ((HFW.out.trans (Fr.drewN W5 (n6 + n7))).below Hwl.out HPW.out)⟩
end Go.Proofs.Ytpbblijnfigapaa.Ta
