/- Package table: Put. Conditions: what is always so of a table; bounds. -/
import Derived.Test.YtpbblijnfigapaaTad
import Derived.Test.YtpbblijnfigapaaTa8
namespace Go.Proofs.Ytpbblijnfigapaa.Ta
open Go.ChangeShapes Go.WideShapes Go.ChangeAt Go.RowKit
/-- What add leaves. -/
theorem ins_done3 {w w' : World} {T G1 G2 : Nat} {u : St} (h : TAt w T G1 G2 u) (hn : 0 < u.nxt.length) (k : ByteArray) (n : Int) (p : PAt w' T 3 G2 (u.nxt.set (addI u.nxt (hk k)) ⟨1, k, n⟩) (u.e2 + 1) (addD u.nxt (addI u.nxt (hk k)) u.d2)) (c : Ch T 3 G2 w w') : Moved T G1 G2 u w (ins u k n) w' := by
  unfold ins
  rw [if_pos hn]
  exact ⟨G1, G2, ⟨h.a.ch c (.inl (Nat.le_refl _)) (fun _ => h.g hn), p, (c.ot 6 (by omega)).trans h.m, fun _ => h.g hn⟩, c.fr.mono fun i e => by rcases e with e | e; exact .inl e; exact .inr (.inr ⟨hn, e⟩), fun i hi => .inl (by
    rcases hi with e | e | ⟨_, e⟩
    · exact .inl e
    · exact .inr (.inl e)
    · exact .inr (.inr ⟨hn, e⟩))⟩
theorem ins_done0 {w w' : World} {T G1 G2 : Nat} {u : St} (h : TAt w T G1 G2 u) (hn : ¬ 0 < u.nxt.length) (k : ByteArray) (n : Int) (p : PAt w' T 0 G1 (u.now.set (addI u.now (hk k)) ⟨1, k, n⟩) (u.e1 + 1) (addD u.now (addI u.now (hk k)) u.d1)) (c : Ch T 0 G1 w w') : Moved T G1 G2 u w (ins u k n) w' := by
  unfold ins
  rw [if_neg hn]
  exact ⟨G1, G2, ⟨p, h.b.ch c (.inr (Nat.le_refl _)) (fun e => absurd e hn), (c.ot 6 (by omega)).trans h.m, fun e => absurd e hn⟩, c.fr.mono fun i e => by rcases e with e | e; exact .inl e; exact .inr (.inl e), fun i hi => .inl hi⟩
set_option maxHeartbeats 4000000 in
set_option maxRecDepth 100000 in
theorem put_calls (w : World) (T G1 G2 : Nat) (s : St) (hT : TAt w T G1 G2 s) (hO : OkS 0 s) (hl : lenS s ≤ 511) (k : ByteArray) (hk1 : k.size ≤ 1000) (n : Int) :
    Calls Try.prog 11 #[.pointer (some ⟨T, 0, none⟩), .string k, .int .i64 n] w fun en w' => en = .returned (.bool (fnd (step s) k (hk k)).isNone) ∧ Moved T G1 G2 s w (putS (step s) k n) w' := by
  have HS := Lib.hid (step_calls w T G1 G2 s hT hO)
  have hO4 := step_ok hO
  have hl4 : lenS (step s) ≤ 511 := by rw [step_len hO]; exact hl
  have HMT : Hid (∀ {H1 H2 : Nat} {s2 : St} {w1 w2 : World}, Fr (own T G1 G2 s) w w1 → (∀ i, own T H1 H2 (step s) i → own T G1 G2 s i) → Moved T H1 H2 (step s) w1 s2 w2 → Moved T G1 G2 s w s2 w2) := Lib.hid (fun a b c => Moved.trans a (fun i hi => .inl (b i hi)) c)
  clear hT hO hl
  generalize step s = u at *
  have HO := Lib.hid hO4
  have HL := Lib.hid hl4
  clear hO4 hl4
  go_enter Try.func11, Try.ntmps11
  go_wp2_with fail
  refine HS.out.mono ?_; rintro en w1 ⟨rfl, A, B, hT1, hf1, ho1⟩
  have HT1 := Lib.hid hT1
  have HM1 : Hid (∀ {s2 : St} {w2 : World}, Moved T A B u w1 s2 w2 → Moved T G1 G2 s w s2 w2) := Lib.hid (fun c => HMT.out hf1 ho1 c)
  clear hT1 hf1 ho1 HS HMT
  have HHa := Lib.hid (fun W => hash_calls W k (by omega))
  have HFi := Lib.hid (tfind_calls w1 T A B u HT1.out HO.out.toOk (by omega) k (hk k) (hsh_lt _))
  go_wp2_with fail
  refine (HHa.out _).mono ?_; rintro en w2 ⟨rfl, rfl⟩
  go_wp2_with fail
  cases hf : fnd u k (hk k) with
  | some r =>
    obtain ⟨b, p⟩ := r
    have HPS : Hid (putS u k n = if b then { u with nxt := setN u.nxt p n } else { u with now := setN u.now p n }) := Lib.hid (by unfold putS; rw [hf]; cases b <;> rfl)
    cases b with
    | false =>
      have HIN : Hid ((fnd u k (hk k)).isNone = false) := Lib.hid (by rw [hf]; rfl)
      have HFi2 : Hid (Calls Try.prog 21 #[.pointer (some ⟨T, 0, none⟩), .string k, .int .u64 (hk k : Nat)] w1 fun e w' => e = .returned (.tuple #[.pointer (some ⟨T, 0, none⟩), .int .i64 (p : Nat)]) ∧ Below w1.heap.size w1 w') := Lib.hid (by have h := HFi.out; rw [hf] at h; exact h)
      refine HFi2.out.mono ?_; rintro en w2 ⟨rfl, hb2⟩
      have HT2 := Lib.hid (HT1.out.below hb2)
      have HM2 : Hid (∀ {s2 : St} {w3 : World}, Moved T A B u w2 s2 w3 → Moved T G1 G2 s w s2 w3) := Lib.hid (fun c => HM1.out (Moved.trans (Fr.of_below hb2) (fun i hi => .inl hi) c))
      clear hb2 HFi HFi2 HM1 HT1
      obtain ⟨hp, -, -⟩ := findP_ok (fnd_now hf)
      obtain ⟨x0, c0, hx⟩ := HT2.out.a.c0
      obtain rfl := hx (by omega)
      have hc := (HT2.out.a.pl p hp).2.2
      have hfg := HT2.out.a.fg (by omega)
      have HZ := Lib.hid (put_found0 HT2.out p hp n)
      have hpc : (p : Int) < (u.now.length : Int) := by omega
      clear hf hx
      go_wp2_with fail
      go_ret
      exact ⟨by rw [HIN.out]; rfl, HM2.out (by rw [HPS.out]; exact HZ.out)⟩
    | true =>
      have HIN : Hid ((fnd u k (hk k)).isNone = false) := Lib.hid (by rw [hf]; rfl)
      have HFi2 : Hid (Calls Try.prog 21 #[.pointer (some ⟨T, 0, none⟩), .string k, .int .u64 (hk k : Nat)] w1 fun e w' => e = .returned (.tuple #[.pointer (some ⟨T, 3, none⟩), .int .i64 (p : Nat)]) ∧ Below w1.heap.size w1 w') := Lib.hid (by have h := HFi.out; rw [hf] at h; exact h)
      refine HFi2.out.mono ?_; rintro en w2 ⟨rfl, hb2⟩
      have HT2 := Lib.hid (HT1.out.below hb2)
      have HM2 : Hid (∀ {s2 : St} {w3 : World}, Moved T A B u w2 s2 w3 → Moved T G1 G2 s w s2 w3) := Lib.hid (fun c => HM1.out (Moved.trans (Fr.of_below hb2) (fun i hi => .inl hi) c))
      clear hb2 HFi HFi2 HM1 HT1
      obtain ⟨hp, -, -⟩ := findP_ok (fnd_nxt hf).2
      obtain ⟨x0, c0, hx⟩ := HT2.out.b.c0
      obtain rfl := hx (by omega)
      have hc := (HT2.out.b.pl p hp).2.2
      have hfg := HT2.out.b.fg (by omega)
      have HZ := Lib.hid (put_found3 HT2.out p hp n)
      have hpc : (p : Int) < (u.nxt.length : Int) := by omega
      clear hf hx
      go_wp2_with fail
      go_ret
      exact ⟨by rw [HIN.out]; rfl, HM2.out (by rw [HPS.out]; exact HZ.out)⟩
  | none =>
    have HIN : Hid ((fnd u k (hk k)).isNone = true) := Lib.hid (by rw [hf]; rfl)
    have HFi2 : Hid (Calls Try.prog 21 #[.pointer (some ⟨T, 0, none⟩), .string k, .int .u64 (hk k : Nat)] w1 fun e w' => e = .returned (.tuple #[.pointer none, .int .i64 (0 : Nat)]) ∧ Below w1.heap.size w1 w') := Lib.hid (by have h := HFi.out; rw [hf] at h; exact h)
    refine HFi2.out.mono ?_; rintro en w2 ⟨rfl, hb2⟩
    have HT2 := Lib.hid (HT1.out.below hb2)
    have HM2 : Hid (∀ {s2 : St} {w3 : World}, Moved T A B u w2 s2 w3 → Moved T G1 G2 s w s2 w3) := Lib.hid (fun c => HM1.out (Moved.trans (Fr.of_below hb2) (fun i hi => .inl hi) c))
    clear hb2 HFi HFi2 HM1 HT1
    have HPS : Hid (putS u k n = ins (beg u) k n) := Lib.hid (by unfold putS; rw [hf])
    clear hf
    obtain ⟨x3, c3, hx3⟩ := HT2.out.b.c0
    have HMo := Lib.hid (moving_calls w2 T x3 u.nxt.length c3)
    have hE := Lib.hid (HO.out.b.rng)
    by_cases hn : 0 < u.nxt.length
    · rw [decide_eq_true hn] at HMo
      have HBG : Hid (beg u = u) := Lib.hid (by unfold beg; rw [if_neg (by omega)])
      have HAd := Lib.hid (add_calls w2 T 3 B u.nxt u.e2 u.d2 HT2.out.b k (hk k) (hsh_lt _) n (by have := HO.out.b2; omega) hn (HO.out.nxt0 (by omega) hn) (by have := hE.out; have := HO.out.b2; omega) (by have := hE.out; have := HO.out.b2; omega))
      clear hx3
      go_wp2_with fail
      refine HMo.out.mono ?_; rintro en w3 ⟨rfl, rfl⟩
      go_wp2_with fail
      refine HMo.out.mono ?_; rintro en w3 ⟨rfl, rfl⟩
      go_wp2_with fail
      refine HAd.out.mono ?_; rintro en w4 ⟨rfl, hp4, hk4⟩
      have HZ := Lib.hid (ins_done3 HT2.out hn k n hp4 hk4)
      clear hp4 hk4
      go_wp2_with fail
      go_ret
      exact ⟨by rw [HIN.out]; rfl, HM2.out (by rw [HPS.out, HBG.out]; exact HZ.out)⟩
    · rw [decide_eq_false hn] at HMo
      obtain ⟨x0, c0, hx0⟩ := HT2.out.a.c0
      have hp1 := HO.out.p1.facts
      have hb1 := HO.out.b1
      have hA := HO.out.a.rng
      have HCr := Lib.hid (crowded_calls w2 T 0 x0 u.now.length u.e1 u.d1 c0 HT2.out.a.c1 HT2.out.a.c2 (by omega) (by omega) (by omega))
      cases hcr : decide ((u.now.length : Int) / 2 ≤ u.e1 + u.d1)
      · rw [hcr] at HCr
        have HBG : Hid (beg u = u) := Lib.hid (by unfold beg; rw [if_neg (fun h => of_decide_eq_false hcr h.2)])
        clear hx3 hx0
        go_wp2_with fail
        refine HMo.out.mono ?_; rintro en w3 ⟨rfl, rfl⟩
        go_wp2_with fail
        refine HCr.out.mono ?_; rintro en w3 ⟨rfl, kk, rfl⟩
        have HT3 := Lib.hid (HT2.out.below (drewN_below w2 kk))
        have HM3 : Hid (∀ {s2 : St} {w3 : World}, Moved T A B u (w2.drewN kk) s2 w3 → Moved T G1 G2 s w s2 w3) := Lib.hid (fun c => HM2.out (Moved.trans (Fr.drewN w2 kk) (fun i hi => .inl hi) c))
        have HMo3 := Lib.hid (moving_calls (w2.drewN kk) T x3 u.nxt.length c3)
        rw [decide_eq_false hn] at HMo3
        have HAd := Lib.hid (add_calls (w2.drewN kk) T 0 A u.now u.e1 u.d1 HT3.out.a k (hk k) (hsh_lt _) n (by omega) (by omega) HO.out.now0 (by omega) (by omega))
        generalize w2.drewN kk = W3 at *
        go_wp2_with fail
        refine HMo3.out.mono ?_; rintro en w3 ⟨rfl, rfl⟩
        go_wp2_with fail
        refine HAd.out.mono ?_; rintro en w4 ⟨rfl, hp4, hk4⟩
        have HZ := Lib.hid (ins_done0 HT3.out hn k n hp4 hk4)
        clear hp4 hk4
        go_wp2_with fail
        go_ret
        exact ⟨by rw [HIN.out]; rfl, HM3.out (by rw [HPS.out, HBG.out]; exact HZ.out)⟩
      · rw [hcr] at HCr
        have HBG : Hid (beg u = { u with nxt := List.replicate (nextR u) zeroPl, e2 := 0, d2 := 0 }) := Lib.hid (by unfold beg; rw [if_pos ⟨by omega, of_decide_eq_true hcr⟩])
        have HBO := Lib.hid (beg_ok HO.out HL.out)
        have HNR := Lib.hid (nextR_ok HO.out.toOk HL.out)
        clear hx3 hx0
        go_wp2_with fail
        refine HMo.out.mono ?_; rintro en w3 ⟨rfl, rfl⟩
        go_wp2_with fail
        refine HCr.out.mono ?_; rintro en w3 ⟨rfl, kk, rfl⟩
        have HT3 := Lib.hid (HT2.out.below (drewN_below w2 kk))
        have HM3 : Hid (∀ {s2 : St} {w3 : World}, Moved T A B u (w2.drewN kk) s2 w3 → Moved T G1 G2 s w s2 w3) := Lib.hid (fun c => HM2.out (Moved.trans (Fr.drewN w2 kk) (fun i hi => .inl hi) c))
        clear c0 c3
        generalize w2.drewN kk = W3 at *
        have HNx := Lib.hid (nextRoom_calls W3 T A B u HT3.out HO.out.toOk HL.out)
        go_wp2_with fail
        refine HNx.out.mono ?_; rintro en w4 ⟨rfl, k4, rfl⟩
        have HT4 := Lib.hid (HT3.out.below (drewN_below W3 k4))
        have HM4 : Hid (∀ {s2 : St} {w3 : World}, Moved T A B u (W3.drewN k4) s2 w3 → Moved T G1 G2 s w s2 w3) := Lib.hid (fun c => HM3.out (Moved.trans (Fr.drewN W3 k4) (fun i hi => .inl hi) c))
        generalize W3.drewN k4 = W4 at *
        have HOR := Lib.hid (ofRoom_calls W4 (nextR u) (by have := HNR.out; omega))
        go_wp2_with fail
        refine HOR.out.mono ?_; rintro en w5 ⟨rfl, hb5, hz5, hh5⟩
        have HT5 := Lib.hid (HT4.out.below hb5)
        have HTl := HT4.out.a.lt
        have HGl := HT4.out.a.ltG (by omega)
        obtain ⟨f1, f2⟩ := fresh_cells hh5
        have HB5 := Lib.hid (beg_done (G := W4.heap.size + 1) HT5.out (by omega) f1 f2 (by omega) (by omega))
        have HM5 : Hid (∀ {s2 : St} {w3 : World}, Moved T A (W4.heap.size + 1) (beg u) (((w5.setCell ⟨T, 3, none⟩ (.slice (some ⟨W4.heap.size + 1, 0, none⟩) (nextR u) (nextR u))).setCell ⟨T, 4, none⟩ (.int .i64 0)).setCell ⟨T, 5, none⟩ (.int .i64 0)) s2 w3 → Moved T G1 G2 s w s2 w3) := Lib.hid (fun c => HM4.out (Moved.trans ((Fr.of_below hb5).trans (HB5.out.2.mono fun i e => .inl e)) (fun i hi => by
          rcases hi with e | e | ⟨_, e⟩
          · exact .inl (.inl e)
          · exact .inl (.inr (.inl e))
          · exact .inr (by omega)) c))
        obtain ⟨y3, d3, -⟩ := HT5.out.b.c0
        have d4 := HT5.out.b.c1
        have d5 := HT5.out.b.c2
        have dft := HT5.out.a.ft
        have HT6 := Lib.hid HB5.out.1
        clear hb5 hh5 f1 f2 HB5
        rw [← HBG.out] at HT6
        have hnn : 0 < (beg u).nxt.length := by rw [HBG.out]; show 0 < (List.replicate (nextR u) zeroPl).length; rw [List.length_replicate]; have := HNR.out.1.facts; omega
        go_upto_region 9 with fail
        generalize (((w5.setCell ⟨T, 3, none⟩ (.slice (some ⟨W4.heap.size + 1, 0, none⟩) (nextR u) (nextR u))).setCell ⟨T, 4, none⟩ (.int .i64 0)).setCell ⟨T, 5, none⟩ (.int .i64 0)) = W6 at *
        clear d3 d4 d5 dft
        generalize beg u = v at *
        obtain ⟨y3, c3, hx3⟩ := HT6.out.b.c0
        have HMo6 := Lib.hid (moving_calls W6 T y3 v.nxt.length c3)
        rw [decide_eq_true hnn] at HMo6
        have HAd := Lib.hid (add_calls W6 T 3 (W4.heap.size + 1) v.nxt v.e2 v.d2 HT6.out.b k (hk k) (hsh_lt _) n (by have := HBO.out.1.b2; omega) hnn (HBO.out.1.nxt0 (by omega) hnn) (by have := HBO.out.1.b.rng; have := HBO.out.1.b2; omega) (by have := HBO.out.1.b.rng; have := HBO.out.1.b2; omega))
        clear hx3
        go_wp2_with fail
        refine HMo6.out.mono ?_; rintro en w3 ⟨rfl, rfl⟩
        go_wp2_with fail
        refine HAd.out.mono ?_; rintro en w4 ⟨rfl, hp4, hk4⟩
        have HZ := Lib.hid (ins_done3 HT6.out hnn k n hp4 hk4)
        clear hp4 hk4
        go_wp2_with fail
        go_ret
        exact ⟨by rw [HIN.out]; rfl, HM5.out (by rw [HPS.out]; exact HZ.out)⟩
end Go.Proofs.Ytpbblijnfigapaa.Ta
