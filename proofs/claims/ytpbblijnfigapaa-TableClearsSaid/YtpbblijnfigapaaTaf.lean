/- Package table: Drop, Get. Conditions: what is always so of a table; bounds. -/
import Derived.Test.YtpbblijnfigapaaTae
namespace Go.Proofs.Ytpbblijnfigapaa.Ta
open Go.ChangeShapes Go.WideShapes Go.ChangeAt Go.RowKit
theorem bury_done0 {w w' : World} {T G1 G2 : Nat} {u : St} (h : TAt w T G1 G2 u) (p : Nat) (q : PAt w' T 0 G1 (u.now.set p gravePl) (u.e1 - 1) (u.d1 + 1)) (c : Ch T 0 G1 w w') : Moved T G1 G2 u w { u with now := u.now.set p gravePl, e1 := u.e1 - 1, d1 := u.d1 + 1 } w' :=
  ⟨G1, G2, ⟨q, h.b.ch c (.inr (Nat.le_refl _)) (fun hn e => h.g hn e.symm), (c.ot 6 (by omega)).trans h.m, h.g⟩, c.fr.mono fun i e => by rcases e with e | e; exact .inl e; exact .inr (.inl e), fun i hi => .inl hi⟩
theorem bury_done3 {w w' : World} {T G1 G2 : Nat} {u : St} (h : TAt w T G1 G2 u) (p : Nat) (hn : 0 < u.nxt.length) (q : PAt w' T 3 G2 (u.nxt.set p gravePl) (u.e2 - 1) (u.d2 + 1)) (c : Ch T 3 G2 w w') : Moved T G1 G2 u w { u with nxt := u.nxt.set p gravePl, e2 := u.e2 - 1, d2 := u.d2 + 1 } w' :=
  ⟨G1, G2, ⟨h.a.ch c (.inl (Nat.le_refl _)) (fun _ => h.g hn), q, (c.ot 6 (by omega)).trans h.m, fun _ => h.g hn⟩, c.fr.mono fun i e => by rcases e with e | e; exact .inl e; exact .inr (.inr ⟨hn, e⟩), fun i hi => .inl (by
    rcases hi with e | e | ⟨_, e⟩
    · exact .inl e
    · exact .inr (.inl e)
    · exact .inr (.inr ⟨hn, e⟩))⟩
@[go_sem] theorem field_n (w : World) (x y z : Value) : (Instr.field 55 (.agg #[x, y, z]) 2).run Try.prog w = .ok z w := by kernel_rfl
set_option maxHeartbeats 4000000 in
set_option maxRecDepth 100000 in
theorem drop_calls (w : World) (T G1 G2 : Nat) (s : St) (hT : TAt w T G1 G2 s) (hO : OkS 0 s) (k : ByteArray) (hk1 : k.size ≤ 1000) :
    Calls Try.prog 10 #[.pointer (some ⟨T, 0, none⟩), .string k] w fun en w' => en = .returned (.tuple #[.int .i64 (valS (step s) k), .bool (fnd (step s) k (hk k)).isSome]) ∧ Moved T G1 G2 s w (dropS (step s) k) w' := by
  have HS := Lib.hid (step_calls w T G1 G2 s hT hO)
  have hO4 := step_ok hO
  have HMT : Hid (∀ {H1 H2 : Nat} {s2 : St} {w1 w2 : World}, Fr (own T G1 G2 s) w w1 → (∀ i, own T H1 H2 (step s) i → own T G1 G2 s i) → Moved T H1 H2 (step s) w1 s2 w2 → Moved T G1 G2 s w s2 w2) := Lib.hid (fun a b c => Moved.trans a (fun i hi => .inl (b i hi)) c)
  clear hT hO
  generalize step s = u at *
  have HO := Lib.hid hO4
  clear hO4
  go_enter Try.func10, Try.ntmps10
  go_wp2_with fail
  refine HS.out.mono ?_; rintro en w1 ⟨rfl, A, B, hT1, hf1, ho1⟩
  have HT1 := Lib.hid hT1
  have HM1 : Hid (∀ {s2 : St} {w2 : World}, Moved T A B u w1 s2 w2 → Moved T G1 G2 s w s2 w2) := Lib.hid (fun c => HMT.out hf1 ho1 c)
  clear hT1 hf1 ho1 HS HMT
  have HHa := Lib.hid (fun W => hash_calls W k (by omega))
  have HFi := Lib.hid (tfind_calls w1 T A B u HT1.out HO.out.toOk (by omega) k (hk k) (hsh_lt _))
  go_wp2_with fail
  refine (HHa.out _).mono ?_; rintro en w2 ⟨rfl, rfl⟩
  go_wp2_with fail
  cases hf : fnd u k (hk k) with
  | some r =>
    obtain ⟨b, p⟩ := r
    cases b with
    | false =>
      have HV : Hid (valS u k = (pAt u.now p).n ∧ (fnd u k (hk k)).isSome = true ∧ dropS u k = { u with now := u.now.set p gravePl, e1 := u.e1 - 1, d1 := u.d1 + 1 }) := Lib.hid (by unfold valS dropS; rw [hf]; exact ⟨rfl, rfl, rfl⟩)
      have HFi2 : Hid (Calls Try.prog 21 #[.pointer (some ⟨T, 0, none⟩), .string k, .int .u64 (hk k : Nat)] w1 fun e w' => e = .returned (.tuple #[.pointer (some ⟨T, 0, none⟩), .int .i64 (p : Nat)]) ∧ Below w1.heap.size w1 w') := Lib.hid (by have h := HFi.out; rw [hf] at h; exact h)
      refine HFi2.out.mono ?_; rintro en w2 ⟨rfl, hb2⟩
      have HT2 := Lib.hid (HT1.out.below hb2)
      have HM2 : Hid (∀ {s2 : St} {w3 : World}, Moved T A B u w2 s2 w3 → Moved T G1 G2 s w s2 w3) := Lib.hid (fun c => HM1.out (Moved.trans (Fr.of_below hb2) (fun i hi => .inl hi) c))
      clear hb2 HFi HFi2 HM1 HT1
      obtain ⟨hp, -, -⟩ := findP_ok (fnd_now hf)
      have HBu := Lib.hid (bury_calls w2 T 0 A u.now u.e1 u.d1 HT2.out.a p hp (by have := HO.out.b1; omega) (by have := HO.out.a.rng; have := HO.out.b1; omega) (by have := HO.out.a.rng; have := HO.out.b1; omega))
      clear hf
      go_wp2_with fail
      refine HBu.out.mono ?_; rintro en w3 ⟨rfl, hp3, hk3⟩
      have HZ := Lib.hid (bury_done0 HT2.out p hp3 hk3)
      clear hp3 hk3
      go_wp2_with fail
      go_ret2
      exact ⟨by rw [HV.out.1, HV.out.2.1]; rfl, HM2.out (by rw [HV.out.2.2]; exact HZ.out)⟩
    | true =>
      have HV : Hid (valS u k = (pAt u.nxt p).n ∧ (fnd u k (hk k)).isSome = true ∧ dropS u k = { u with nxt := u.nxt.set p gravePl, e2 := u.e2 - 1, d2 := u.d2 + 1 }) := Lib.hid (by unfold valS dropS; rw [hf]; exact ⟨rfl, rfl, rfl⟩)
      have HFi2 : Hid (Calls Try.prog 21 #[.pointer (some ⟨T, 0, none⟩), .string k, .int .u64 (hk k : Nat)] w1 fun e w' => e = .returned (.tuple #[.pointer (some ⟨T, 3, none⟩), .int .i64 (p : Nat)]) ∧ Below w1.heap.size w1 w') := Lib.hid (by have h := HFi.out; rw [hf] at h; exact h)
      refine HFi2.out.mono ?_; rintro en w2 ⟨rfl, hb2⟩
      have HT2 := Lib.hid (HT1.out.below hb2)
      have HM2 : Hid (∀ {s2 : St} {w3 : World}, Moved T A B u w2 s2 w3 → Moved T G1 G2 s w s2 w3) := Lib.hid (fun c => HM1.out (Moved.trans (Fr.of_below hb2) (fun i hi => .inl hi) c))
      clear hb2 HFi HFi2 HM1 HT1
      obtain ⟨hp, -, -⟩ := findP_ok (fnd_nxt hf).2
      have HBu := Lib.hid (bury_calls w2 T 3 B u.nxt u.e2 u.d2 HT2.out.b p hp (by have := HO.out.b2; omega) (by have := HO.out.b.rng; have := HO.out.b2; omega) (by have := HO.out.b.rng; have := HO.out.b2; omega))
      clear hf
      go_wp2_with fail
      refine HBu.out.mono ?_; rintro en w3 ⟨rfl, hp3, hk3⟩
      have HZ := Lib.hid (bury_done3 HT2.out p (by omega) hp3 hk3)
      clear hp3 hk3
      go_wp2_with fail
      go_ret2
      exact ⟨by rw [HV.out.1, HV.out.2.1]; rfl, HM2.out (by rw [HV.out.2.2]; exact HZ.out)⟩
  | none =>
    have HV : Hid (valS u k = 0 ∧ (fnd u k (hk k)).isSome = false ∧ dropS u k = u) := Lib.hid (by unfold valS dropS; rw [hf]; exact ⟨rfl, rfl, rfl⟩)
    have HFi2 : Hid (Calls Try.prog 21 #[.pointer (some ⟨T, 0, none⟩), .string k, .int .u64 (hk k : Nat)] w1 fun e w' => e = .returned (.tuple #[.pointer none, .int .i64 (0 : Nat)]) ∧ Below w1.heap.size w1 w') := Lib.hid (by have h := HFi.out; rw [hf] at h; exact h)
    refine HFi2.out.mono ?_; rintro en w2 ⟨rfl, hb2⟩
    have HZ : Hid (Moved T G1 G2 s w u w2) := Lib.hid (HM1.out ⟨A, B, HT1.out.below hb2, Fr.of_below hb2, fun i hi => .inl hi⟩)
    clear hb2 HFi HFi2 HM1 HT1 hf
    go_wp2_with fail
    go_ret2
    exact ⟨by rw [HV.out.1, HV.out.2.1]; rfl, by rw [HV.out.2.2]; exact HZ.out⟩
set_option maxHeartbeats 4000000 in
set_option maxRecDepth 100000 in
theorem get_calls (w : World) (T G1 G2 : Nat) (s : St) (hT : TAt w T G1 G2 s) (hO : OkS 0 s) (k : ByteArray) (hk1 : k.size ≤ 1000) :
    Calls Try.prog 13 #[.pointer (some ⟨T, 0, none⟩), .string k] w fun en w' => en = .returned (.tuple #[.int .i64 (valS (step s) k), .bool (fnd (step s) k (hk k)).isSome]) ∧ Moved T G1 G2 s w (step s) w' := by
  have HS := Lib.hid (step_calls w T G1 G2 s hT hO)
  have hO4 := step_ok hO
  have HMT : Hid (∀ {H1 H2 : Nat} {s2 : St} {w1 w2 : World}, Fr (own T G1 G2 s) w w1 → (∀ i, own T H1 H2 (step s) i → own T G1 G2 s i) → Moved T H1 H2 (step s) w1 s2 w2 → Moved T G1 G2 s w s2 w2) := Lib.hid (fun a b c => Moved.trans a (fun i hi => .inl (b i hi)) c)
  clear hT hO
  generalize step s = u at *
  have HO := Lib.hid hO4
  clear hO4
  go_enter Try.func13, Try.ntmps13
  go_wp2_with fail
  refine HS.out.mono ?_; rintro en w1 ⟨rfl, A, B, hT1, hf1, ho1⟩
  have HT1 := Lib.hid hT1
  have HM1 : Hid (∀ {s2 : St} {w2 : World}, Moved T A B u w1 s2 w2 → Moved T G1 G2 s w s2 w2) := Lib.hid (fun c => HMT.out hf1 ho1 c)
  clear hT1 hf1 ho1 HS HMT
  have HHa := Lib.hid (fun W => hash_calls W k (by omega))
  have HFi := Lib.hid (tfind_calls w1 T A B u HT1.out HO.out.toOk (by omega) k (hk k) (hsh_lt _))
  go_wp2_with fail
  refine (HHa.out _).mono ?_; rintro en w2 ⟨rfl, rfl⟩
  go_wp2_with fail
  cases hf : fnd u k (hk k) with
  | some r =>
    obtain ⟨b, p⟩ := r
    cases b with
    | false =>
      have HV : Hid (valS u k = (pAt u.now p).n ∧ (fnd u k (hk k)).isSome = true) := Lib.hid (by unfold valS; rw [hf]; exact ⟨rfl, rfl⟩)
      have HFi2 : Hid (Calls Try.prog 21 #[.pointer (some ⟨T, 0, none⟩), .string k, .int .u64 (hk k : Nat)] w1 fun e w' => e = .returned (.tuple #[.pointer (some ⟨T, 0, none⟩), .int .i64 (p : Nat)]) ∧ Below w1.heap.size w1 w') := Lib.hid (by have h := HFi.out; rw [hf] at h; exact h)
      refine HFi2.out.mono ?_; rintro en w2 ⟨rfl, hb2⟩
      have HT2 := Lib.hid (HT1.out.below hb2)
      have HZ : Hid (Moved T G1 G2 s w u w2) := Lib.hid (HM1.out ⟨A, B, HT1.out.below hb2, Fr.of_below hb2, fun i hi => .inl hi⟩)
      clear hb2 HFi HFi2 HM1 HT1
      obtain ⟨hp, -, -⟩ := findP_ok (fnd_now hf)
      obtain ⟨x0, c0, hx⟩ := HT2.out.a.c0
      obtain rfl := hx (by omega)
      have hc := (HT2.out.a.pl p hp).2.2
      rw [← pAt_lt hp] at hc
      have hpc : (p : Int) < (u.now.length : Int) := by omega
      clear hf hx
      go_wp2_with fail
      go_ret2
      exact ⟨by rw [HV.out.1, HV.out.2]; rfl, HZ.out⟩
    | true =>
      have HV : Hid (valS u k = (pAt u.nxt p).n ∧ (fnd u k (hk k)).isSome = true) := Lib.hid (by unfold valS; rw [hf]; exact ⟨rfl, rfl⟩)
      have HFi2 : Hid (Calls Try.prog 21 #[.pointer (some ⟨T, 0, none⟩), .string k, .int .u64 (hk k : Nat)] w1 fun e w' => e = .returned (.tuple #[.pointer (some ⟨T, 3, none⟩), .int .i64 (p : Nat)]) ∧ Below w1.heap.size w1 w') := Lib.hid (by have h := HFi.out; rw [hf] at h; exact h)
      refine HFi2.out.mono ?_; rintro en w2 ⟨rfl, hb2⟩
      have HT2 := Lib.hid (HT1.out.below hb2)
      have HZ : Hid (Moved T G1 G2 s w u w2) := Lib.hid (HM1.out ⟨A, B, HT1.out.below hb2, Fr.of_below hb2, fun i hi => .inl hi⟩)
      clear hb2 HFi HFi2 HM1 HT1
      obtain ⟨hp, -, -⟩ := findP_ok (fnd_nxt hf).2
      obtain ⟨x0, c0, hx⟩ := HT2.out.b.c0
      obtain rfl := hx (by omega)
      have hc := (HT2.out.b.pl p hp).2.2
      rw [← pAt_lt hp] at hc
      have hpc : (p : Int) < (u.nxt.length : Int) := by omega
      clear hf hx
      go_wp2_with fail
      go_ret2
      exact ⟨by rw [HV.out.1, HV.out.2]; rfl, HZ.out⟩
  | none =>
    have HV : Hid (valS u k = 0 ∧ (fnd u k (hk k)).isSome = false) := Lib.hid (by unfold valS; rw [hf]; exact ⟨rfl, rfl⟩)
    have HFi2 : Hid (Calls Try.prog 21 #[.pointer (some ⟨T, 0, none⟩), .string k, .int .u64 (hk k : Nat)] w1 fun e w' => e = .returned (.tuple #[.pointer none, .int .i64 (0 : Nat)]) ∧ Below w1.heap.size w1 w') := Lib.hid (by have h := HFi.out; rw [hf] at h; exact h)
    refine HFi2.out.mono ?_; rintro en w2 ⟨rfl, hb2⟩
    have HZ : Hid (Moved T G1 G2 s w u w2) := Lib.hid (HM1.out ⟨A, B, HT1.out.below hb2, Fr.of_below hb2, fun i hi => .inl hi⟩)
    clear hb2 HFi HFi2 HM1 HT1 hf
    go_wp2_with fail
    go_ret2
    exact ⟨by rw [HV.out.1, HV.out.2]; rfl, HZ.out⟩
end Go.Proofs.Ytpbblijnfigapaa.Ta
