/- The walk of the law ValueParts: true, at any values. No condition. -/
import Derived.Test.YtiigfcggdjcmfaaDoorVp1
import Derived.Test.YtiigfcggdjcmfaaDoorVd1
namespace Go.Proofs.YtiigfcggdjcmfaaDoor
open Go.ChangeShapes Go.WideShapes Go.ChangeAt Go.RowKit

theorem box_facts (w : World) (k : Int) (t : ByteArray) (z : Int) (r : Nat) (f : Bool) (a : Option Addr) (c n : Nat) (K : Nat → Val) :
    Below w.heap.size w (w.alloc (.cells #[.int .i64 k, .string t, .int .i64 z, .float .f64 r, .bool f, .slice a n c] 25)) ∧
    (w.alloc (.cells #[.int .i64 k, .string t, .int .i64 z, .float .f64 r, .bool f, .slice a n c] 25)).heap.size = w.heap.size + 1 ∧
    At (w.alloc (.cells #[.int .i64 k, .string t, .int .i64 z, .float .f64 r, .bool f, .slice a n c] 25)) w.heap.size 0 (.mk k t z r f a c n K) := by
  refine ⟨(Below.refl _ _).alloc (Nat.le_refl _) _, by simp, ⟨?_, ?_, ?_, ?_, ?_, ?_⟩⟩ <;> go_simp
theorem sum_small (K : Nat → Val) (j : Nat) (h : ∀ i, i < j → small (K i) = true) : sumTo (fun i => (K i).count) j ≤ 3000 * j ∧ maxTo (fun i => (K i).depth) j ≤ 31 := by
  induction j with
  | zero => exact ⟨Nat.le_refl _, Nat.zero_le _⟩
  | succ j ih =>
    obtain ⟨h1, h2⟩ := ih fun i hi => h i (by omega)
    obtain ⟨h3, h4⟩ := small_facts (h j (by omega))
    have h5 := depth_le_nest (K j)
    rw [sumTo_succ, maxTo_succ]
    omega
theorem good_kid2 (v v' : Val) (h : Twin v v') : ∀ d, good v' d = good v d := by
  revert v'
  induction v with
  | no => exact fun _ h => h.elim
  | mk k t z r f a c n K ih =>
    rintro v' ⟨a', c', K', rfl, hk⟩ d
    rw [good_eq, good_eq]
    congr 1
    refine allTo_congr fun i hi => ?_
    have hki : (K' i).kind = (K i).kind := by
      have := hk i hi
      cases hK : K i with
      | no => rw [hK] at this; exact this.elim
      | mk k2 t2 z2 r2 f2 a2 c2 n2 K2 =>
        rw [hK] at this
        obtain ⟨_, _, _, e, _⟩ := this
        rw [e]; rfl
    rw [hki, ih i (K' i) (hk i hi)]
theorem check_twin2 {v v' : Val} (h : Twin v v') : checkN v' = checkN v := by
  unfold checkN
  rw [good_kid2 v v' h, h.nest.2.1]
def okPart (K : Nat → Val) : Nat → Bool := allTo fun i => (checkN (K i) == 0) && (K i).kind != 14
set_option maxHeartbeats 4000000 in
set_option maxRecDepth 100000 in
theorem valueParts (a : Option Addr) (c n : Nat) (K : Nat → Val) (W : World) (hl : Lies (fun b => b < W.heap.size) W (.mk 5 ⟨#[]⟩ 0 0 false a c n K)) :
    Calls Tryd.prog 4 #[.slice a n c] W fun e w' => e = .returned (.bool true) ∧ Below W.heap.size W w' := by
  have hl0 := Lib.hid hl
  obtain ⟨⟨-, -, -, -, -, -, hnc, hcm, hnm⟩, hadr, hkids⟩ := hl
  have Hadr := Lib.hid hadr
  have Hk := Lib.hid hkids
  clear hadr hkids
  by_cases h20 : 20 < n
  · have e20 : decide ((20 : Int) < (n : Int)) = true := decide_eq_true (by omega)
    go_enter Tryd.func4, Tryd.ntmps4
    go_wp2_with fail
    refine (valive_calls W).mono ?_; rintro en w1 ⟨rfl, hb1⟩
    have Hb1 := Lib.hid hb1
    clear hb1
    go_wp2_with fail
    go_ret
    exact ⟨rfl, Hb1.out⟩
  have e20 : decide ((20 : Int) < (n : Int)) = false := decide_eq_false (by omega)
  go_enter Tryd.func4, Tryd.ntmps4
  go_wp2_with fail
  refine (valive_calls W).mono ?_; rintro en w1 ⟨rfl, hb1⟩
  have Hb1 := Lib.hid hb1
  clear hb1
  go_wp2_with fail
  go_loopw [3, 4, 5, 16] (fun m d p i wr => ∃ j : Nat, j ≤ n ∧ i = .int .i64 j ∧ m = .int .i64 ((1 + sumTo (fun i => (K i).count) j : Nat) : Int) ∧ d = .int .i64 ((maxTo (fun i => (K i).depth) j : Nat) : Int) ∧ p = .bool (okPart K j) ∧
    (∀ i, i < j → small (K i) = true) ∧ Below W.heap.size W wr) (fun _ _ _ i _ => n - (intOf i).toNat)
  case atStart => exact ⟨0, by omega, rfl, rfl, rfl, rfl, fun i hi => absurd hi (by omega), Hb1.out⟩
  case round =>
    obtain ⟨j, hj, rfl, rfl, rfl, rfl, hsm, hb⟩ := hrel
    have Hb := Lib.hid hb
    have Hsm := Lib.hid hsm
    clear hb hsm
    by_cases hlt : j < n
    · obtain ⟨b2, o2, rfl, hbs⟩ := Hadr.out (by omega)
      have hjn : j < c := by omega
      obtain ⟨hat, hls⟩ := Hk.out j hlt
      have hat2 := (hat b2 o2 rfl).below Hb.out hbs
      have hls2 : Lies (fun b => b < W.heap.size) wr (K j) := hls.below Hb.out (fun _ h => h)
      have Hls := Lib.hid hls2
      have hsum := sumTo_succ (fun i => (K i).count) j
      have hmax := maxTo_succ (fun i => (K i).depth) j
      have hok : okPart K (j + 1) = (okPart K j && ((checkN (K j) == 0) && (K j).kind != 14)) := rfl
      generalize hK : K j = x at *
      cases x with
      | no => exact hat2.elim
      | mk k2 t2 z2 r2 f2 a2 c2 n2 K2 =>
        have HK := Lib.hid hK
        obtain ⟨x0, x1, x2, x3, x4, x5⟩ := hat2
        clear hat hls hls2 hK
        go_wp2_with fail
        obtain ⟨q1, q2, q3⟩ := box_facts wr k2 t2 z2 r2 f2 a2 c2 n2 K2
        generalize hW2 : wr.alloc _ = W2 at *
        have B2 := Lib.hid (bstep Hb.out q1)
        have L2 := Lib.hid (Hls.out.below q1 (fun b hb => Nat.lt_of_lt_of_le hb Hb.out.size))
        have A2 := Lib.hid q3
        have Z2 := Lib.hid q2
        have hS : ∀ w' : World, Below W.heap.size W w' → ∀ b, b < W.heap.size → b < w'.heap.size := fun w' h b hb => Nat.lt_of_lt_of_le hb h.size
        have HS := Lib.hid hS
        have C1 := Lib.hid (small_calls (.mk k2 t2 z2 r2 f2 a2 c2 n2 K2) (fun b => b < W.heap.size) W2 (hS _ B2.out) L2.out)
        clear q1 q2 q3 hW2 hS x0 x1 x2 x3 x4 x5
        refine C1.out.mono ?_; rintro en w3 ⟨rfl, hb3⟩
        have B3 := Lib.hid (bstep B2.out hb3)
        have A3 := Lib.hid (A2.out.below hb3 (by have := Z2.out; omega))
        have L3 := Lib.hid (L2.out.below hb3 (HS.out _ B2.out))
        have Z3 : Hid (wr.heap.size < w3.heap.size) := Lib.hid (by have := Z2.out; have := hb3.size; omega)
        clear hb3 C1 A2 L2 Z2
        obtain ⟨x0, x1, x2, x3, x4, x5⟩ := A3.out.lits
        cases hsx : small (.mk k2 t2 z2 r2 f2 a2 c2 n2 K2) with
        | false =>
          clear hsx
          go_wp2_with fail
          go_ret
          exact ⟨rfl, B3.out⟩
        | true =>
          obtain ⟨hc3, hn31⟩ := small_facts hsx
          obtain ⟨hsb, hdb⟩ := sum_small K j Hsm.out
          have hdn := depth_le_nest (.mk k2 t2 z2 r2 f2 a2 c2 n2 K2)
          have Hsx := Lib.hid hsx
          have Hf := Lib.hid (fits_lies L3.out)
          have C2 := Lib.hid (count_calls (.mk k2 t2 z2 r2 f2 a2 c2 n2 K2) (fun b => b < W.heap.size) w3 (HS.out _ B3.out) L3.out (by omega) (by omega))
          have C3 := Lib.hid (fun w' (h : Below W.heap.size W w') (l : Lies (fun b => b < W.heap.size) w' (.mk k2 t2 z2 r2 f2 a2 c2 n2 K2)) => vdepth_calls (.mk k2 t2 z2 r2 f2 a2 c2 n2 K2) (fun b => b < W.heap.size) w' (HS.out _ h) l (by omega))
          have C4 := Lib.hid (fun w' (h : Below W.heap.size W w') (l : Lies (fun b => b < W.heap.size) w' (.mk k2 t2 z2 r2 f2 a2 c2 n2 K2)) => check_calls (.mk k2 t2 z2 r2 f2 a2 c2 n2 K2) (fun b => b < W.heap.size) w' (HS.out _ h) l Hf.out)
          have hcq : (Val.mk k2 t2 z2 r2 f2 a2 c2 n2 K2).kind = k2 := rfl
          rw [hcq] at hok
          generalize hcn : (Val.mk k2 t2 z2 r2 f2 a2 c2 n2 K2).count = cn at *
          generalize hdv : (Val.mk k2 t2 z2 r2 f2 a2 c2 n2 K2).depth = dv at *
          generalize hck : checkN (.mk k2 t2 z2 r2 f2 a2 c2 n2 K2) = ck at *
          generalize sumTo (fun i => (K i).count) j = sm at *
          generalize maxTo (fun i => (K i).depth) j = mx at *
          have Hsum := Lib.hid hsum
          have Hmax := Lib.hid hmax
          have Hok := Lib.hid hok
          have Hcks : Hid (ck = 0 ∨ ck = 31) := Lib.hid (by rw [← hck]; unfold checkN; split; exact .inl rfl; exact .inr rfl)
          have hd2 : dv ≤ 31 := by omega
          have Hck := Lib.hid hck
          clear hsum hmax hok hck hcn hdv hsx hcq hn31 hdn
          go_wp2_with fail
          refine C2.out.mono ?_; rintro en w4 ⟨rfl, hb4⟩
          have B4 := Lib.hid (bstep B3.out hb4)
          have A4 := Lib.hid (A3.out.below hb4 Z3.out)
          have L4 := Lib.hid (L3.out.below hb4 (HS.out _ B3.out))
          have Z4 : Hid (wr.heap.size < w4.heap.size) := Lib.hid (Nat.lt_of_lt_of_le Z3.out hb4.size)
          clear hb4 C2 A3 L3 Z3 x0 x1 x2 x3 x4 x5
          obtain ⟨x0, x1, x2, x3, x4, x5⟩ := A4.out.lits
          go_wp2_with fail
          refine (C3.out _ B4.out L4.out).mono ?_; rintro en w5 ⟨rfl, hb5⟩
          have B5 := Lib.hid (bstep B4.out hb5)
          have A5 := Lib.hid (A4.out.below hb5 Z4.out)
          have L5 := Lib.hid (L4.out.below hb5 (HS.out _ B4.out))
          have Z5 : Hid (wr.heap.size < w5.heap.size) := Lib.hid (Nat.lt_of_lt_of_le Z4.out hb5.size)
          clear hb5 C3 A4 L4 Z4 x0 x1 x2 x3 x4 x5
          obtain ⟨x0, x1, x2, x3, x4, x5⟩ := A5.out.lits
          have hsmall2 : ∀ i, i < j + 1 → small (K i) = true := fun i hi => by
            by_cases e : i = j
            · subst e; rw [HK.out]; exact Hsx.out
            · exact Hsm.out i (by omega)
          have Hs2 := Lib.hid hsmall2
          clear hsmall2
          cases hp : okPart K j with
          | false =>
            rw [hp] at Hok
            clear hp
            go_wp2_with fail
            go_roundw
            case rel => exact ⟨j + 1, by omega, by go_num, by rw [Hsum.out]; go_num, by rw [Hmax.out]; go_num, by rw [Hok.out]; rfl, Hs2.out, B5.out⟩
            case measure => simp [intOf]; omega
          | true =>
            rw [hp] at Hok
            clear hp
            go_wp2_with fail
            refine (C4.out _ B5.out L5.out).mono ?_; rintro en w6 ⟨he6, hb6⟩
            rw [Hck.out] at he6
            subst he6
            have B6 := Lib.hid (bstep B5.out hb6)
            have A6 := Lib.hid (A5.out.below hb6 Z5.out)
            clear hb6 C4 A5 L5 Z5 x0 x1 x2 x3 x4 x5
            obtain ⟨x0, x1, x2, x3, x4, x5⟩ := A6.out.lits
            rcases Hcks.out with h | h
            · subst h
              by_cases h14 : k2 = 14
              · subst h14
                go_wp2_with fail
                go_roundw
                case rel => exact ⟨j + 1, by omega, by go_num, by rw [Hsum.out]; go_num, by rw [Hmax.out]; go_num, by rw [Hok.out]; rfl, Hs2.out, B6.out⟩
                case measure => simp [intOf]; omega
              · have e14 : (k2 != 14) = true := by simpa using h14
                rw [e14] at Hok
                clear h14
                go_wp2_with fail
                go_roundw
                case rel => exact ⟨j + 1, by omega, by go_num, by rw [Hsum.out]; go_num, by rw [Hmax.out]; go_num, by rw [Hok.out]; rfl, Hs2.out, B6.out⟩
                case measure => simp [intOf]; omega
            · subst h
              go_wp2_with fail
              go_roundw
              case rel => exact ⟨j + 1, by omega, by go_num, by rw [Hsum.out]; go_num, by rw [Hmax.out]; go_num, by rw [Hok.out]; rfl, Hs2.out, B6.out⟩
              case measure => simp [intOf]; omega
    · obtain rfl : j = n := by omega
      obtain ⟨hsb, hdb⟩ := sum_small K j Hsm.out
      have hl2 := Lib.hid (hl0.out.below Hb.out (fun _ h => h))
      have C1 := Lib.hid (list_calls a c j K (fun b => b < W.heap.size) wr (fun b hb => Nat.lt_of_lt_of_le hb Hb.out.size) hl2.out (fun i hi => by
        have := small_facts (Hsm.out i hi)
        omega))
      have hpo := parts_ok a c j K
      have hpe : okPart K j = allTo (fun i => (checkN (K i) == 0) && (K i).kind != 14) j := rfl
      rw [← hpe] at hpo
      have Hpo := Lib.hid hpo
      clear hpo hpe
      go_wp2_with fail
      refine C1.out.mono ?_; rintro en w3 ⟨v', rfl, htw, hb3, hnew⟩
      obtain ⟨t1, t2, t3⟩ := htw.nest
      have hck := check_twin2 htw
      have hl3 := hnew.lies
      obtain ⟨a', c', K', rfl, -⟩ := htw
      unfold Val.agg
      have B3 := Lib.hid (bstep Hb.out hb3)
      have L3 := Lib.hid hl3
      have Hck : Hid (checkN (.mk 5 ⟨#[]⟩ 0 0 false a' c' j K') = checkN (.mk 5 ⟨#[]⟩ 0 0 false a c j K)) := Lib.hid hck
      have T1 := Lib.hid t1
      have T2 := Lib.hid t2
      have T3 := Lib.hid t3
      have Hn : Hid ((Val.mk 5 ⟨#[]⟩ 0 0 false a c j K).nest ≤ 32 ∧ (Val.mk 5 ⟨#[]⟩ 0 0 false a c j K).count = 1 + sumTo (fun i => (K i).count) j ∧ (Val.mk 5 ⟨#[]⟩ 0 0 false a c j K).depth = 1 + maxTo (fun i => (K i).depth) j) := Lib.hid ⟨by
        have : maxTo (fun i => (K i).nest) j ≤ 31 := by
          have h : ∀ m, m ≤ j → maxTo (fun i => (K i).nest) m ≤ 31 := by
            intro m
            induction m with
            | zero => intro _; exact Nat.zero_le _
            | succ m ih =>
              intro hm
              have h1 := ih (by omega)
              have h2 := (small_facts (Hsm.out m (by omega))).2
              rw [maxTo_succ]; omega
          exact h j (Nat.le_refl _)
        show 1 + maxTo (fun i => (K i).nest) j ≤ 32
        omega, rfl, rfl⟩
      clear hck hl3 hnew hb3 t1 t2 t3 C1
      go_wp2_with fail
      obtain ⟨q1, q2, q3⟩ := box_facts w3 5 ⟨#[]⟩ 0 0 false a' c' j K'
      generalize hW4 : w3.alloc _ = W4 at *
      have B4 := Lib.hid (bstep B3.out q1)
      have A4 := Lib.hid q3
      have Z4 : Hid (w3.heap.size < W4.heap.size) := Lib.hid (by omega)
      have HS2 : Hid (∀ w', Below w3.heap.size w3 w' → ∀ b, (wr.heap.size ≤ b ∧ b < w3.heap.size) → b < w'.heap.size) := Lib.hid fun w' h b hb => Nat.lt_of_lt_of_le hb.2 h.size
      have L4 := Lib.hid (L3.out.below q1 (fun b hb => hb.2))
      have G4 := Lib.hid q1
      clear q1 q2 q3 hW4
      obtain ⟨x0, x1, x2, x3, x4, x5⟩ := A4.out.lits
      have D1 := Lib.hid (count_calls (.mk 5 ⟨#[]⟩ 0 0 false a' c' j K') _ W4 (HS2.out _ G4.out) L4.out (by rw [T1.out]; have := Hn.out.1; omega) (by rw [T2.out, Hn.out.2.1]; omega))
      rw [T2.out, Hn.out.2.1] at D1
      go_wp2_with fail
      refine D1.out.mono ?_; rintro en w5 ⟨rfl, hb5⟩
      have B5 := Lib.hid (bstep B4.out hb5)
      have G5 := Lib.hid (bstep G4.out hb5)
      have A5 := Lib.hid (A4.out.below hb5 Z4.out)
      have Z5 : Hid (w3.heap.size < w5.heap.size) := Lib.hid (Nat.lt_of_lt_of_le Z4.out hb5.size)
      have L5 := Lib.hid (L4.out.below hb5 (HS2.out _ G4.out))
      clear hb5 D1 A4 Z4 L4 x0 x1 x2 x3 x4 x5
      obtain ⟨x0, x1, x2, x3, x4, x5⟩ := A5.out.lits
      have D2 := Lib.hid (vdepth_calls (.mk 5 ⟨#[]⟩ 0 0 false a' c' j K') _ w5 (HS2.out _ G5.out) L5.out (by rw [T1.out]; have := Hn.out.1; omega))
      rw [T3.out, Hn.out.2.2] at D2
      have ed : (((1 + maxTo (fun i => (K i).depth) j : Nat) : Int) != ((maxTo (fun i => (K i).depth) j : Nat) : Int) + 1) = false := by
        rw [bne_eq_false_iff_eq]; omega
      generalize sumTo (fun i => (K i).count) j = sm at *
      generalize maxTo (fun i => (K i).depth) j = mx at *
      go_wp2_with fail
      refine D2.out.mono ?_; rintro en w6 ⟨rfl, hb6⟩
      have B6 := Lib.hid (bstep B5.out hb6)
      have G6 := Lib.hid (bstep G5.out hb6)
      have A6 := Lib.hid (A5.out.below hb6 Z5.out)
      have L6 := Lib.hid (L5.out.below hb6 (HS2.out _ G5.out))
      clear hb6 D2 A5 L5 x0 x1 x2 x3 x4 x5
      obtain ⟨x0, x1, x2, x3, x4, x5⟩ := A6.out.lits
      have D3 := Lib.hid (check_calls (.mk 5 ⟨#[]⟩ 0 0 false a' c' j K') _ w6 (HS2.out _ G6.out) L6.out (fits_lies L6.out))
      go_wp2_with fail
      refine D3.out.mono ?_; rintro en w7 ⟨he7, hb7⟩
      rw [Hck.out] at he7
      subst he7
      have B7 := Lib.hid (bstep B6.out hb7)
      have hpo := Hpo.out
      clear hb7 D3 A6 L6 x0 x1 x2 x3 x4 x5 Hck T1 T2 T3 Hn Hpo
      generalize checkN (.mk 5 ⟨#[]⟩ 0 0 false a c j K) = ck at *
      generalize okPart K j = p at *
      cases p with
      | false =>
        have e0 : (ck == 0) = false := by rw [hpo]; rfl
        clear hpo
        go_wp2_with fail
        go_ret
        exact ⟨rfl, B7.out⟩
      | true =>
        by_cases h1 : 1 + sm ≤ 1000
        · have e1 : decide ((1 : Int) + (sm : Int) ≤ 1000) = true := decide_eq_true (by omega)
          rw [decide_eq_true h1] at hpo
          by_cases h2 : mx < 8
          · have e2 : decide ((mx : Int) < 8) = true := decide_eq_true (by omega)
            rw [decide_eq_true h2] at hpo
            have e0 : (ck == 0) = true := hpo
            clear hpo
            go_wp2_with fail
            go_ret
            exact ⟨rfl, B7.out⟩
          · have e2 : decide ((mx : Int) < 8) = false := decide_eq_false (by omega)
            rw [decide_eq_false h2] at hpo
            have e0 : (ck == 0) = false := hpo
            clear hpo
            go_wp2_with fail
            go_ret
            exact ⟨rfl, B7.out⟩
        · have e1 : decide ((1 : Int) + (sm : Int) ≤ 1000) = false := decide_eq_false (by omega)
          rw [decide_eq_false h1] at hpo
          have e0 : (ck == 0) = false := hpo
          clear hpo
          go_wp2_with fail
          go_ret
          exact ⟨rfl, B7.out⟩
end Go.Proofs.YtiigfcggdjcmfaaDoor
