/- The walk of the law ValueDeep: true, at any two numbers. No condition. -/
import Derived.Test.YthngmmdfidhhpaaDoorVh1
namespace Go.Proofs.YthngmmdfidhhpaaDoor
open Go.ChangeShapes Go.WideShapes Go.ChangeAt Go.RowKit

theorem row1_facts (w : World) (k : Int) (t : ByteArray) (z : Int) (r : Nat) (f : Bool) (a : Option Addr) (c n : Nat) (K : Nat → Val) :
    Below w.heap.size w (w.alloc (.cells #[.int .i64 k, .string t, .int .i64 z, .float .f64 r, .bool f, .slice a n c] 25)) ∧
    (w.alloc (.cells #[.int .i64 k, .string t, .int .i64 z, .float .f64 r, .bool f, .slice a n c] 25)).heap.size = w.heap.size + 1 ∧
    At (w.alloc (.cells #[.int .i64 k, .string t, .int .i64 z, .float .f64 r, .bool f, .slice a n c] 25)) w.heap.size 0 (.mk k t z r f a c n K) ∧
    ∀ i, i < 6 → (w.alloc (.cells #[.int .i64 k, .string t, .int .i64 z, .float .f64 r, .bool f, .slice a n c] 25)).frozen? ⟨w.heap.size, i, none⟩ = false := by
  refine ⟨(Below.refl _ _).alloc (Nat.le_refl _) _, by simp, ⟨?_, ?_, ?_, ?_, ?_, ?_⟩, fun i hi => ?_⟩ <;> go_simp
theorem lies_row1 {w : World} {b : Nat} {x : Val} (hb : b < w.heap.size) (h0 : At w b 0 x) (hx : Lies (fun b => b < w.heap.size) w x) : Lies (fun b => b < w.heap.size) w (.mk 5 ⟨#[]⟩ 0 0 false (some ⟨b, 0, none⟩) 1 1 fun _ => x) := by
  refine ⟨by decide, fun _ => ⟨b, 0, rfl, hb⟩, fun i hi => ⟨fun b2 o2 e => ?_, hx⟩⟩
  injection e with e
  injection e with e1 e2
  subst e1 e2
  obtain rfl : i = 0 := by omega
  exact h0

set_option maxHeartbeats 2000000 in
set_option maxRecDepth 100000 in
theorem deep_out (deep many : Int) (w : World) (hg : deep < 0 ∨ 40 < deep ∨ many < 0 ∨ 2000 < many) :
    Calls Tryd.prog 6 #[.int .i64 deep, .int .i64 many] w fun e w' => e = .returned (.bool true) ∧ Below w.heap.size w w' := by
  by_cases a1 : deep < 0
  · clear hg
    go_enter Tryd.func6, Tryd.ntmps6
    go_wp2_with fail
    refine (alive_calls w).mono ?_; rintro en w1 ⟨rfl, hb1⟩
    have Hb1 := Lib.hid hb1
    clear hb1
    go_wp2_with fail
    go_ret
    exact ⟨rfl, Hb1.out⟩
  have g1 : decide (deep < 0) = false := decide_eq_false a1
  by_cases a2 : 40 < deep
  · clear hg a1
    go_enter Tryd.func6, Tryd.ntmps6
    go_wp2_with fail
    refine (alive_calls w).mono ?_; rintro en w1 ⟨rfl, hb1⟩
    have Hb1 := Lib.hid hb1
    clear hb1
    go_wp2_with fail
    go_ret
    exact ⟨rfl, Hb1.out⟩
  have g2 : decide (40 < deep) = false := decide_eq_false a2
  by_cases a3 : many < 0
  · clear hg a1 a2
    go_enter Tryd.func6, Tryd.ntmps6
    go_wp2_with fail
    refine (alive_calls w).mono ?_; rintro en w1 ⟨rfl, hb1⟩
    have Hb1 := Lib.hid hb1
    clear hb1
    go_wp2_with fail
    go_ret
    exact ⟨rfl, Hb1.out⟩
  have g3 : decide (many < 0) = false := decide_eq_false a3
  have a4 : 2000 < many := by omega
  · clear hg a1 a2 a3
    go_enter Tryd.func6, Tryd.ntmps6
    go_wp2_with fail
    refine (alive_calls w).mono ?_; rintro en w1 ⟨rfl, hb1⟩
    have Hb1 := Lib.hid hb1
    clear hb1
    go_wp2_with fail
    go_ret
    exact ⟨rfl, Hb1.out⟩
set_option maxHeartbeats 8000000 in
set_option maxRecDepth 100000 in
theorem valueDeep (deep many : Int) (w : World) :
    Calls Tryd.prog 6 #[.int .i64 deep, .int .i64 many] w fun e w' => e = .returned (.bool true) ∧ Below w.heap.size w w' := by
  by_cases hg : deep < 0 ∨ 40 < deep ∨ many < 0 ∨ 2000 < many
  · exact deep_out deep many w hg
  obtain ⟨d, rfl⟩ := Int.eq_ofNat_of_zero_le (show 0 ≤ deep by omega)
  obtain ⟨m, rfl⟩ := Int.eq_ofNat_of_zero_le (show 0 ≤ many by omega)
  have hd : d ≤ 40 := by omega
  have hm : m ≤ 2000 := by omega
  clear hg
  have g1 : decide ((d : Int) < 0) = false := decide_eq_false (by omega)
  have g2 : decide (40 < (d : Int)) = false := decide_eq_false (by omega)
  have g3 : decide ((m : Int) < 0) = false := decide_eq_false (by omega)
  have g4 : decide (2000 < (m : Int)) = false := decide_eq_false (by omega)
  go_enter Tryd.func6, Tryd.ntmps6
  go_wp2_with fail
  refine (alive_calls w).mono ?_; rintro en w1 ⟨rfl, hb1⟩
  have Hb1 := Lib.hid hb1
  clear hb1
  go_wp2_with fail
  refine (vint_calls 7 w1).mono ?_; rintro en w2 ⟨rfl, hb2⟩
  unfold vInt Val.agg
  have Hb2 := Lib.hid (bstep Hb1.out hb2)
  clear hb2 Hb1
  go_wp2_with fail
  obtain ⟨e1, e2, e3, e4⟩ := row1_facts w2 3 ⟨#[]⟩ 7 0 false none 0 0 fun _ => .no
  have hVw : w.heap.size ≤ w2.heap.size := Hb2.out.size
  generalize hV : w2.heap.size = V at *
  generalize hW3 : w2.alloc _ = W3 at *
  have hN0 : Nested V 0 W3 := ⟨by omega, e4, _, ⟨none, 0, _, rfl⟩, e3, lies_text (by decide) _⟩
  have Hb3 := Lib.hid (Hb2.out.trans (e1.mono (by have := Hb2.out.size; omega)))
  have HN0 := Lib.hid hN0
  clear hW3 e1 e3 e4 hN0 Hb2
  clear hV e2
  go_loopw [6] (fun i wr => ∃ j : Nat, j ≤ d ∧ i = .int .i64 j ∧ Below w.heap.size w wr ∧ Nested V j wr) (fun i _ => d - (intOf i).toNat)
  case atStart => exact ⟨0, by omega, rfl, Hb3.out, HN0.out⟩
  case round =>
    obtain ⟨j, hj, rfl, hb, hn⟩ := hrel
    by_cases hlt : j < d
    · obtain ⟨hVl, hfr, x, hx, hat, hls⟩ := hn
      cases x with
      | no => exact hls.elim
      | mk k t z r f a c n K =>
        obtain ⟨q1, q2, q3, -⟩ := row1_facts wr k t z r f a c n K
        have hat2 := hat.below q1 hVl
        have hfr2 : ∀ i, i < 6 → (wr.alloc (.cells #[.int .i64 k, .string t, .int .i64 z, .float .f64 r, .bool f, .slice a n c] 25)).frozen? ⟨V, i, none⟩ = false := fun i hi => (q1.frozen (p := ⟨V, i, none⟩) hVl).trans (hfr i hi)
        obtain ⟨fc, fn, fd, -, -, -⟩ := hx.facts
        have hlist := list_calls (some ⟨wr.heap.size, 0, none⟩) 1 1 (fun _ => .mk k t z r f a c n K) (fun b => b < (wr.alloc (.cells #[.int .i64 k, .string t, .int .i64 z, .float .f64 r, .bool f, .slice a n c] 25)).heap.size) _ (fun _ h => h)
          (lies_row1 (by omega) q3 ((hls.below q1 fun _ h => h).wide fun b h => Nat.lt_of_lt_of_le h q1.size)) (fun i _ => by omega)
        obtain ⟨x0, x1, x2, x3, x4, x5⟩ := hat.lits
        have Hlist := Lib.hid hlist
        have Hb := Lib.hid (hb.trans (q1.mono hb.size))
        have Hx := Lib.hid hx
        have Hat2 := Lib.hid hat2
        have Hfr2 := Lib.hid hfr2
        have Hq2 := Lib.hid q2
        clear hat hls hfr q1 q2 q3 hat2 hfr2 hlist hb hx fc fn fd
        go_wp2_with fail
        generalize hW4 : wr.alloc _ = W4 at *
        clear hW4
        refine Hlist.out.mono ?_; rintro en w5 ⟨v', rfl, htw, hb5, hnew⟩
        have hz4 := Hq2.out
        obtain ⟨a', c', K', rfl, hk'⟩ := htw
        unfold Val.agg
        have hV4 : V < W4.heap.size := by omega
        have hat5 := Hat2.out.below hb5 hV4
        have hf5 : ∀ i, i < 6 → w5.frozen? ⟨V, i, none⟩ = false := fun i hi => (hb5.frozen (p := ⟨V, i, none⟩) hV4).trans (Hfr2.out i hi)
        obtain ⟨y0, y1, y2, y3, y4, y5⟩ := hat5.lits
        have f0 := hf5 0 (by omega)
        have f1 := hf5 1 (by omega)
        have f2 := hf5 2 (by omega)
        have f3 := hf5 3 (by omega)
        have f4 := hf5 4 (by omega)
        have f5 := hf5 5 (by omega)
        have hcells : ∀ i, i < 6 → ∃ x, w5.cell? ⟨V, i, none⟩ = some x := fun i hi => by
          rcases (show i = 0 ∨ i = 1 ∨ i = 2 ∨ i = 3 ∨ i = 4 ∨ i = 5 by omega) with rfl | rfl | rfl | rfl | rfl | rfl
          · exact ⟨_, y0⟩
          · exact ⟨_, y1⟩
          · exact ⟨_, y2⟩
          · exact ⟨_, y3⟩
          · exact ⟨_, y4⟩
          · exact ⟨_, y5⟩
        have hput : Nested V (j + 1) (putVal w5 V 0 (.mk 5 ⟨#[]⟩ 0 0 false a' c' 1 K')) := Nested.put (Nat.lt_of_lt_of_le hV4 hb5.size) hf5 hcells ⟨a', c', K', rfl, Hx.out.twin (hk' 0 (by omega))⟩ hnew hV4
        have hbp : Below w.heap.size w (putVal w5 V 0 (.mk 5 ⟨#[]⟩ 0 0 false a' c' 1 K')) := putVal_below (bstep Hb.out hb5) hVw _ _
        have Hput := Lib.hid hput
        have Hbp := Lib.hid hbp
        clear hat5 hf5 hcells hput hbp hb5 hnew hk' x0 x1 x2 x3 x4 x5
        go_wp2_with fail
        go_roundw
        case rel => exact ⟨j + 1, by omega, by go_num, Hbp.out, Hput.out⟩
        case measure => simp [intOf]; omega
    · obtain rfl : j = d := by omega
      have Hb := Lib.hid hb
      have Hn := Lib.hid hn
      clear hb hn
      go_upto_region 12 with (fail)
      have hfill : Filled w V j wr.heap.size 0 (wr.alloc (.cells #[.int .i64 13, .string ⟨#[]⟩, .int .i64 0, .float .f64 0, .bool false, .slice none 0 0] 25)) := by
        obtain ⟨q1, q2, q3, q4⟩ := row1_facts wr 13 ⟨#[]⟩ 0 0 false none 0 0 fun _ => vNil
        obtain ⟨hVl, -, x, hx, hat, hls⟩ := Hn.out
        exact ⟨bstep Hb.out q1, Hb.out.size, hVl, ⟨x, hx, hat.below q1 hVl, hls.below q1 fun _ h => h⟩, none, 0, q3, q3.lits.2.2.2.2.2, q4 5 (by omega), World.ownsRow_nil _ _ _ _, by omega, by omega⟩
      have Hfill := Lib.hid hfill
      clear hfill
      generalize hWb : wr.heap.size = Wb at *
      generalize hW6 : wr.alloc _ = W6 at *
      clear hW6 hWb Hn Hb
      go_loopw [8] (fun i v => ∃ k : Nat, k ≤ m ∧ i = .int .i64 k ∧ Filled w V j Wb k v) (fun i _ => m - (intOf i).toNat)
      case atStart => exact ⟨0, by omega, rfl, Hfill.out⟩
      case round =>
        obtain ⟨k, hk, rfl, hf⟩ := hrel
        have Hf := Lib.hid hf
        obtain ⟨f1, f2, f3, -, a, c, f7, f8⟩ := hf
        obtain ⟨x0, -, -, -, -, x5⟩ := f7.lits
        have hsz := f8.2.2.2.2
        have X5 := Lib.hid x5
        clear f1 f7 f8
        by_cases hlt : k < m
        · go_wp2_with fail
          go_region_law (first
            | (refine step_fn rfl 11 rfl _ nil_run (nil_lit _) ?_
               intro wn hbn
               have hbn0 : Below wr.heap.size wr wn := (Below.drew (Below.refl _ wr)).trans hbn
               have y5 := (hbn0.cell (p := ⟨Wb, 5, none⟩) (by show Wb < wr.heap.size; omega)).trans X5.out
               have hzn : Wb < wn.heap.size := by have := hbn0.size; omega
               have Hap := Lib.hid (append_nils Hf.out X5.out hbn0 (by omega))
               clear hbn hbn0)
            | (refine step_append_mine rfl (.tmp 41) (.tmp 43) 23 rfl (.slice a k c) (.slice (some ⟨wn.heap.size, 0, none⟩) 1 1) (by simp [Act.eval]) (by simp [Act.eval]) Hap.out ?_
               rintro v' w' hf2
               have Hf2 := Lib.hid hf2
               obtain ⟨-, -, -, -, ⟨a2, c2, z7, z8⟩, z9, ⟨g, cap, rfl⟩, -, -⟩ := hf2
               have z5 := z7.lits.2.2.2.2.2
               clear z7 z8))
          all_goals
            go_wp2_with fail
            go_roundw
            case rel => exact ⟨k + 1, by omega, by go_num, fill_step Hf2.out⟩
            case measure => simp [intOf]; omega
        · obtain rfl : k = m := by omega
          obtain ⟨f1, f2, f3, ⟨x, hx, hxa, hxl⟩, a', c', f7, f8⟩ := Hf.out
          obtain ⟨hl1, hl2, hl3, hl4, hl5⟩ := set_facts f7 f8 hm
          obtain ⟨n1, n2, n3, n4, -, -⟩ := hx.facts
          have hck := hx.check hd
          cases x with
          | no => exact hxl.elim
          | mk k3 t3 z3 r3 f3' a3 c3 n3' K3 =>
          have HX := Lib.hid (And.intro hx (And.intro n1 (And.intro n2 (And.intro n3 n4))))
          have HCK := Lib.hid hck
          have HS := Lib.hid (And.intro hl1 (And.intro hl2 (And.intro hl3 (And.intro hl4 hl5))))
          have HA := Lib.hid hxa
          have HL := Lib.hid hxl
          have F7 := Lib.hid f7
          have Hb := Lib.hid f1
          clear hx n1 n2 n3 n4 hck hl1 hl2 hl3 hl4 hl5 hxa hxl f1 f7 f8 x0 x5
          obtain ⟨p0, p1, p2, p3, p4, p5⟩ := HA.out.lits
          have hck2 : ∀ W, (∀ b, b < Wb → b < W.heap.size) → Lies (fun b => b < Wb) W (.mk k3 t3 z3 r3 f3' a3 c3 n3' K3) → Calls Tryd.prog 15 #[.agg #[.int .i64 k3, .string t3, .int .i64 z3, .float .f64 r3, .bool f3', .slice a3 n3' c3]] W fun e w' => e = .returned (.int .i64 (if j ≤ 8 then 0 else 31)) ∧ Below W.heap.size W w' := fun W h1 h2 => HCK.out ▸ check_calls (.mk k3 t3 z3 r3 f3' a3 c3 n3' K3) _ W h1 h2 HX.out.2.2.2.2
          have hdp : ∀ W, (∀ b, b < Wb → b < W.heap.size) → Lies (fun b => b < Wb) W (.mk k3 t3 z3 r3 f3' a3 c3 n3' K3) → Calls Tryd.prog 17 #[.agg #[.int .i64 k3, .string t3, .int .i64 z3, .float .f64 r3, .bool f3', .slice a3 n3' c3]] W fun e w' => e = .returned (.int .i64 (j : Nat)) ∧ Below W.heap.size W w' := fun W h1 h2 => HX.out.2.2.2.1 ▸ vdepth_calls (.mk k3 t3 z3 r3 f3' a3 c3 n3' K3) _ W h1 h2 (by rw [HX.out.2.2.1]; omega)
          have hct : ∀ W, (∀ b, b < Wb → b < W.heap.size) → Lies (fun b => b < Wb) W (.mk k3 t3 z3 r3 f3' a3 c3 n3' K3) → Calls Tryd.prog 19 #[.agg #[.int .i64 k3, .string t3, .int .i64 z3, .float .f64 r3, .bool f3', .slice a3 n3' c3]] W fun e w' => e = .returned (.int .i64 ((j + 1 : Nat) : Int)) ∧ Below W.heap.size W w' := fun W h1 h2 => HX.out.2.1 ▸ count_calls (.mk k3 t3 z3 r3 f3' a3 c3 n3' K3) _ W h1 h2 (by rw [HX.out.2.2.1]; omega) (by rw [HX.out.2.1]; omega)
          have hck3 : ∀ W, (∀ b, b < wr.heap.size → b < W.heap.size) → Lies (fun b => b < wr.heap.size) W (.mk 13 ⟨#[]⟩ 0 0 false a' c' k fun _ => vNil) → Calls Tryd.prog 15 #[.agg #[.int .i64 13, .string ⟨#[]⟩, .int .i64 0, .float .f64 0, .bool false, .slice a' k c']] W fun e w' => e = .returned (.int .i64 (if k < 1000 then 0 else 31)) ∧ Below W.heap.size W w' := fun W h1 h2 => HS.out.2.2.2.2 ▸ check_calls (.mk 13 ⟨#[]⟩ 0 0 false a' c' k fun _ => vNil) _ W h1 h2 HS.out.2.2.2.1
          have hct3 : ∀ W, (∀ b, b < wr.heap.size → b < W.heap.size) → Lies (fun b => b < wr.heap.size) W (.mk 13 ⟨#[]⟩ 0 0 false a' c' k fun _ => vNil) → Calls Tryd.prog 19 #[.agg #[.int .i64 13, .string ⟨#[]⟩, .int .i64 0, .float .f64 0, .bool false, .slice a' k c']] W fun e w' => e = .returned (.int .i64 ((k + 1 : Nat) : Int)) ∧ Below W.heap.size W w' := fun W h1 h2 => HS.out.2.1 ▸ count_calls (.mk 13 ⟨#[]⟩ 0 0 false a' c' k fun _ => vNil) _ W h1 h2 HS.out.2.2.1 (by rw [HS.out.2.1]; omega)
          have e8 : ((if j ≤ 8 then (0 : Int) else 31) == 0) = decide ((j : Int) ≤ 8) := by
            by_cases h : j ≤ 8
            · rw [if_pos h, decide_eq_true (by omega)]; rfl
            · rw [if_neg h, decide_eq_false (by omega)]; rfl
          have e10 : ((if k < 1000 then (0 : Int) else 31) == 0) = decide ((k : Int) < 1000) := by
            by_cases h : k < 1000
            · rw [if_pos h, decide_eq_true (by omega)]; rfl
            · rw [if_neg h, decide_eq_false (by omega)]; rfl
          generalize (if j ≤ 8 then (0 : Int) else 31) = q8 at *
          generalize (if k < 1000 then (0 : Int) else 31) = q10 at *
          have C1 := Lib.hid hck2
          have C2 := Lib.hid hdp
          have C3 := Lib.hid hct
          have C4 := Lib.hid hck3
          have C5 := Lib.hid hct3
          have HW : Hid (∀ W, Below wr.heap.size wr W → (∀ b, b < Wb → b < W.heap.size) ∧ (∀ b, b < wr.heap.size → b < W.heap.size) ∧ Lies (fun b => b < Wb) W (.mk k3 t3 z3 r3 f3' a3 c3 n3' K3) ∧ Lies (fun b => b < wr.heap.size) W (.mk 13 ⟨#[]⟩ 0 0 false a' c' k fun _ => vNil) ∧
              At W V 0 (.mk k3 t3 z3 r3 f3' a3 c3 n3' K3) ∧ At W Wb 0 (.mk 13 ⟨#[]⟩ 0 0 false a' c' k fun _ => vNil)) := Lib.hid fun W hW => by
            have hz := hW.size
            exact ⟨fun b hb => by omega, fun b hb => by omega, HL.out.below hW (fun b hb => by omega), HS.out.1.below hW (fun b hb => hb), HA.out.below hW (by omega), F7.out.below hW (by omega)⟩
          clear hck2 hdp hct hck3 hct3
          obtain ⟨p0, p1, p2, p3, p4, p5⟩ := (HW.out wr (Below.refl _ wr)).2.2.2.2.1.lits
          go_wp2_with fail
          refine (C1.out wr (HW.out wr (Below.refl _ wr)).1 (HW.out wr (Below.refl _ wr)).2.2.1).mono ?_; rintro en w11 ⟨rfl, hb11⟩
          have B11 := Lib.hid (bstep (Below.refl _ wr) hb11)
          clear p0 p1 p2 p3 p4 p5 hb11
          obtain ⟨p0, p1, p2, p3, p4, p5⟩ := (HW.out w11 B11.out).2.2.2.2.1.lits
          go_wp2_with fail
          refine (C2.out w11 (HW.out w11 B11.out).1 (HW.out w11 B11.out).2.2.1).mono ?_; rintro en w12 ⟨rfl, hb12⟩
          have B12 := Lib.hid (bstep B11.out hb12)
          clear p0 p1 p2 p3 p4 p5 hb12
          obtain ⟨p0, p1, p2, p3, p4, p5⟩ := (HW.out w12 B12.out).2.2.2.2.1.lits
          go_wp2_with fail
          refine (C3.out w12 (HW.out w12 B12.out).1 (HW.out w12 B12.out).2.2.1).mono ?_; rintro en w13 ⟨rfl, hb13⟩
          have B13 := Lib.hid (bstep B12.out hb13)
          clear p0 p1 p2 p3 p4 p5 hb13
          obtain ⟨p0, p1, p2, p3, p4, p5⟩ := (HW.out w13 B13.out).2.2.2.2.2.lits
          go_wp2_with fail
          refine (C4.out w13 (HW.out w13 B13.out).2.1 (HW.out w13 B13.out).2.2.2.1).mono ?_; rintro en w14 ⟨rfl, hb14⟩
          have B14 := Lib.hid (bstep B13.out hb14)
          clear p0 p1 p2 p3 p4 p5 hb14
          obtain ⟨p0, p1, p2, p3, p4, p5⟩ := (HW.out w14 B14.out).2.2.2.2.2.lits
          go_wp2_with fail
          refine (C5.out w14 (HW.out w14 B14.out).2.1 (HW.out w14 B14.out).2.2.2.1).mono ?_; rintro en w15 ⟨rfl, hb15⟩
          have B15 := Lib.hid (bstep B14.out hb15)
          clear p0 p1 p2 p3 p4 p5 hb15
          go_wp2_with fail
          go_ret
          exact ⟨rfl, bstep Hb.out B15.out⟩
end Go.Proofs.YthngmmdfidhhpaaDoor
