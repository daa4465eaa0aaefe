/- The document's Right of layer 3 at every small value, and the walk of the law ValueChecks: true at any value. No condition. -/
import Derived.Test.YtiigfcggdjcmfaaDoorVq5
namespace Go.Proofs.YtiigfcggdjcmfaaDoor
open Go.ChangeShapes Go.WideShapes Go.ChangeAt Go.RowKit

set_option maxHeartbeats 2000000 in
theorem right_calls (v : Val) (S : Nat → Prop) (w : World) (hS : ∀ b, S b → b < w.heap.size) (hl : Lies S w v) (hn : v.nest ≤ 65536) (hc : v.count ≤ 1099511627776) :
    Calls Tryd.prog 10 #[v.agg] w fun e w' => e = .returned (.bool (checkN v == 0)) ∧ Below w.heap.size w w' := by
  cases v with
  | no => exact hl.elim
  | mk k t z r f a c n K =>
    obtain ⟨q1, q2, q3⟩ := box_facts w k t z r f a c n K
    have HR := Lib.hid (right_check (.mk k t z r f a c n K))
    have C1 : Hid (∀ w', Below w.heap.size w w' → Calls _ _ #[.agg #[.int .i64 k, .string t, .int .i64 z, .float .f64 r, .bool f, .slice a n c], .int .i64 0] _ _) := Lib.hid (fun w' (h : Below w.heap.size w w') => rall_calls (.mk k t z r f a c n K) S w' 0 (fun b hb => Nat.lt_of_lt_of_le (hS b hb) h.size) (hl.below h hS) (by omega))
    have C2 : Hid (∀ w', Below w.heap.size w w' → Calls _ _ #[.agg #[.int .i64 k, .string t, .int .i64 z, .float .f64 r, .bool f, .slice a n c]] _ _) := Lib.hid (fun w' (h : Below w.heap.size w w') => rdepth_calls (.mk k t z r f a c n K) S w' (fun b hb => Nat.lt_of_lt_of_le (hS b hb) h.size) (hl.below h hS) hn)
    have C3 : Hid (∀ w', Below w.heap.size w w' → Calls _ _ #[.agg #[.int .i64 k, .string t, .int .i64 z, .float .f64 r, .bool f, .slice a n c]] _ _) := Lib.hid (fun w' (h : Below w.heap.size w w') => rcount_calls (.mk k t z r f a c n K) S w' (fun b hb => Nat.lt_of_lt_of_le (hS b hb) h.size) (hl.below h hS) hc)
    have hd2 := depth_le_nest (.mk k t z r f a c n K)
    generalize hav : allN (.mk k t z r f a c n K) 0 = av at *
    generalize hdv : (Val.mk k t z r f a c n K).depth = dv at *
    generalize hcv : (Val.mk k t z r f a c n K).count = cv at *
    generalize checkN (.mk k t z r f a c n K) = ck at *
    have hdb : dv ≤ 65536 := by omega
    unfold Val.agg
    clear hl hS hn hd2 hav hdv hcv
    have Q1 := Lib.hid q1
    have Q2 := Lib.hid q2
    have Q3 := Lib.hid q3
    clear q1 q2 q3
    go_enter Tryd.func10, Tryd.ntmps10
    go_wp2_with fail
    generalize hW : w.alloc _ = W at *
    refine (C1.out _ Q1.out).mono ?_; rintro en w1 ⟨rfl, hb1⟩
    have B1 := Lib.hid (bstep Q1.out hb1)
    have A1 := Lib.hid (Q3.out.below hb1 (by have := Q2.out; omega))
    have Z1 : Hid (w.heap.size < w1.heap.size) := Lib.hid (by have := Q2.out; have := hb1.size; omega)
    clear hb1 hW Q1 Q2 Q3
    obtain ⟨x0, x1, x2, x3, x4, x5⟩ := A1.out.lits
    cases av with
    | false =>
      have Hr : Hid ((ck == 0) = false) := Lib.hid (by rw [← HR.out]; rfl)
      go_wp2_with fail
      go_ret
      exact ⟨by rw [Hr.out]; rfl, B1.out⟩
    | true =>
      go_wp2_with fail
      refine (C2.out _ B1.out).mono ?_; rintro en w2 ⟨rfl, hb2⟩
      have B2 := Lib.hid (bstep B1.out hb2)
      have A2 := Lib.hid (A1.out.below hb2 Z1.out)
      clear hb2 A1 Z1 x0 x1 x2 x3 x4 x5
      obtain ⟨x0, x1, x2, x3, x4, x5⟩ := A2.out.lits
      by_cases h8 : dv ≤ 8
      · have Hr : Hid ((ck == 0) = decide ((cv : Int) ≤ 1000)) := Lib.hid (by
          rw [← HR.out, decide_eq_true h8, Bool.true_and, Bool.true_and]
          congr 1
          exact propext ⟨fun h => by omega, fun h => by omega⟩)
        go_wp2_with fail
        refine (C3.out _ B2.out).mono ?_; rintro en w3 ⟨rfl, hb3⟩
        have B3 := Lib.hid (bstep B2.out hb3)
        clear hb3
        go_wp2_with fail
        go_ret
        exact ⟨by rw [Hr.out]; first | rfl | simp, B3.out⟩
      · have Hr : Hid ((ck == 0) = false) := Lib.hid (by rw [← HR.out, decide_eq_false h8]; rfl)
        go_wp2_with fail
        go_ret
        exact ⟨by rw [Hr.out]; rfl, B2.out⟩

set_option maxHeartbeats 4000000 in
set_option maxRecDepth 100000 in
theorem valueChecks_mk (k : Int) (t : ByteArray) (z : Int) (r : Nat) (f : Bool) (a : Option Addr) (c n : Nat) (K : Nat → Val) (W : World) (hl : Lies (fun b => b < W.heap.size) W (.mk k t z r f a c n K)) :
    Calls Tryd.prog 3 #[(Val.mk k t z r f a c n K).agg] W fun e w' => e = .returned (.bool true) ∧ Below W.heap.size W w' := by
  obtain ⟨q1, q2, q3⟩ := box_facts W k t z r f a c n K
  have Q1 := Lib.hid q1
  have Q2 := Lib.hid q2
  have Q3 := Lib.hid q3
  have HL := Lib.hid hl
  have hS : ∀ w' : World, Below W.heap.size W w' → ∀ b, b < W.heap.size → b < w'.heap.size := fun w' h b hb => Nat.lt_of_lt_of_le hb h.size
  have HS := Lib.hid hS
  have C1 : Hid (∀ w', Below W.heap.size W w' → Calls _ _ #[.agg #[.int .i64 k, .string t, .int .i64 z, .float .f64 r, .bool f, .slice a n c]] _ _) := Lib.hid (fun w' (h : Below W.heap.size W w') => small_calls (.mk k t z r f a c n K) (fun b => b < W.heap.size) w' (hS _ h) (hl.below h (fun _ h => h)))
  unfold Val.agg
  clear q1 q2 q3 hl hS
  go_enter Tryd.func3, Tryd.ntmps3
  go_wp2_with fail
  generalize hW : W.alloc _ = W0 at *
  refine (valive_calls W0).mono ?_; rintro en w1 ⟨rfl, hb1⟩
  have B1 := Lib.hid (bstep Q1.out hb1)
  have A1 := Lib.hid (Q3.out.below hb1 (by have := Q2.out; omega))
  have Z1 : Hid (W.heap.size < w1.heap.size) := Lib.hid (by have := Q2.out; have := hb1.size; omega)
  clear hb1 hW Q1 Q2 Q3
  obtain ⟨x0, x1, x2, x3, x4, x5⟩ := A1.out.lits
  go_wp2_with fail
  refine (C1.out _ B1.out).mono ?_; rintro en w2 ⟨rfl, hb2⟩
  have B2 := Lib.hid (bstep B1.out hb2)
  have A2 := Lib.hid (A1.out.below hb2 Z1.out)
  have Z2 : Hid (W.heap.size < w2.heap.size) := Lib.hid (Nat.lt_of_lt_of_le Z1.out hb2.size)
  clear hb2 A1 Z1 C1 x0 x1 x2 x3 x4 x5
  obtain ⟨x0, x1, x2, x3, x4, x5⟩ := A2.out.lits
  cases hsx : small (.mk k t z r f a c n K) with
  | false =>
    clear hsx
    go_wp2_with fail
    go_ret
    exact ⟨rfl, B2.out⟩
  | true =>
    obtain ⟨hc3, hn31⟩ := small_facts hsx
    have hdn := depth_le_nest (.mk k t z r f a c n K)
    have Hf := Lib.hid (fits_lies HL.out)
    have D1 : Hid (∀ w', Below W.heap.size W w' → Calls _ _ #[.agg #[.int .i64 k, .string t, .int .i64 z, .float .f64 r, .bool f, .slice a n c]] _ _) := Lib.hid (fun w' (h : Below W.heap.size W w') => check_calls (.mk k t z r f a c n K) (fun b => b < W.heap.size) w' (HS.out _ h) (HL.out.below h (fun _ h => h)) Hf.out)
    have D2 : Hid (∀ w', Below W.heap.size W w' → Calls _ _ #[.agg #[.int .i64 k, .string t, .int .i64 z, .float .f64 r, .bool f, .slice a n c]] _ _) := Lib.hid (fun w' (h : Below W.heap.size W w') => right_calls (.mk k t z r f a c n K) (fun b => b < W.heap.size) w' (HS.out _ h) (HL.out.below h (fun _ h => h)) (by omega) (by omega))
    have D3 : Hid (∀ w', Below W.heap.size W w' → Calls _ _ #[.agg #[.int .i64 k, .string t, .int .i64 z, .float .f64 r, .bool f, .slice a n c]] _ _) := Lib.hid (fun w' (h : Below W.heap.size W w') => vdepth_calls (.mk k t z r f a c n K) (fun b => b < W.heap.size) w' (HS.out _ h) (HL.out.below h (fun _ h => h)) (by omega))
    have D4 : Hid (∀ w', Below W.heap.size W w' → Calls _ _ #[.agg #[.int .i64 k, .string t, .int .i64 z, .float .f64 r, .bool f, .slice a n c]] _ _) := Lib.hid (fun w' (h : Below W.heap.size W w') => rdepth_calls (.mk k t z r f a c n K) (fun b => b < W.heap.size) w' (HS.out _ h) (HL.out.below h (fun _ h => h)) (by omega))
    have D5 : Hid (∀ w', Below W.heap.size W w' → Calls _ _ #[.agg #[.int .i64 k, .string t, .int .i64 z, .float .f64 r, .bool f, .slice a n c]] _ _) := Lib.hid (fun w' (h : Below W.heap.size W w') => count_calls (.mk k t z r f a c n K) (fun b => b < W.heap.size) w' (HS.out _ h) (HL.out.below h (fun _ h => h)) (by omega) (by omega))
    have D6 : Hid (∀ w', Below W.heap.size W w' → Calls _ _ #[.agg #[.int .i64 k, .string t, .int .i64 z, .float .f64 r, .bool f, .slice a n c]] _ _) := Lib.hid (fun w' (h : Below W.heap.size W w') => rcount_calls (.mk k t z r f a c n K) (fun b => b < W.heap.size) w' (HS.out _ h) (HL.out.below h (fun _ h => h)) (by omega))
    have hck : (checkN (.mk k t z r f a c n K) = 0 ∧ (checkN (.mk k t z r f a c n K) == 0) = true) ∨ (checkN (.mk k t z r f a c n K) = 31 ∧ (checkN (.mk k t z r f a c n K) == 0) = false) := by
      unfold checkN
      split
      · exact .inl ⟨rfl, rfl⟩
      · exact .inr ⟨rfl, rfl⟩
    generalize (checkN (.mk k t z r f a c n K) == 0) = rb at *
    have D1 : Hid (∀ w', Below W.heap.size W w' → Calls _ _ _ w' fun e w'' => e = .returned (.int .i64 (checkN (.mk k t z r f a c n K))) ∧ Below w'.heap.size w' w'') := Lib.hid D1.out
    generalize (Val.mk k t z r f a c n K).depth = dv at *
    generalize (Val.mk k t z r f a c n K).count = cv at *
    generalize checkN (.mk k t z r f a c n K) = ck at *
    have hdb : dv ≤ 31 := by omega
    clear hsx hn31 hdn x0 x1 x2 x3 x4 x5 HL HS Hf
    rcases hck with ⟨rfl, rfl⟩ | ⟨rfl, rfl⟩
    all_goals
      go_wp2_with fail
      obtain ⟨F, F1, F2, F3, -⟩ := over w2
      have hb : ∀ u, Below W.heap.size W (F u) := fun u => bstep B2.out (F1 u)
      have ha : ∀ u, At (F u) W.heap.size 0 (.mk k t z r f a c n K) := fun u => A2.out.below (F1 u) Z2.out
      have xx0 : ∀ u, (F u).cell? ⟨W.heap.size, 0, none⟩ = some (.int .i64 k) := fun u => (ha u).lits.1
      have xx1 : ∀ u, (F u).cell? ⟨W.heap.size, 1, none⟩ = some (.string t) := fun u => (ha u).lits.2.1
      have xx2 : ∀ u, (F u).cell? ⟨W.heap.size, 2, none⟩ = some (.int .i64 z) := fun u => (ha u).lits.2.2.1
      have xx3 : ∀ u, (F u).cell? ⟨W.heap.size, 3, none⟩ = some (.float .f64 r) := fun u => (ha u).lits.2.2.2.1
      have xx4 : ∀ u, (F u).cell? ⟨W.heap.size, 4, none⟩ = some (.bool f) := fun u => (ha u).lits.2.2.2.2.1
      have xx5 : ∀ u, (F u).cell? ⟨W.heap.size, 5, none⟩ = some (.slice a n c) := fun u => (ha u).lits.2.2.2.2.2
      have H1 := Lib.hid (fun u => D1.out (F u) (hb u))
      have H2 := Lib.hid (fun u => D2.out (F u) (hb u))
      have H3 := Lib.hid (fun u => D3.out (F u) (hb u))
      have H4 := Lib.hid (fun u => D4.out (F u) (hb u))
      have H5 := Lib.hid (fun u => D5.out (F u) (hb u))
      have H6 := Lib.hid (fun u => D6.out (F u) (hb u))
      have HB := Lib.hid hb
      have HF3 := Lib.hid F3
      clear F1 F3 ha hb D1 D2 D3 D4 D5 D6
      refine wp_region_class F (by kernel_rfl) (by kernel_rfl) F2 ?_
      try dsimp only [List.append]
      repeat (go_big_quiet_step (first | (go_at_call 9; with_reducible exact quiet_over HF3.out (H1.out _)) | (go_at_call 10; with_reducible exact quiet_over HF3.out (H2.out _)) | (go_at_call 11; with_reducible exact quiet_over HF3.out (H3.out _)) | (go_at_call 12; with_reducible exact quiet_over HF3.out (H4.out _)) | (go_at_call 13; with_reducible exact quiet_over HF3.out (H5.out _)) | (go_at_call 14; with_reducible exact quiet_over HF3.out (H6.out _))))
      refine wpQuiet_nil ?_
      intro _ hw'
      obtain ⟨u1, hw2⟩ := hw'
      subst hw2
      go_wp2_with fail
      go_ret
      exact ⟨rfl, HB.out u1⟩
theorem valueChecks (v : Val) (W : World) (hl : Lies (fun b => b < W.heap.size) W v) :
    Calls Tryd.prog 3 #[v.agg] W fun e w' => e = .returned (.bool true) ∧ Below W.heap.size W w' := by
  cases v with
  | no => exact hl.elim
  | mk k t z r f a c n K => exact valueChecks_mk k t z r f a c n K W hl
end Go.Proofs.YtiigfcggdjcmfaaDoor
