/- The walk of the law ValueSame: true, at any two values and any text. Conditions: texts within the reach (which the form asks). -/
import Derived.Test.YthngmmdfidhhpaaDoorVg1
namespace Go.Proofs.YthngmmdfidhhpaaDoor
open Go.ChangeShapes Go.WideShapes Go.ChangeAt Go.RowKit

@[go_sem] theorem fieldK (w : World) (k : Int) (t : ByteArray) (z : Int) (r : Nat) (f : Bool) (a : Option Addr) (c n : Nat) : (Instr.field 25 (.agg #[.int .i64 k, .string t, .int .i64 z, .float .f64 r, .bool f, .slice a n c]) 0).run Tryd.prog w = .ok (.int .i64 k) w := by kernel_rfl
@[go_sem] theorem fieldT (w : World) (k : Int) (t : ByteArray) (z : Int) (r : Nat) (f : Bool) (a : Option Addr) (c n : Nat) : (Instr.field 25 (.agg #[.int .i64 k, .string t, .int .i64 z, .float .f64 r, .bool f, .slice a n c]) 1).run Tryd.prog w = .ok (.string t) w := by kernel_rfl
@[go_sem] theorem fieldZ (w : World) (k : Int) (t : ByteArray) (z : Int) (r : Nat) (f : Bool) (a : Option Addr) (c n : Nat) : (Instr.field 25 (.agg #[.int .i64 k, .string t, .int .i64 z, .float .f64 r, .bool f, .slice a n c]) 2).run Tryd.prog w = .ok (.int .i64 z) w := by kernel_rfl
/-- The law's two values, in their boxes, in a later world. -/
def Ready (w : World) (x y : Val) (v : World) : Prop :=
  Below w.heap.size w v ∧ w.heap.size + 1 < v.heap.size ∧ At v w.heap.size 0 x ∧ At v (w.heap.size + 1) 0 y ∧ Lies (fun b => b < w.heap.size) v x ∧ Lies (fun b => b < w.heap.size) v y
theorem Ready.on {w : World} {x y : Val} {v u : World} (h : Ready w x y v) (hb : Below v.heap.size v u) : Ready w x y u := by
  obtain ⟨h1, h2, h3, h4, h5, h6⟩ := h
  have hz := hb.size
  exact ⟨bstep h1 hb, by omega, h3.below hb (by omega), h4.below hb (by omega), h5.below hb (fun b h => by omega), h6.below hb (fun b h => by omega)⟩
theorem Ready.set {w : World} {x y : Val} {v u : World} (h : Ready w x y v) (hb : Below (w.heap.size + 2) v u) : Ready w x y u := by
  obtain ⟨h1, h2, h3, h4, h5, h6⟩ := h
  have hz := hb.size
  exact ⟨h1.trans (hb.mono (by omega)), by omega, h3.below hb (by omega), h4.below hb (by omega), h5.below hb (fun b h => by omega), h6.below hb (fun b h => by omega)⟩
theorem Ready.S {w : World} {x y : Val} {v : World} (h : Ready w x y v) : ∀ b, b < w.heap.size → b < v.heap.size := fun b hb => by have := h.2.1; omega

set_option maxHeartbeats 16000000 in
set_option maxRecDepth 100000 in
theorem valueSame (x y : Val) (s : ByteArray) (w : World) (hx : Lies (fun b => b < w.heap.size) w x) (hy : Lies (fun b => b < w.heap.size) w y) (hsl : x.slim) :
    Calls Tryd.prog 5 #[x.agg, y.agg, .string s] w fun e w' => e = .returned (.bool true) ∧ Below w.heap.size w w' := by
  cases x with
  | no => exact hx.elim
  | mk k t z r f a c n K =>
  cases y with
  | no => exact hy.elim
  | mk k' t' z' r' f' a' c' n' K' =>
  have hr0 : Ready w (.mk k t z r f a c n K) (.mk k' t' z' r' f' a' c' n' K') ((w.alloc (.cells #[.int .i64 k, .string t, .int .i64 z, .float .f64 r, .bool f, .slice a n c] 25)).alloc (.cells #[.int .i64 k', .string t', .int .i64 z', .float .f64 r', .bool f', .slice a' n' c'] 25)) := by
    obtain ⟨q1, q2, q3, q4⟩ := two_facts w k k' t t' z z' r r' f f' a a' c c' n n' K K'
    exact ⟨q1, by omega, q3, q4, hx.below q1 fun _ h => h, hy.below q1 fun _ h => h⟩
  have hn31 : small (.mk k t z r f a c n K) = true → Val.nest (.mk k t z r f a c n K) ≤ 65536 ∧ Val.count (.mk k t z r f a c n K) ≤ 1099511627776 := fun h => by have := small_facts h; omega
  have hn31' : small (.mk k' t' z' r' f' a' c' n' K') = true → Val.nest (.mk k' t' z' r' f' a' c' n' K') ≤ 65536 ∧ Val.count (.mk k' t' z' r' f' a' c' n' K') ≤ 1099511627776 := fun h => by have := small_facts h; omega
  have HN := Lib.hid hn31
  have HN' := Lib.hid hn31'
  have R0 := Lib.hid hr0
  have HSl := Lib.hid hsl
  clear hx hy hr0 hn31 hn31' hsl
  unfold Val.agg
  go_enter Tryd.func5, Tryd.ntmps5
  go_wp2_with fail
  generalize hW0 : ((w.alloc _).alloc _) = W0 at *
  clear hW0
  refine (alive_calls W0).mono ?_; rintro en w1 ⟨rfl, hb1⟩
  have R1 := Lib.hid (R0.out.on hb1)
  obtain ⟨x0, x1, x2, x3, x4, x5⟩ := R1.out.2.2.1.lits
  have Hc1 : Hid (Calls _ _ #[.agg #[.int .i64 k, .string t, .int .i64 z, .float .f64 r, .bool f, .slice a n c]] _ _) := Lib.hid (small_calls (.mk k t z r f a c n K) _ w1 R1.out.S R1.out.2.2.2.2.1)
  clear hb1 R0
  go_wp2_with fail
  refine Hc1.out.mono ?_; rintro en w2 ⟨rfl, hb2⟩
  have R2 := Lib.hid (R1.out.on hb2)
  clear hb2 x0 x1 x2 x3 x4 x5 R1 Hc1
  cases hsx : small (.mk k t z r f a c n K) with
  | false =>
    clear hsx
    go_wp2_with fail
    go_ret
    exact ⟨rfl, R2.out.1⟩
  | true =>
  have HSX := Lib.hid hsx
  obtain ⟨y0, y1, y2, y3, y4, y5⟩ := R2.out.2.2.2.1.lits
  have Hc2 : Hid (Calls _ _ #[.agg #[.int .i64 k', .string t', .int .i64 z', .float .f64 r', .bool f', .slice a' n' c']] _ _) := Lib.hid (small_calls (.mk k' t' z' r' f' a' c' n' K') _ w2 R2.out.S R2.out.2.2.2.2.2)
  clear hsx
  go_wp2_with fail
  refine Hc2.out.mono ?_; rintro en w3 ⟨rfl, hb3⟩
  have R3 := Lib.hid (R2.out.on hb3)
  clear hb3 y0 y1 y2 y3 y4 y5 R2 Hc2
  cases hsy : small (.mk k' t' z' r' f' a' c' n' K') with
  | false =>
    clear hsy
    go_wp2_with fail
    go_ret
    exact ⟨rfl, R3.out.1⟩
  | true =>
  have HSY := Lib.hid hsy
  obtain ⟨x0, x1, x2, x3, x4, x5⟩ := R3.out.2.2.1.lits
  have Hc3 : Hid (Calls _ _ #[.agg #[.int .i64 k, .string t, .int .i64 z, .float .f64 r, .bool f, .slice a n c]] _ _) := Lib.hid (copy_calls (.mk k t z r f a c n K) _ w3 R3.out.S R3.out.2.2.2.2.1 (HN.out HSX.out).1 (HN.out HSX.out).2)
  clear hsy
  go_wp2_with fail
  refine Hc3.out.mono ?_; rintro en w4 ⟨v', rfl, htw, hb4, hnew⟩
  cases v' with
  | no => exact hnew.elim
  | mk kc tc zc rc fc ac cc nc KC =>
  unfold Val.agg
  have R4 := Lib.hid (R3.out.on hb4)
  have Htw := Lib.hid htw
  have Hnew := Lib.hid hnew
  have hlc := hnew.lies
  have hz34 := hb4.size
  clear htw hnew hb4 x0 x1 x2 x3 x4 x5 Hc3
  go_wp2_with fail
  have hgr : Below w4.heap.size w4 (w4.alloc (.cells #[.int .i64 kc, .string tc, .int .i64 zc, .float .f64 rc, .bool fc, .slice ac nc cc] 25)) := (Below.refl _ _).alloc (Nat.le_refl _) _
  have hC5 : At (w4.alloc (.cells #[.int .i64 kc, .string tc, .int .i64 zc, .float .f64 rc, .bool fc, .slice ac nc cc] 25)) w4.heap.size 0 (.mk kc tc zc rc fc ac cc nc KC) := at_new ..
  have hz5 : (w4.alloc (.cells #[.int .i64 kc, .string tc, .int .i64 zc, .float .f64 rc, .bool fc, .slice ac nc cc] 25)).heap.size = w4.heap.size + 1 := by simp
  generalize hW5 : (w4.alloc _) = W5 at *
  clear hW5
  have hlc5 : Lies (fun b => b < w4.heap.size) W5 (.mk kc tc zc rc fc ac cc nc KC) := (hlc.wide fun _ h => h.2).below hgr fun _ h => h
  have R5 := Lib.hid (R4.out.on hgr)
  have HG := Lib.hid hgr
  have HC5 := Lib.hid hC5
  have HL5 := Lib.hid hlc5
  clear hlc hgr hC5 hlc5
  obtain ⟨F, F1, F2, F3, -⟩ := over W5
  have RF := fun u => R5.out.on (F1 u)
  have xx0 : ∀ u, (F u).cell? ⟨w.heap.size, 0, none⟩ = some (.int .i64 k) := fun u => ((RF u).2.2.1).lits.1
  have xx1 : ∀ u, (F u).cell? ⟨w.heap.size, 1, none⟩ = some (.string t) := fun u => ((RF u).2.2.1).lits.2.1
  have xx2 : ∀ u, (F u).cell? ⟨w.heap.size, 2, none⟩ = some (.int .i64 z) := fun u => ((RF u).2.2.1).lits.2.2.1
  have xx3 : ∀ u, (F u).cell? ⟨w.heap.size, 3, none⟩ = some (.float .f64 r) := fun u => ((RF u).2.2.1).lits.2.2.2.1
  have xx4 : ∀ u, (F u).cell? ⟨w.heap.size, 4, none⟩ = some (.bool f) := fun u => ((RF u).2.2.1).lits.2.2.2.2.1
  have xx5 : ∀ u, (F u).cell? ⟨w.heap.size, 5, none⟩ = some (.slice a n c) := fun u => ((RF u).2.2.1).lits.2.2.2.2.2
  have yy0 : ∀ u, (F u).cell? ⟨w.heap.size + 1, 0, none⟩ = some (.int .i64 k') := fun u => ((RF u).2.2.2.1).lits.1
  have yy1 : ∀ u, (F u).cell? ⟨w.heap.size + 1, 1, none⟩ = some (.string t') := fun u => ((RF u).2.2.2.1).lits.2.1
  have yy2 : ∀ u, (F u).cell? ⟨w.heap.size + 1, 2, none⟩ = some (.int .i64 z') := fun u => ((RF u).2.2.2.1).lits.2.2.1
  have yy3 : ∀ u, (F u).cell? ⟨w.heap.size + 1, 3, none⟩ = some (.float .f64 r') := fun u => ((RF u).2.2.2.1).lits.2.2.2.1
  have yy4 : ∀ u, (F u).cell? ⟨w.heap.size + 1, 4, none⟩ = some (.bool f') := fun u => ((RF u).2.2.2.1).lits.2.2.2.2.1
  have yy5 : ∀ u, (F u).cell? ⟨w.heap.size + 1, 5, none⟩ = some (.slice a' n' c') := fun u => ((RF u).2.2.2.1).lits.2.2.2.2.2
  have cx0 : ∀ u, (F u).cell? ⟨w4.heap.size, 0, none⟩ = some (.int .i64 kc) := fun u => (HC5.out.below (F1 u) (by omega)).lits.1
  have cx1 : ∀ u, (F u).cell? ⟨w4.heap.size, 1, none⟩ = some (.string tc) := fun u => (HC5.out.below (F1 u) (by omega)).lits.2.1
  have cx2 : ∀ u, (F u).cell? ⟨w4.heap.size, 2, none⟩ = some (.int .i64 zc) := fun u => (HC5.out.below (F1 u) (by omega)).lits.2.2.1
  have cx3 : ∀ u, (F u).cell? ⟨w4.heap.size, 3, none⟩ = some (.float .f64 rc) := fun u => (HC5.out.below (F1 u) (by omega)).lits.2.2.2.1
  have cx4 : ∀ u, (F u).cell? ⟨w4.heap.size, 4, none⟩ = some (.bool fc) := fun u => (HC5.out.below (F1 u) (by omega)).lits.2.2.2.2.1
  have cx5 : ∀ u, (F u).cell? ⟨w4.heap.size, 5, none⟩ = some (.slice ac nc cc) := fun u => (HC5.out.below (F1 u) (by omega)).lits.2.2.2.2.2
  generalize hq : same (.mk k t z r f a c n K) (.mk k' t' z' r' f' a' c' n' K') = q
  have HQ := Lib.hid hq
  have H1 : Hid (∀ u, Calls Tryd.prog 22 #[.agg #[.int .i64 k, .string t, .int .i64 z, .float .f64 r, .bool f, .slice a n c], .agg #[.int .i64 k', .string t', .int .i64 z', .float .f64 r', .bool f', .slice a' n' c']] (F u) fun e w' => e = .returned (.bool q) ∧ Below (F u).heap.size (F u) w') := Lib.hid fun u => hq ▸ vsame_calls (.mk k t z r f a c n K) (.mk k' t' z' r' f' a' c' n' K') _ (F u) (RF u).S (RF u).2.2.2.2.1 (RF u).2.2.2.2.2 (HN.out HSX.out).1
  have H2 : Hid (∀ u, Calls Tryd.prog 23 #[.agg #[.int .i64 k, .string t, .int .i64 z, .float .f64 r, .bool f, .slice a n c], .agg #[.int .i64 k', .string t', .int .i64 z', .float .f64 r', .bool f', .slice a' n' c']] (F u) fun e w' => e = .returned (.bool q) ∧ Below (F u).heap.size (F u) w') := Lib.hid fun u => hq ▸ rsame_calls (.mk k t z r f a c n K) (.mk k' t' z' r' f' a' c' n' K') _ (F u) (RF u).S (RF u).2.2.2.2.1 (RF u).2.2.2.2.2
  have hS4 : ∀ u b, b < w4.heap.size → b < (F u).heap.size := fun u b hb => by have := (F1 u).size; omega
  have hxF : ∀ u, Lies (fun b => b < w4.heap.size) (F u) (.mk k t z r f a c n K) := fun u => (RF u).2.2.2.2.1.wide fun b hb => by have := R4.out.2.1; omega
  have hcF : ∀ u, Lies (fun b => b < w4.heap.size) (F u) (.mk kc tc zc rc fc ac cc nc KC) := fun u => HL5.out.below (F1 u) fun b hb => by omega
  have H3 : Hid (∀ u, Calls Tryd.prog 22 #[.agg #[.int .i64 k, .string t, .int .i64 z, .float .f64 r, .bool f, .slice a n c], .agg #[.int .i64 kc, .string tc, .int .i64 zc, .float .f64 rc, .bool fc, .slice ac nc cc]] (F u) fun e w' => e = .returned (.bool true) ∧ Below (F u).heap.size (F u) w') := Lib.hid fun u => Htw.out.same.1 ▸ vsame_calls (.mk k t z r f a c n K) (.mk kc tc zc rc fc ac cc nc KC) _ (F u) (hS4 u) (hxF u) (hcF u) (HN.out HSX.out).1
  have H4 : Hid (∀ u, Calls Tryd.prog 23 #[.agg #[.int .i64 k, .string t, .int .i64 z, .float .f64 r, .bool f, .slice a n c], .agg #[.int .i64 kc, .string tc, .int .i64 zc, .float .f64 rc, .bool fc, .slice ac nc cc]] (F u) fun e w' => e = .returned (.bool true) ∧ Below (F u).heap.size (F u) w') := Lib.hid fun u => Htw.out.same.1 ▸ rsame_calls (.mk k t z r f a c n K) (.mk kc tc zc rc fc ac cc nc KC) _ (F u) (hS4 u) (hxF u) (hcF u)
  have HF1 := Lib.hid F1
  have HF3 := Lib.hid F3
  clear F1 F3 RF hS4 hxF hcF hq
  refine wp_region_class F (by kernel_rfl) (by kernel_rfl) F2 ?_
  try dsimp only [List.append]
  repeat (go_big_quiet_step (first | (go_at_call 22; with_reducible exact quiet_over HF3.out (H1.out _)) | (go_at_call 22; with_reducible exact quiet_over HF3.out (H3.out _)) | (go_at_call 23; with_reducible exact quiet_over HF3.out (H2.out _)) | (go_at_call 23; with_reducible exact quiet_over HF3.out (H4.out _))))
  refine wpQuiet_nil ?_
  intro _ hw'
  obtain ⟨u1, hw2⟩ := hw'
  subst hw2
  have R6 := Lib.hid (R5.out.on (HF1.out u1))
  have hb46 := HG.out.trans ((HF1.out u1).mono (by omega))
  have HB46 := Lib.hid hb46
  have HC6 := Lib.hid (HC5.out.below (HF1.out u1) (by omega))
  have hz6 := (HF1.out u1).size
  clear xx0 xx1 xx2 xx3 xx4 xx5 yy0 yy1 yy2 yy3 yy4 yy5 cx0 cx1 cx2 cx3 cx4 cx5 H1 H2 H3 H4 hb46 F2
  generalize F u1 = w6 at *
  obtain ⟨x0, x1, x2, x3, x4, x5⟩ := R6.out.2.2.1.lits
  obtain ⟨y0, y1, y2, y3, y4, y5⟩ := R6.out.2.2.2.1.lits
  go_wp2_with fail
  obtain ⟨e1, e2, e3, e4⟩ := row2_facts w6 k k' t t' z z' r r' f f' a a' c c' n n' K K'
  generalize hW7 : (w6.alloc _) = W7 at *
  clear hW7 x0 x1 x2 x3 x4 x5 y0 y1 y2 y3 y4 y5
  have R7 := Lib.hid (R6.out.on e1)
  have hlist := list_calls (some ⟨w6.heap.size, 0, none⟩) 2 2 (kidAB (.mk k t z r f a c n K) (.mk k' t' z' r' f' a' c' n' K')) (fun b => b < W7.heap.size) W7 (fun _ h => h)
    (lies_row2 (show w6.heap.size < W7.heap.size by omega) e3 e4 (R7.out.2.2.2.2.1.wide R7.out.S) (R7.out.2.2.2.2.2.wide R7.out.S)) (fun i hi => by
      rcases (show i = 0 ∨ i = 1 by omega) with rfl | rfl
      · exact HN.out HSX.out
      · exact HN'.out HSY.out)
  have Hlist := Lib.hid hlist
  have HB47 := Lib.hid (bstep HB46.out e1)
  have HC7 := Lib.hid (HC6.out.below e1 (by omega))
  clear hlist e1 e3 e4
  refine Hlist.out.mono ?_; intro en w8 h8
  obtain ⟨B, C, x', y', rfl, hb8, hB, hlo, hC, g0, g1, htx, hty, hlx, hly⟩ := made2 h8
  cases x' with
  | no => exact g0.elim
  | mk k3 t3 z3 r3 f3 a3 c3 n3 K3 =>
  cases y' with
  | no => exact g1.elim
  | mk k4 t4 z4 r4 f4 a4 c4 n4 K4 =>
  have R8 := Lib.hid (R7.out.on hb8)
  have HB48 := Lib.hid (bstep HB47.out hb8)
  have HC8 := Lib.hid (HC7.out.below hb8 (by omega))
  have hz8 := hb8.size
  have G0 := Lib.hid g0
  have G1 := Lib.hid g1
  have Htx := Lib.hid htx
  have Hty := Lib.hid hty
  have Hlx := Lib.hid hlx
  have Hly := Lib.hid hly
  clear h8 hb8 g0 g1 htx hty hlx hly Hlist
  go_upto_region 9 with (fail)
  have hgr : Below w8.heap.size w8 (w8.alloc (.cells #[.int .i64 5, .string ⟨#[]⟩, .int .i64 0, .float .f64 0, .bool false, .slice (some ⟨B, 0, none⟩) 2 C] 25)) := (Below.refl _ _).alloc (Nat.le_refl _) _
  have hL9 : At (w8.alloc (.cells #[.int .i64 5, .string ⟨#[]⟩, .int .i64 0, .float .f64 0, .bool false, .slice (some ⟨B, 0, none⟩) 2 C] 25)) w8.heap.size 0 (.mk 5 ⟨#[]⟩ 0 0 false (some ⟨B, 0, none⟩) C 2 K) := at_new ..
  have hz9 : (w8.alloc (.cells #[.int .i64 5, .string ⟨#[]⟩, .int .i64 0, .float .f64 0, .bool false, .slice (some ⟨B, 0, none⟩) 2 C] 25)).heap.size = w8.heap.size + 1 := by simp
  generalize hW9 : (w8.alloc _) = W9 at *
  clear hW9
  have R9 := Lib.hid (R8.out.on hgr)
  have HB49 := Lib.hid (bstep HB48.out hgr)
  have HC9 := Lib.hid (HC8.out.below hgr (by omega))
  have HL9 := Lib.hid hL9
  have G09 := Lib.hid (G0.out.below hgr hB)
  have G19 := Lib.hid (G1.out.below hgr hB)
  have Hlx9 := Lib.hid (Hlx.out.below hgr fun b h => h.2)
  have Hly9 := Lib.hid (Hly.out.below hgr fun b h => h.2)
  clear hgr hL9
  have h3w : w.heap.size + 1 < w3.heap.size := R3.out.2.1
  obtain ⟨x0, x1, x2, x3, x4, x5⟩ := HC9.out.lits
  by_cases hn0 : 0 < nc
  · obtain ⟨B2, k5, t5, z5, r5, f5, a5, c5, n5, K5, hac, hlo2, hB2, hncc, ht5, d1, d2, hK0, hturn⟩ := turned Htw.out Hnew.out HB49.out hn0 HSl.out
    obtain ⟨hT1, hT2⟩ := hturn (t5 ++ (⟨#[120]⟩ : ByteArray)) (by rw [longer_size]; omega) longer
    subst hac
    have hset : Below w3.heap.size W9 (W9.setCell ⟨B2, 1, none⟩ (.string (t5 ++ (⟨#[120]⟩ : ByteArray)))) := Below.setCell (p := ⟨B2, 1, none⟩) (Below.refl w3.heap.size W9) hlo2 _
    have hoth : ∀ b, b ≠ B2 → ∀ o, (W9.setCell ⟨B2, 1, none⟩ (.string (t5 ++ (⟨#[120]⟩ : ByteArray)))).cell? ⟨b, o, none⟩ = W9.cell? ⟨b, o, none⟩ := fun b hb o => World.cell?_setCell_other _ _ _ _ (addr_ne (.inl (Ne.symm hb)))
    have hz10 : (W9.setCell ⟨B2, 1, none⟩ (.string (t5 ++ (⟨#[120]⟩ : ByteArray)))).heap.size = W9.heap.size := by simp
    have R10 := Lib.hid (R9.out.set (hset.mono (by omega)))
    have HC10 := Lib.hid (HC9.out.keep (hoth _ (by omega)))
    have HL10 := Lib.hid (HL9.out.keep (hoth _ (by omega)))
    have G010 := Lib.hid (G09.out.keep (hoth _ (by omega)))
    have G110 := Lib.hid (G19.out.keep (hoth _ (by omega)))
    have Hlx10 := Lib.hid (Hlx9.out.keep (T := fun b => W7.heap.size ≤ b ∧ b < w8.heap.size) fun b hb => ⟨hb, hoth b (by omega)⟩)
    have Hly10 := Lib.hid (Hly9.out.keep (T := fun b => W7.heap.size ≤ b ∧ b < w8.heap.size) fun b hb => ⟨hb, hoth b (by omega)⟩)
    have hsame : Calls Tryd.prog 22 #[.agg #[.int .i64 k, .string t, .int .i64 z, .float .f64 r, .bool f, .slice a n c], .agg #[.int .i64 kc, .string tc, .int .i64 zc, .float .f64 rc, .bool fc, .slice (some ⟨B2, 0, none⟩) nc cc]] (W9.setCell ⟨B2, 1, none⟩ (.string (t5 ++ (⟨#[120]⟩ : ByteArray)))) fun e w' => e = .returned (.bool false) ∧ Below (W9.setCell ⟨B2, 1, none⟩ (.string (t5 ++ (⟨#[120]⟩ : ByteArray)))).heap.size (W9.setCell ⟨B2, 1, none⟩ (.string (t5 ++ (⟨#[120]⟩ : ByteArray)))) w' :=
      hT2 ▸ vsame_calls (.mk k t z r f a c n K) (.mk kc tc zc rc fc (some ⟨B2, 0, none⟩) cc nc fun i => if i = 0 then (KC 0).text (t5 ++ (⟨#[120]⟩ : ByteArray)) else KC i) (fun b => b < w4.heap.size) _ (fun b hb => by omega) (R10.out.2.2.2.2.1.wide fun b hb => by have := R4.out.2.1; omega) hT1 (HN.out HSX.out).1
    have Hsame := Lib.hid hsame
    have HZ10 := Lib.hid hz10
    have q1 := R10.out.2.2.1.lits
    have q2 := HC10.out.lits
    have Q1 := Lib.hid q1
    have Q2 := Lib.hid q2
    clear hset hoth hz10 hT1 hT2 hturn hsame hK0 q1 q2
    go_upto_region 11 with (fail)
    generalize hW10 : (W9.setCell _ _) = W10 at *
    clear hW10
    obtain ⟨m0, m1, m2, m3, m4, m5⟩ := Q1.out
    obtain ⟨o0, o1, o2, o3, o4, o5⟩ := Q2.out
    clear x0 x1 x2 x3 x4 x5 d1 d2
    go_wp2_with fail
    refine Hsame.out.mono ?_; rintro en w11 ⟨rfl, hb11⟩
    have hz11 := HZ10.out
    have R11 := Lib.hid (R10.out.on hb11)
    have HL11 := Lib.hid (HL10.out.below hb11 (by omega))
    have G011 := Lib.hid (G010.out.below hb11 (by omega))
    have G111 := Lib.hid (G110.out.below hb11 (by omega))
    have Hlx11 := Lib.hid (Hlx10.out.below hb11 fun b h => by omega)
    have Hly11 := Lib.hid (Hly10.out.below hb11 fun b h => by omega)
    have hz11b := hb11.size
    clear m0 m1 m2 m3 m4 m5 o0 o1 o2 o3 o4 o5 hb11
    go_wp2_with fail
    obtain ⟨F, F1, F2, F3, -⟩ := over w11
    have RF := fun u => R11.out.on (F1 u)
    have xx0 : ∀ u, (F u).cell? ⟨w.heap.size, 0, none⟩ = some (.int .i64 k) := fun u => ((RF u).2.2.1).lits.1
    have xx1 : ∀ u, (F u).cell? ⟨w.heap.size, 1, none⟩ = some (.string t) := fun u => ((RF u).2.2.1).lits.2.1
    have xx2 : ∀ u, (F u).cell? ⟨w.heap.size, 2, none⟩ = some (.int .i64 z) := fun u => ((RF u).2.2.1).lits.2.2.1
    have xx3 : ∀ u, (F u).cell? ⟨w.heap.size, 3, none⟩ = some (.float .f64 r) := fun u => ((RF u).2.2.1).lits.2.2.2.1
    have xx4 : ∀ u, (F u).cell? ⟨w.heap.size, 4, none⟩ = some (.bool f) := fun u => ((RF u).2.2.1).lits.2.2.2.2.1
    have xx5 : ∀ u, (F u).cell? ⟨w.heap.size, 5, none⟩ = some (.slice a n c) := fun u => ((RF u).2.2.1).lits.2.2.2.2.2
    have yy0 : ∀ u, (F u).cell? ⟨w.heap.size + 1, 0, none⟩ = some (.int .i64 k') := fun u => ((RF u).2.2.2.1).lits.1
    have yy1 : ∀ u, (F u).cell? ⟨w.heap.size + 1, 1, none⟩ = some (.string t') := fun u => ((RF u).2.2.2.1).lits.2.1
    have yy2 : ∀ u, (F u).cell? ⟨w.heap.size + 1, 2, none⟩ = some (.int .i64 z') := fun u => ((RF u).2.2.2.1).lits.2.2.1
    have yy3 : ∀ u, (F u).cell? ⟨w.heap.size + 1, 3, none⟩ = some (.float .f64 r') := fun u => ((RF u).2.2.2.1).lits.2.2.2.1
    have yy4 : ∀ u, (F u).cell? ⟨w.heap.size + 1, 4, none⟩ = some (.bool f') := fun u => ((RF u).2.2.2.1).lits.2.2.2.2.1
    have yy5 : ∀ u, (F u).cell? ⟨w.heap.size + 1, 5, none⟩ = some (.slice a' n' c') := fun u => ((RF u).2.2.2.1).lits.2.2.2.2.2
    have ll0 : ∀ u, (F u).cell? ⟨w8.heap.size, 0, none⟩ = some (.int .i64 5) := fun u => (HL11.out.below (F1 u) (by omega)).lits.1
    have ll1 : ∀ u, (F u).cell? ⟨w8.heap.size, 1, none⟩ = some (.string ⟨#[]⟩) := fun u => (HL11.out.below (F1 u) (by omega)).lits.2.1
    have ll2 : ∀ u, (F u).cell? ⟨w8.heap.size, 2, none⟩ = some (.int .i64 0) := fun u => (HL11.out.below (F1 u) (by omega)).lits.2.2.1
    have ll3 : ∀ u, (F u).cell? ⟨w8.heap.size, 3, none⟩ = some (.float .f64 0) := fun u => (HL11.out.below (F1 u) (by omega)).lits.2.2.2.1
    have ll4 : ∀ u, (F u).cell? ⟨w8.heap.size, 4, none⟩ = some (.bool false) := fun u => (HL11.out.below (F1 u) (by omega)).lits.2.2.2.2.1
    have ll5 : ∀ u, (F u).cell? ⟨w8.heap.size, 5, none⟩ = some (.slice (some ⟨B, 0, none⟩) 2 C) := fun u => (HL11.out.below (F1 u) (by omega)).lits.2.2.2.2.2
    have pp0 : ∀ u, (F u).cell? ⟨B, 0, none⟩ = some (.int .i64 k3) := fun u => (G011.out.below (F1 u) (by omega)).lits.1
    have pp1 : ∀ u, (F u).cell? ⟨B, 1, none⟩ = some (.string t3) := fun u => (G011.out.below (F1 u) (by omega)).lits.2.1
    have pp2 : ∀ u, (F u).cell? ⟨B, 2, none⟩ = some (.int .i64 z3) := fun u => (G011.out.below (F1 u) (by omega)).lits.2.2.1
    have pp3 : ∀ u, (F u).cell? ⟨B, 3, none⟩ = some (.float .f64 r3) := fun u => (G011.out.below (F1 u) (by omega)).lits.2.2.2.1
    have pp4 : ∀ u, (F u).cell? ⟨B, 4, none⟩ = some (.bool f3) := fun u => (G011.out.below (F1 u) (by omega)).lits.2.2.2.2.1
    have pp5 : ∀ u, (F u).cell? ⟨B, 5, none⟩ = some (.slice a3 n3 c3) := fun u => (G011.out.below (F1 u) (by omega)).lits.2.2.2.2.2
    have ss0 : ∀ u, (F u).cell? ⟨B, 6, none⟩ = some (.int .i64 k4) := fun u => (G111.out.below (F1 u) (by omega)).1
    have ss1 : ∀ u, (F u).cell? ⟨B, 7, none⟩ = some (.string t4) := fun u => (G111.out.below (F1 u) (by omega)).2.1
    have ss2 : ∀ u, (F u).cell? ⟨B, 8, none⟩ = some (.int .i64 z4) := fun u => (G111.out.below (F1 u) (by omega)).2.2.1
    have ss3 : ∀ u, (F u).cell? ⟨B, 9, none⟩ = some (.float .f64 r4) := fun u => (G111.out.below (F1 u) (by omega)).2.2.2.1
    have ss4 : ∀ u, (F u).cell? ⟨B, 10, none⟩ = some (.bool f4) := fun u => (G111.out.below (F1 u) (by omega)).2.2.2.2.1
    have ss5 : ∀ u, (F u).cell? ⟨B, 11, none⟩ = some (.slice a4 n4 c4) := fun u => (G111.out.below (F1 u) (by omega)).2.2.2.2.2
    have hS8 : ∀ u b, b < w8.heap.size → b < (F u).heap.size := fun u b hb => by have := (F1 u).size; omega
    have hwx : ∀ u, Lies (fun b => b < w8.heap.size) (F u) (.mk k t z r f a c n K) := fun u => (RF u).2.2.2.2.1.wide fun b hb => by have := R8.out.2.1; omega
    have hwy : ∀ u, Lies (fun b => b < w8.heap.size) (F u) (.mk k' t' z' r' f' a' c' n' K') := fun u => (RF u).2.2.2.2.2.wide fun b hb => by have := R8.out.2.1; omega
    have hvx : ∀ u, Lies (fun b => b < w8.heap.size) (F u) (.mk k3 t3 z3 r3 f3 a3 c3 n3 K3) := fun u => (Hlx11.out.below (F1 u) fun b h => by omega).wide fun _ h => h.2
    have hvy : ∀ u, Lies (fun b => b < w8.heap.size) (F u) (.mk k4 t4 z4 r4 f4 a4 c4 n4 K4) := fun u => (Hly11.out.below (F1 u) fun b h => by omega).wide fun _ h => h.2
    have H1 : Hid (∀ u, Calls Tryd.prog 23 #[.agg #[.int .i64 k3, .string t3, .int .i64 z3, .float .f64 r3, .bool f3, .slice a3 n3 c3], .agg #[.int .i64 k, .string t, .int .i64 z, .float .f64 r, .bool f, .slice a n c]] (F u) fun e w' => e = .returned (.bool true) ∧ Below (F u).heap.size (F u) w') := Lib.hid fun u => Htx.out.same.2 ▸ rsame_calls (.mk k3 t3 z3 r3 f3 a3 c3 n3 K3) (.mk k t z r f a c n K) _ (F u) (hS8 u) (hvx u) (hwx u)
    have H2 : Hid (∀ u, Calls Tryd.prog 23 #[.agg #[.int .i64 k4, .string t4, .int .i64 z4, .float .f64 r4, .bool f4, .slice a4 n4 c4], .agg #[.int .i64 k', .string t', .int .i64 z', .float .f64 r', .bool f', .slice a' n' c']] (F u) fun e w' => e = .returned (.bool true) ∧ Below (F u).heap.size (F u) w') := Lib.hid fun u => Hty.out.same.2 ▸ rsame_calls (.mk k4 t4 z4 r4 f4 a4 c4 n4 K4) (.mk k' t' z' r' f' a' c' n' K') _ (F u) (hS8 u) (hvy u) (hwy u)
    have H3 : Hid (∀ u, Calls Tryd.prog 24 #[.string s] (F u) fun e w' => e = .returned (.agg #[.int .i64 4, .string s, .int .i64 0, .float .f64 0, .bool false, .slice none 0 0]) ∧ Below (F u).heap.size (F u) w') := Lib.hid fun u => vtext_calls s (F u)
    have H4 : Hid (∀ u, Calls Tryd.prog 25 #[.int .i64 s.size] (F u) fun e w' => e = .returned (.agg #[.int .i64 3, .string ⟨#[]⟩, .int .i64 s.size, .float .f64 0, .bool false, .slice none 0 0]) ∧ Below (F u).heap.size (F u) w') := Lib.hid fun u => vint_calls s.size (F u)
    have HF1 := Lib.hid F1
    have HF3 := Lib.hid F3
    clear F1 F3 RF hS8 hwx hwy hvx hvy
    refine wp_region_class F (by kernel_rfl) (by kernel_rfl) F2 ?_
    try dsimp only [List.append]
    repeat (go_big_quiet_step (first | (go_at_call 23; with_reducible exact quiet_over HF3.out (H1.out _)) | (go_at_call 23; with_reducible exact quiet_over HF3.out (H2.out _)) | (go_at_call 24; with_reducible exact quiet_over HF3.out (H3.out _)) | (go_at_call 25; with_reducible exact quiet_over HF3.out (H4.out _))))
    refine wpQuiet_nil ?_
    intro _ hw'
    obtain ⟨u1, hw2⟩ := hw'
    subst hw2
    go_wp2_with fail
    go_ret
    exact ⟨rfl, (R11.out.on (HF1.out u1)).1⟩
  · obtain rfl : nc = 0 := by omega
    go_wp2_with fail
    clear x0 x1 x2 x3 x4 x5
    obtain ⟨F, F1, F2, F3, -⟩ := over W9
    have RF := fun u => R9.out.on (F1 u)
    have xx0 : ∀ u, (F u).cell? ⟨w.heap.size, 0, none⟩ = some (.int .i64 k) := fun u => ((RF u).2.2.1).lits.1
    have xx1 : ∀ u, (F u).cell? ⟨w.heap.size, 1, none⟩ = some (.string t) := fun u => ((RF u).2.2.1).lits.2.1
    have xx2 : ∀ u, (F u).cell? ⟨w.heap.size, 2, none⟩ = some (.int .i64 z) := fun u => ((RF u).2.2.1).lits.2.2.1
    have xx3 : ∀ u, (F u).cell? ⟨w.heap.size, 3, none⟩ = some (.float .f64 r) := fun u => ((RF u).2.2.1).lits.2.2.2.1
    have xx4 : ∀ u, (F u).cell? ⟨w.heap.size, 4, none⟩ = some (.bool f) := fun u => ((RF u).2.2.1).lits.2.2.2.2.1
    have xx5 : ∀ u, (F u).cell? ⟨w.heap.size, 5, none⟩ = some (.slice a n c) := fun u => ((RF u).2.2.1).lits.2.2.2.2.2
    have yy0 : ∀ u, (F u).cell? ⟨w.heap.size + 1, 0, none⟩ = some (.int .i64 k') := fun u => ((RF u).2.2.2.1).lits.1
    have yy1 : ∀ u, (F u).cell? ⟨w.heap.size + 1, 1, none⟩ = some (.string t') := fun u => ((RF u).2.2.2.1).lits.2.1
    have yy2 : ∀ u, (F u).cell? ⟨w.heap.size + 1, 2, none⟩ = some (.int .i64 z') := fun u => ((RF u).2.2.2.1).lits.2.2.1
    have yy3 : ∀ u, (F u).cell? ⟨w.heap.size + 1, 3, none⟩ = some (.float .f64 r') := fun u => ((RF u).2.2.2.1).lits.2.2.2.1
    have yy4 : ∀ u, (F u).cell? ⟨w.heap.size + 1, 4, none⟩ = some (.bool f') := fun u => ((RF u).2.2.2.1).lits.2.2.2.2.1
    have yy5 : ∀ u, (F u).cell? ⟨w.heap.size + 1, 5, none⟩ = some (.slice a' n' c') := fun u => ((RF u).2.2.2.1).lits.2.2.2.2.2
    have ll0 : ∀ u, (F u).cell? ⟨w8.heap.size, 0, none⟩ = some (.int .i64 5) := fun u => (HL9.out.below (F1 u) (by omega)).lits.1
    have ll1 : ∀ u, (F u).cell? ⟨w8.heap.size, 1, none⟩ = some (.string ⟨#[]⟩) := fun u => (HL9.out.below (F1 u) (by omega)).lits.2.1
    have ll2 : ∀ u, (F u).cell? ⟨w8.heap.size, 2, none⟩ = some (.int .i64 0) := fun u => (HL9.out.below (F1 u) (by omega)).lits.2.2.1
    have ll3 : ∀ u, (F u).cell? ⟨w8.heap.size, 3, none⟩ = some (.float .f64 0) := fun u => (HL9.out.below (F1 u) (by omega)).lits.2.2.2.1
    have ll4 : ∀ u, (F u).cell? ⟨w8.heap.size, 4, none⟩ = some (.bool false) := fun u => (HL9.out.below (F1 u) (by omega)).lits.2.2.2.2.1
    have ll5 : ∀ u, (F u).cell? ⟨w8.heap.size, 5, none⟩ = some (.slice (some ⟨B, 0, none⟩) 2 C) := fun u => (HL9.out.below (F1 u) (by omega)).lits.2.2.2.2.2
    have pp0 : ∀ u, (F u).cell? ⟨B, 0, none⟩ = some (.int .i64 k3) := fun u => (G09.out.below (F1 u) (by omega)).lits.1
    have pp1 : ∀ u, (F u).cell? ⟨B, 1, none⟩ = some (.string t3) := fun u => (G09.out.below (F1 u) (by omega)).lits.2.1
    have pp2 : ∀ u, (F u).cell? ⟨B, 2, none⟩ = some (.int .i64 z3) := fun u => (G09.out.below (F1 u) (by omega)).lits.2.2.1
    have pp3 : ∀ u, (F u).cell? ⟨B, 3, none⟩ = some (.float .f64 r3) := fun u => (G09.out.below (F1 u) (by omega)).lits.2.2.2.1
    have pp4 : ∀ u, (F u).cell? ⟨B, 4, none⟩ = some (.bool f3) := fun u => (G09.out.below (F1 u) (by omega)).lits.2.2.2.2.1
    have pp5 : ∀ u, (F u).cell? ⟨B, 5, none⟩ = some (.slice a3 n3 c3) := fun u => (G09.out.below (F1 u) (by omega)).lits.2.2.2.2.2
    have ss0 : ∀ u, (F u).cell? ⟨B, 6, none⟩ = some (.int .i64 k4) := fun u => (G19.out.below (F1 u) (by omega)).1
    have ss1 : ∀ u, (F u).cell? ⟨B, 7, none⟩ = some (.string t4) := fun u => (G19.out.below (F1 u) (by omega)).2.1
    have ss2 : ∀ u, (F u).cell? ⟨B, 8, none⟩ = some (.int .i64 z4) := fun u => (G19.out.below (F1 u) (by omega)).2.2.1
    have ss3 : ∀ u, (F u).cell? ⟨B, 9, none⟩ = some (.float .f64 r4) := fun u => (G19.out.below (F1 u) (by omega)).2.2.2.1
    have ss4 : ∀ u, (F u).cell? ⟨B, 10, none⟩ = some (.bool f4) := fun u => (G19.out.below (F1 u) (by omega)).2.2.2.2.1
    have ss5 : ∀ u, (F u).cell? ⟨B, 11, none⟩ = some (.slice a4 n4 c4) := fun u => (G19.out.below (F1 u) (by omega)).2.2.2.2.2
    have hS8 : ∀ u b, b < w8.heap.size → b < (F u).heap.size := fun u b hb => by have := (F1 u).size; omega
    have hwx : ∀ u, Lies (fun b => b < w8.heap.size) (F u) (.mk k t z r f a c n K) := fun u => (RF u).2.2.2.2.1.wide fun b hb => by have := R8.out.2.1; omega
    have hwy : ∀ u, Lies (fun b => b < w8.heap.size) (F u) (.mk k' t' z' r' f' a' c' n' K') := fun u => (RF u).2.2.2.2.2.wide fun b hb => by have := R8.out.2.1; omega
    have hvx : ∀ u, Lies (fun b => b < w8.heap.size) (F u) (.mk k3 t3 z3 r3 f3 a3 c3 n3 K3) := fun u => (Hlx9.out.below (F1 u) fun b h => by omega).wide fun _ h => h.2
    have hvy : ∀ u, Lies (fun b => b < w8.heap.size) (F u) (.mk k4 t4 z4 r4 f4 a4 c4 n4 K4) := fun u => (Hly9.out.below (F1 u) fun b h => by omega).wide fun _ h => h.2
    have H1 : Hid (∀ u, Calls Tryd.prog 23 #[.agg #[.int .i64 k3, .string t3, .int .i64 z3, .float .f64 r3, .bool f3, .slice a3 n3 c3], .agg #[.int .i64 k, .string t, .int .i64 z, .float .f64 r, .bool f, .slice a n c]] (F u) fun e w' => e = .returned (.bool true) ∧ Below (F u).heap.size (F u) w') := Lib.hid fun u => Htx.out.same.2 ▸ rsame_calls (.mk k3 t3 z3 r3 f3 a3 c3 n3 K3) (.mk k t z r f a c n K) _ (F u) (hS8 u) (hvx u) (hwx u)
    have H2 : Hid (∀ u, Calls Tryd.prog 23 #[.agg #[.int .i64 k4, .string t4, .int .i64 z4, .float .f64 r4, .bool f4, .slice a4 n4 c4], .agg #[.int .i64 k', .string t', .int .i64 z', .float .f64 r', .bool f', .slice a' n' c']] (F u) fun e w' => e = .returned (.bool true) ∧ Below (F u).heap.size (F u) w') := Lib.hid fun u => Hty.out.same.2 ▸ rsame_calls (.mk k4 t4 z4 r4 f4 a4 c4 n4 K4) (.mk k' t' z' r' f' a' c' n' K') _ (F u) (hS8 u) (hvy u) (hwy u)
    have H3 : Hid (∀ u, Calls Tryd.prog 24 #[.string s] (F u) fun e w' => e = .returned (.agg #[.int .i64 4, .string s, .int .i64 0, .float .f64 0, .bool false, .slice none 0 0]) ∧ Below (F u).heap.size (F u) w') := Lib.hid fun u => vtext_calls s (F u)
    have H4 : Hid (∀ u, Calls Tryd.prog 25 #[.int .i64 s.size] (F u) fun e w' => e = .returned (.agg #[.int .i64 3, .string ⟨#[]⟩, .int .i64 s.size, .float .f64 0, .bool false, .slice none 0 0]) ∧ Below (F u).heap.size (F u) w') := Lib.hid fun u => vint_calls s.size (F u)
    have HF1 := Lib.hid F1
    have HF3 := Lib.hid F3
    clear F1 F3 RF hS8 hwx hwy hvx hvy
    refine wp_region_class F (by kernel_rfl) (by kernel_rfl) F2 ?_
    try dsimp only [List.append]
    repeat (go_big_quiet_step (first | (go_at_call 23; with_reducible exact quiet_over HF3.out (H1.out _)) | (go_at_call 23; with_reducible exact quiet_over HF3.out (H2.out _)) | (go_at_call 24; with_reducible exact quiet_over HF3.out (H3.out _)) | (go_at_call 25; with_reducible exact quiet_over HF3.out (H4.out _))))
    refine wpQuiet_nil ?_
    intro _ hw'
    obtain ⟨u1, hw2⟩ := hw'
    subst hw2
    go_wp2_with fail
    go_ret
    exact ⟨rfl, (R9.out.on (HF1.out u1)).1⟩
end Go.Proofs.YthngmmdfidhhpaaDoor
