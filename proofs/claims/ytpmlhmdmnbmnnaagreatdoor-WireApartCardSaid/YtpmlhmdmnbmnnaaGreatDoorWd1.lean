/- The walk of the law WireApart: true, at any two values. Conditions: the tables ('WCtx'). (Written by tools/gen_wd1.py.) -/
import Derived.Test.YtpmlhmdmnbmnnaaGreatDoorWcM2
import Derived.Test.YtpmlhmdmnbmnnaaGreatDoorVqM
import Derived.Deep.RegionLaw
namespace Go.Proofs.YtpmlhmdmnbmnnaaGreatDoor
open Go.ChangeShapes Go.WideShapes Go.ChangeAt Go.RowKit

/-- One's bytes begin with the other's just where they are the same. -/
theorem begins_iff {x y : Val} (hx : okV x) (hy : okV y) : decide (encV false x = (encV false y).take (encV false x).length) = same x y := by
  cases hs : same x y with
  | true =>
    have := enc_same false x y hs
    rw [decide_eq_true]
    rw [← this, List.take_length]
  | false =>
    rw [decide_eq_false]
    intro h
    have h2 := List.take_append_drop (encV false x).length (encV false y)
    rw [← h] at h2
    have := (enc_split x y hx hy ((encV false y).drop (encV false x).length) [] (by rw [List.append_nil]; exact h2)).1
    rw [hs] at this
    cases this
theorem enc_ne {x : Val} (hx : okV x) : encV false x ≠ [] := by
  cases x with
  | no => exact hx.elim
  | mk k t z r f a c n K =>
    obtain ⟨-, -, -, p4, -⟩ := head_parts hx.1
    obtain ⟨l, h⟩ := enc_head (z := z) (t := t) (r := r) (f := f) (a := a) (c := c) (n := n) (K := K) (text_kind p4)
    rw [h]
    exact List.cons_ne_nil _ _
theorem slice_eq {ex ey : List UInt8} {sm : Bool} (h : decide (ex = ey.take ex.length) = sm) : (((⟨ey.toArray⟩ : ByteArray).extract 0 ex.length).toList == ex) = sm := by
  rw [ByteArray.extract_mk, ByteArray.toList_mk, ← h, List.drop_zero, Nat.sub_zero, Bool.eq_iff_iff, beq_iff_eq, decide_eq_true_eq]
  exact eq_comm
theorem longer_not {ex ey : List UInt8} {sm : Bool} (h : decide (ex = ey.take ex.length) = sm) (hl : ey.length < ex.length) : sm = false := by
  rw [← h, decide_eq_false_iff_not]
  intro e
  have := congrArg List.length e
  rw [List.length_take] at this
  omega
set_option maxHeartbeats 8000000 in
set_option maxRecDepth 100000 in
theorem wireApart_mk (k : Int) (t : ByteArray) (z : Int) (r : Nat) (f : Bool) (a : Option Addr) (c n : Nat) (K : Nat → Val) (k2 : Int) (t2 : ByteArray) (z2 : Int) (r2 : Nat) (f2 : Bool) (a2 : Option Addr) (c2 n2 : Nat) (K2 : Nat → Val) (W : World) (hc : WCtx W)
    (hx : Lies (fun b => b < W.heap.size) W (Val.mk k t z r f a c n K)) (hy : Lies (fun b => b < W.heap.size) W (Val.mk k2 t2 z2 r2 f2 a2 c2 n2 K2)) :
    Calls Tryz.prog 7 #[.agg #[.int .i64 k, .string t, .int .i64 z, .float .f64 r, .bool f, .slice a n c], .agg #[.int .i64 k2, .string t2, .int .i64 z2, .float .f64 r2, .bool f2, .slice a2 n2 c2]] W fun e w' => e = .returned (.bool true) ∧ Below W.heap.size W w' := by
  obtain ⟨q1, q2, q3⟩ := box_facts W k t z r f a c n K
  obtain ⟨p1, p2, p3⟩ := box_facts (W.alloc (.cells #[.int .i64 k, .string t, .int .i64 z, .float .f64 r, .bool f, .slice a n c] 36)) k2 t2 z2 r2 f2 a2 c2 n2 K2
  have HC := Lib.hid hc
  have hS : ∀ w' : World, Below W.heap.size W w' → ∀ b, b < W.heap.size → b < w'.heap.size := fun w' h b hb => Nat.lt_of_lt_of_le hb h.size
  have HW2 := Lib.hid (bstep q1 p1)
  have HAT : Hid (∀ w', Below ((W.alloc (.cells #[.int .i64 k, .string t, .int .i64 z, .float .f64 r, .bool f, .slice a n c] 36)).alloc (.cells #[.int .i64 k2, .string t2, .int .i64 z2, .float .f64 r2, .bool f2, .slice a2 n2 c2] 36)).heap.size ((W.alloc (.cells #[.int .i64 k, .string t, .int .i64 z, .float .f64 r, .bool f, .slice a n c] 36)).alloc (.cells #[.int .i64 k2, .string t2, .int .i64 z2, .float .f64 r2, .bool f2, .slice a2 n2 c2] 36)) w' → At w' W.heap.size 0 (Val.mk k t z r f a c n K) ∧ At w' (W.alloc (.cells #[.int .i64 k, .string t, .int .i64 z, .float .f64 r, .bool f, .slice a n c] 36)).heap.size 0 (Val.mk k2 t2 z2 r2 f2 a2 c2 n2 K2)) := Lib.hid fun w' h => ⟨(q3.below p1 (by omega)).below h (by omega), p3.below h (by omega)⟩
  have HA : Hid (∀ w', Below W.heap.size W w' → Calls _ _ #[] w' _) := Lib.hid fun w' (h : Below W.heap.size W w') => walive_calls w' (hc.below h)
  have S1 : Hid (∀ w', Below W.heap.size W w' → Calls _ _ #[.agg #[.int .i64 k, .string t, .int .i64 z, .float .f64 r, .bool f, .slice a n c]] w' _) := Lib.hid fun w' (h : Below W.heap.size W w') => small_calls (Val.mk k t z r f a c n K) (fun b => b < W.heap.size) w' (hS _ h) (hx.below h (fun _ h => h))
  have S2 : Hid (∀ w', Below W.heap.size W w' → Calls _ _ #[.agg #[.int .i64 k2, .string t2, .int .i64 z2, .float .f64 r2, .bool f2, .slice a2 n2 c2]] w' _) := Lib.hid fun w' (h : Below W.heap.size W w') => small_calls (Val.mk k2 t2 z2 r2 f2 a2 c2 n2 K2) (fun b => b < W.heap.size) w' (hS _ h) (hy.below h (fun _ h => h))
  have R1 : Hid (small (Val.mk k t z r f a c n K) = true → ∀ w', Below W.heap.size W w' → Calls _ _ #[.agg #[.int .i64 k, .string t, .int .i64 z, .float .f64 r, .bool f, .slice a n c]] w' _) := Lib.hid fun hs w' (h : Below W.heap.size W w') => right_calls (Val.mk k t z r f a c n K) (fun b => b < W.heap.size) w' (hS _ h) (hx.below h (fun _ h => h)) (by have := small_facts hs; omega) (by have := small_facts hs; omega)
  have R2 : Hid (small (Val.mk k2 t2 z2 r2 f2 a2 c2 n2 K2) = true → ∀ w', Below W.heap.size W w' → Calls _ _ #[.agg #[.int .i64 k2, .string t2, .int .i64 z2, .float .f64 r2, .bool f2, .slice a2 n2 c2]] w' _) := Lib.hid fun hs w' (h : Below W.heap.size W w') => right_calls (Val.mk k2 t2 z2 r2 f2 a2 c2 n2 K2) (fun b => b < W.heap.size) w' (hS _ h) (hy.below h (fun _ h => h)) (by have := small_facts hs; omega) (by have := small_facts hs; omega)
  have B1 : Hid (small (Val.mk k t z r f a c n K) = true → okV (Val.mk k t z r f a c n K) → ∀ w', Below W.heap.size W w' → Calls _ _ #[.agg #[.int .i64 k, .string t, .int .i64 z, .float .f64 r, .bool f, .slice a n c], .int .i64 3] w' _) := Lib.hid fun hs ho w' (h : Below W.heap.size W w') => wbytes_new (Val.mk k t z r f a c n K) (fun b => b < W.heap.size) w' (HC.out.below h) (hS _ h) (hx.below h (fun _ h => h)) ho (by have := small_facts hs; omega) (by have := small_facts hs; have := enc_len false (Val.mk k t z r f a c n K) ho; omega)
  have B2 : Hid (small (Val.mk k2 t2 z2 r2 f2 a2 c2 n2 K2) = true → okV (Val.mk k2 t2 z2 r2 f2 a2 c2 n2 K2) → ∀ w', Below W.heap.size W w' → Calls _ _ #[.agg #[.int .i64 k2, .string t2, .int .i64 z2, .float .f64 r2, .bool f2, .slice a2 n2 c2], .int .i64 3] w' _) := Lib.hid fun hs ho w' (h : Below W.heap.size W w') => wbytes_new (Val.mk k2 t2 z2 r2 f2 a2 c2 n2 K2) (fun b => b < W.heap.size) w' (HC.out.below h) (hS _ h) (hy.below h (fun _ h => h)) ho (by have := small_facts hs; omega) (by have := small_facts hs; have := enc_len false (Val.mk k2 t2 z2 r2 f2 a2 c2 n2 K2) ho; omega)
  have M1 : Hid (∀ w', Below W.heap.size W w' → Calls _ _ #[.agg #[.int .i64 k, .string t, .int .i64 z, .float .f64 r, .bool f, .slice a n c], .agg #[.int .i64 k2, .string t2, .int .i64 z2, .float .f64 r2, .bool f2, .slice a2 n2 c2]] w' _) := Lib.hid fun w' (h : Below W.heap.size W w') => rsame_calls (Val.mk k t z r f a c n K) (Val.mk k2 t2 z2 r2 f2 a2 c2 n2 K2) (fun b => b < W.heap.size) w' (hS _ h) (hx.below h (fun _ h => h)) (hy.below h (fun _ h => h))
  have O1 := Lib.hid (fun h => okV_of_check hx h)
  have O2 := Lib.hid (fun h => okV_of_check hy h)
  have Lx := Lib.hid (fun (hs : small (Val.mk k t z r f a c n K) = true) ho => (show (encV false (Val.mk k t z r f a c n K)).length ≤ 4200 * 3000 by have := small_facts hs; have := enc_len false (Val.mk k t z r f a c n K) ho; omega))
  have Ly := Lib.hid (fun (hs : small (Val.mk k2 t2 z2 r2 f2 a2 c2 n2 K2) = true) ho => (show (encV false (Val.mk k2 t2 z2 r2 f2 a2 c2 n2 K2)).length ≤ 4200 * 3000 by have := small_facts hs; have := enc_len false (Val.mk k2 t2 z2 r2 f2 a2 c2 n2 K2) ho; omega))
  have HI := Lib.hid (fun h1 h2 => @begins_iff (Val.mk k t z r f a c n K) (Val.mk k2 t2 z2 r2 f2 a2 c2 n2 K2) h1 h2)
  have N1 := Lib.hid (@enc_ne (Val.mk k t z r f a c n K))
  have N2 := Lib.hid (@enc_ne (Val.mk k2 t2 z2 r2 f2 a2 c2 n2 K2))
  clear hc hx hy hS q1 q3 p1 p3
  generalize okV (Val.mk k t z r f a c n K) = ox at *
  generalize okV (Val.mk k2 t2 z2 r2 f2 a2 c2 n2 K2) = oy at *
  generalize encV false (Val.mk k t z r f a c n K) = ex at *
  generalize encV false (Val.mk k2 t2 z2 r2 f2 a2 c2 n2 K2) = ey at *
  generalize same (Val.mk k t z r f a c n K) (Val.mk k2 t2 z2 r2 f2 a2 c2 n2 K2) = sm at *
  generalize (checkN (Val.mk k t z r f a c n K) == 0) = cx at *
  generalize (checkN (Val.mk k2 t2 z2 r2 f2 a2 c2 n2 K2) == 0) = cy at *
  generalize small (Val.mk k t z r f a c n K) = sx at *
  generalize small (Val.mk k2 t2 z2 r2 f2 a2 c2 n2 K2) = sy at *
  go_enter Tryz.func7, Tryz.ntmps7
  go_wp2_with fail
  generalize hW2 : (W.alloc (.cells #[.int .i64 k, .string t, .int .i64 z, .float .f64 r, .bool f, .slice a n c] 36)).alloc (.cells #[.int .i64 k2, .string t2, .int .i64 z2, .float .f64 r2, .bool f2, .slice a2 n2 c2] 36) = W2 at *
  have hb0 : (W.alloc (.cells #[.int .i64 k, .string t, .int .i64 z, .float .f64 r, .bool f, .slice a n c] 36)).heap.size = W.heap.size + 1 := q2
  rw [hb0] at HAT
  clear hW2 q2 p2 hb0
  refine (HA.out _ HW2.out).mono ?_; rintro en w1 ⟨rfl, hb1⟩
  have Hb1 := Lib.hid hb1
  have Hc1 := Lib.hid (bstep HW2.out hb1)
  clear hb1
  obtain ⟨x0, x1, x2, x3, x4, x5⟩ := (HAT.out _ Hb1.out).1.lits
  obtain ⟨y0, y1, y2, y3, y4, y5⟩ := (HAT.out _ Hb1.out).2.lits
  go_wp2_with fail
  refine (S1.out _ Hc1.out).mono ?_; rintro en w2 ⟨rfl, hb2⟩
  have Hb2 := Lib.hid (bstep Hb1.out hb2)
  have Hc2 := Lib.hid (bstep HW2.out Hb2.out)
  clear hb2 x0 x1 x2 x3 x4 x5 y0 y1 y2 y3 y4 y5
  cases sx with
  | false =>
    go_wp2_with fail
    go_ret
    exact ⟨rfl, Hc2.out⟩
  | true =>
  obtain ⟨x0, x1, x2, x3, x4, x5⟩ := (HAT.out _ Hb2.out).1.lits
  obtain ⟨y0, y1, y2, y3, y4, y5⟩ := (HAT.out _ Hb2.out).2.lits
  go_wp2_with fail
  refine (S2.out _ Hc2.out).mono ?_; rintro en w3 ⟨rfl, hb3⟩
  have Hb3 := Lib.hid (bstep Hb2.out hb3)
  have Hc3 := Lib.hid (bstep HW2.out Hb3.out)
  clear hb3 x0 x1 x2 x3 x4 x5 y0 y1 y2 y3 y4 y5
  cases sy with
  | false =>
    go_wp2_with fail
    go_ret
    exact ⟨rfl, Hc3.out⟩
  | true =>
  obtain ⟨x0, x1, x2, x3, x4, x5⟩ := (HAT.out _ Hb3.out).1.lits
  obtain ⟨y0, y1, y2, y3, y4, y5⟩ := (HAT.out _ Hb3.out).2.lits
  go_wp2_with fail
  refine (R1.out (by simp) _ Hc3.out).mono ?_; rintro en w4 ⟨rfl, hb4⟩
  have Hb4 := Lib.hid (bstep Hb3.out hb4)
  have Hc4 := Lib.hid (bstep HW2.out Hb4.out)
  clear hb4 x0 x1 x2 x3 x4 x5 y0 y1 y2 y3 y4 y5
  cases cx with
  | false =>
    go_wp2_with fail
    go_ret
    exact ⟨rfl, Hc4.out⟩
  | true =>
  obtain ⟨x0, x1, x2, x3, x4, x5⟩ := (HAT.out _ Hb4.out).1.lits
  obtain ⟨y0, y1, y2, y3, y4, y5⟩ := (HAT.out _ Hb4.out).2.lits
  go_wp2_with fail
  refine (R2.out (by simp) _ Hc4.out).mono ?_; rintro en w5 ⟨rfl, hb5⟩
  have Hb5 := Lib.hid (bstep Hb4.out hb5)
  have Hc5 := Lib.hid (bstep HW2.out Hb5.out)
  clear hb5 x0 x1 x2 x3 x4 x5 y0 y1 y2 y3 y4 y5
  cases cy with
  | false =>
    go_wp2_with fail
    go_ret
    exact ⟨rfl, Hc5.out⟩
  | true =>
  have P1 := O1.out (by simp)
  have P2 := O2.out (by simp)
  have C1 : Hid (∀ w', Below W.heap.size W w' → Calls _ _ #[.agg #[.int .i64 k, .string t, .int .i64 z, .float .f64 r, .bool f, .slice a n c], .int .i64 3] w' fun e w'' => ∃ v, e = .returned v ∧ (Below w'.heap.size w' w'' ∧ ∃ wb, Buf wb w'' v ex)) := Lib.hid (B1.out (by simp) P1)
  have C2 : Hid (∀ w', Below W.heap.size W w' → Calls _ _ #[.agg #[.int .i64 k2, .string t2, .int .i64 z2, .float .f64 r2, .bool f2, .slice a2 n2 c2], .int .i64 3] w' fun e w'' => ∃ v, e = .returned v ∧ (Below w'.heap.size w' w'' ∧ ∃ wb, Buf wb w'' v ey)) := Lib.hid (B2.out (by simp) P2)
  have E1 : Hid (∀ args w, (callFunc 23 args).run Tryz.prog w = .ok (.enter 23 args) w) := Lib.hid (enters_fn Tryz.func23 (by kernel_rfl) rfl)
  have lx := Lx.out (by simp) P1
  have ly := Ly.out (by simp) P2
  have hi := HI.out P1 P2
  have nE1 := Lib.hid (N1.out P1)
  have nE2 := Lib.hid (N2.out P2)
  have Hi := Lib.hid hi
  clear Lx Ly HI N1 N2 P1 P2 O1 O2 B1 B2 R1 R2 S1 S2 HA hi
  have HS : Hid (∀ w', Below W2.heap.size W2 w' → (fun w' => (w'.cell? ⟨W.heap.size, 0, none⟩ = some (.int .i64 k) ∧ w'.cell? ⟨W.heap.size, 1, none⟩ = some (.string t) ∧ w'.cell? ⟨W.heap.size, 2, none⟩ = some (.int .i64 z) ∧ w'.cell? ⟨W.heap.size, 3, none⟩ = some (.float .f64 r) ∧ w'.cell? ⟨W.heap.size, 4, none⟩ = some (.bool f) ∧ w'.cell? ⟨W.heap.size, 5, none⟩ = some (.slice a n c)) ∧ w'.cell? ⟨W.heap.size + 1, 0, none⟩ = some (.int .i64 k2) ∧ w'.cell? ⟨W.heap.size + 1, 1, none⟩ = some (.string t2) ∧ w'.cell? ⟨W.heap.size + 1, 2, none⟩ = some (.int .i64 z2) ∧ w'.cell? ⟨W.heap.size + 1, 3, none⟩ = some (.float .f64 r2) ∧ w'.cell? ⟨W.heap.size + 1, 4, none⟩ = some (.bool f2) ∧ w'.cell? ⟨W.heap.size + 1, 5, none⟩ = some (.slice a2 n2 c2)) w') := Lib.hid fun w' h => ⟨(HAT.out _ h).1.lits, (HAT.out _ h).2.lits⟩
  obtain ⟨x0, x1, x2, x3, x4, x5⟩ := (HAT.out _ Hb5.out).1.lits
  obtain ⟨y0, y1, y2, y3, y4, y5⟩ := (HAT.out _ Hb5.out).2.lits
  go_wp2_with fail
  clear x0 x1 x2 x3 x4 x5 y0 y1 y2 y3 y4 y5
  have Hd5 := Lib.hid (bstep Hb5.out ((Below.refl _ _).drew : Below w5.heap.size w5 w5.drew))
  refine wp_region_held_drew (S := (fun w' => (w'.cell? ⟨W.heap.size, 0, none⟩ = some (.int .i64 k) ∧ w'.cell? ⟨W.heap.size, 1, none⟩ = some (.string t) ∧ w'.cell? ⟨W.heap.size, 2, none⟩ = some (.int .i64 z) ∧ w'.cell? ⟨W.heap.size, 3, none⟩ = some (.float .f64 r) ∧ w'.cell? ⟨W.heap.size, 4, none⟩ = some (.bool f) ∧ w'.cell? ⟨W.heap.size, 5, none⟩ = some (.slice a n c)) ∧ w'.cell? ⟨W.heap.size + 1, 0, none⟩ = some (.int .i64 k2) ∧ w'.cell? ⟨W.heap.size + 1, 1, none⟩ = some (.string t2) ∧ w'.cell? ⟨W.heap.size + 1, 2, none⟩ = some (.int .i64 z2) ∧ w'.cell? ⟨W.heap.size + 1, 3, none⟩ = some (.float .f64 r2) ∧ w'.cell? ⟨W.heap.size + 1, 4, none⟩ = some (.bool f2) ∧ w'.cell? ⟨W.heap.size + 1, 5, none⟩ = some (.slice a2 n2 c2))) (by kernel_rfl) (HS.out _ Hd5.out) (fun hHeld => ?_)
  refine wpAnyH_take (i := 0) (v := ?v0) rfl (by kernel_rfl) (by kernel_rfl) (by kernel_rfl) (fun _ _ _ h => h) (Or.inl ⟨by rfl, ?hy0⟩) hHeld ?r0
  case hy0 => (intro w' hSw; (try dsimp only at hSw); go_split_ands; go_simp; try with_reducible rfl)
  case r0 =>
  try simp only [Act.put]
  refine wpAnyH_take (i := 3) (v := ?v3) rfl (by kernel_rfl) (by kernel_rfl) (by kernel_rfl) (fun _ _ _ h => h) (Or.inl ⟨by rfl, ?hy3⟩) hHeld ?r3
  case hy3 => (intro w' hSw; (try dsimp only at hSw); go_split_ands; go_simp; try with_reducible rfl)
  case r3 =>
  try simp only [Act.put]
  refine wpAnyH_ready (rs := [1]) (by kernel_rfl) (by simp) (AllReadyH.cons rfl (fun K hK => ?_) AllReadyH.nil)
  refine step_call rfl 23 _ _ rfl #[.agg #[.int .i64 k, .string t, .int .i64 z, .float .f64 r, .bool f, .slice a n c], .int .i64 3] ?hx1 E1.out (C1.out _ (bstep HW2.out Hd5.out)) ?r1
  case hx1 => (simp [Act.eval]; done)
  case r1 =>
  rintro v1 w6 ⟨hb6, wb1, hO1⟩
  have HO1 := Lib.hid hO1
  have Hb6 := Lib.hid (bstep Hd5.out hb6)
  have HS6 := Lib.hid (HS.out _ Hb6.out)
  clear hO1 hb6
  refine hK.out _ _ HS6.out (fun hHeld2 => ?_)
  clear hK K hHeld
  try simp only [Act.put]
  refine wpAnyH_ready (rs := [2, 4]) (by kernel_rfl) (by simp) (AllReadyH.cons rfl (fun K hK => ?_) (AllReadyH.cons rfl (fun K hK => ?_) AllReadyH.nil))
  case' refine_1 =>
    refine step_conv rfl 39 9 _ rfl v1 (.string ⟨ex.toArray⟩) ?hx2 (buf_conv HO1.out nE1.out) ?r2
    case hx2 => (simp [Act.eval]; done)
    case' r2 =>
    refine hK.out _ _ HS6.out (fun hHeld4 => ?_)
    clear hK K hHeld2
    try simp only [Act.put]
    refine wpAnyH_ready (rs := [4]) (by kernel_rfl) (by simp) (AllReadyH.cons rfl (fun K hK => ?_) AllReadyH.nil)
    refine step_call rfl 23 _ _ rfl #[.agg #[.int .i64 k2, .string t2, .int .i64 z2, .float .f64 r2, .bool f2, .slice a2 n2 c2], .int .i64 3] ?hx4_1 E1.out (C2.out _ (bstep HW2.out Hb6.out)) ?r4_1
    case hx4_1 => (simp [Act.eval]; done)
    case' r4_1 =>
    rintro v2 w7 ⟨hb7, wb2, hO2⟩
    have HO2 := Lib.hid hO2
    have HO7 := Lib.hid (HO1.out.below hb7)
    have Hb7 := Lib.hid (bstep Hb6.out hb7)
    have HS7 := Lib.hid (HS.out _ Hb7.out)
    clear hO2 hb7
    refine hK.out _ _ HS7.out (fun hHeld3 => ?_)
    clear hK K
    try simp only [Act.put]
    refine wpAnyH_ready (rs := [5, 6]) (by kernel_rfl) (by simp) (AllReadyH.cons rfl (fun K hK => ?ga_2) (AllReadyH.cons rfl (fun K hK => ?gb_2) AllReadyH.nil))
    case' ga_2 =>
      refine step_conv rfl 39 9 _ rfl v2 (.string ⟨ey.toArray⟩) ?hx_3 (buf_conv HO2.out nE2.out) ?r_3
      case hx_3 => (simp [Act.eval]; done)
      case' r_3 =>
      refine hK.out _ _ HS7.out (fun _ => ?_)
      clear hK K
      try simp only [Act.put]
      refine wpAnyH_ready (rs := [6]) (by kernel_rfl) (by simp) (AllReadyH.cons rfl (fun K hK => ?_) AllReadyH.nil)
      go_simp
      refine hK.out _ _ HS7.out (fun _ => ?_)
      clear hK K
      try simp only [Act.put]
      refine wpAnyH_ready (rs := [7]) (by kernel_rfl) (by simp) (AllReadyH.cons rfl (fun K hK => ?_) AllReadyH.nil)
      go_simp
      refine hK.out _ _ HS7.out (fun _ => ?_)
      clear hK K
      try simp only [Act.put]
      refine wpAnyH_done (by kernel_rfl) ?_ _
    case' gb_2 =>
      go_simp
      refine hK.out _ _ HS7.out (fun _ => ?_)
      clear hK K
      try simp only [Act.put]
      refine wpAnyH_ready (rs := [5]) (by kernel_rfl) (by simp) (AllReadyH.cons rfl (fun K hK => ?_) AllReadyH.nil)
      refine step_conv rfl 39 9 _ rfl v2 (.string ⟨ey.toArray⟩) ?hx_4 (buf_conv HO2.out nE2.out) ?r_4
      case hx_4 => (simp [Act.eval]; done)
      case' r_4 =>
      refine hK.out _ _ HS7.out (fun _ => ?_)
      clear hK K
      try simp only [Act.put]
      refine wpAnyH_ready (rs := [7]) (by kernel_rfl) (by simp) (AllReadyH.cons rfl (fun K hK => ?_) AllReadyH.nil)
      go_simp
      refine hK.out _ _ HS7.out (fun _ => ?_)
      clear hK K
      try simp only [Act.put]
      refine wpAnyH_done (by kernel_rfl) ?_ _
  case' refine_2 =>
    refine step_call rfl 23 _ _ rfl #[.agg #[.int .i64 k2, .string t2, .int .i64 z2, .float .f64 r2, .bool f2, .slice a2 n2 c2], .int .i64 3] ?hx4_5 E1.out (C2.out _ (bstep HW2.out Hb6.out)) ?r4_5
    case hx4_5 => (simp [Act.eval]; done)
    case' r4_5 =>
    rintro v2 w7 ⟨hb7, wb2, hO2⟩
    have HO2 := Lib.hid hO2
    have HO7 := Lib.hid (HO1.out.below hb7)
    have Hb7 := Lib.hid (bstep Hb6.out hb7)
    have HS7 := Lib.hid (HS.out _ Hb7.out)
    clear hO2 hb7
    refine hK.out _ _ HS7.out (fun hHeld3 => ?_)
    clear hK K
    try simp only [Act.put]
    refine wpAnyH_ready (rs := [2, 5]) (by kernel_rfl) (by simp) (AllReadyH.cons rfl (fun K hK => ?ga_6) (AllReadyH.cons rfl (fun K hK => ?gb_6) AllReadyH.nil))
    case' ga_6 =>
      refine step_conv rfl 39 9 _ rfl v1 (.string ⟨ex.toArray⟩) ?hx_7 (buf_conv HO7.out nE1.out) ?r_7
      case hx_7 => (simp [Act.eval]; done)
      case' r_7 =>
      refine hK.out _ _ HS7.out (fun _ => ?_)
      clear hK K
      try simp only [Act.put]
      refine wpAnyH_ready (rs := [5, 6]) (by kernel_rfl) (by simp) (AllReadyH.cons rfl (fun K hK => ?ga_8) (AllReadyH.cons rfl (fun K hK => ?gb_8) AllReadyH.nil))
      case' ga_8 =>
        refine step_conv rfl 39 9 _ rfl v2 (.string ⟨ey.toArray⟩) ?hx_9 (buf_conv HO2.out nE2.out) ?r_9
        case hx_9 => (simp [Act.eval]; done)
        case' r_9 =>
        refine hK.out _ _ HS7.out (fun _ => ?_)
        clear hK K
        try simp only [Act.put]
        refine wpAnyH_ready (rs := [6]) (by kernel_rfl) (by simp) (AllReadyH.cons rfl (fun K hK => ?_) AllReadyH.nil)
        go_simp
        refine hK.out _ _ HS7.out (fun _ => ?_)
        clear hK K
        try simp only [Act.put]
        refine wpAnyH_ready (rs := [7]) (by kernel_rfl) (by simp) (AllReadyH.cons rfl (fun K hK => ?_) AllReadyH.nil)
        go_simp
        refine hK.out _ _ HS7.out (fun _ => ?_)
        clear hK K
        try simp only [Act.put]
        refine wpAnyH_done (by kernel_rfl) ?_ _
      case' gb_8 =>
        go_simp
        refine hK.out _ _ HS7.out (fun _ => ?_)
        clear hK K
        try simp only [Act.put]
        refine wpAnyH_ready (rs := [5]) (by kernel_rfl) (by simp) (AllReadyH.cons rfl (fun K hK => ?_) AllReadyH.nil)
        refine step_conv rfl 39 9 _ rfl v2 (.string ⟨ey.toArray⟩) ?hx_10 (buf_conv HO2.out nE2.out) ?r_10
        case hx_10 => (simp [Act.eval]; done)
        case' r_10 =>
        refine hK.out _ _ HS7.out (fun _ => ?_)
        clear hK K
        try simp only [Act.put]
        refine wpAnyH_ready (rs := [7]) (by kernel_rfl) (by simp) (AllReadyH.cons rfl (fun K hK => ?_) AllReadyH.nil)
        go_simp
        refine hK.out _ _ HS7.out (fun _ => ?_)
        clear hK K
        try simp only [Act.put]
        refine wpAnyH_done (by kernel_rfl) ?_ _
    case' gb_6 =>
      refine step_conv rfl 39 9 _ rfl v2 (.string ⟨ey.toArray⟩) ?hx_11 (buf_conv HO2.out nE2.out) ?r_11
      case hx_11 => (simp [Act.eval]; done)
      case' r_11 =>
      refine hK.out _ _ HS7.out (fun _ => ?_)
      clear hK K
      try simp only [Act.put]
      refine wpAnyH_ready (rs := [2]) (by kernel_rfl) (by simp) (AllReadyH.cons rfl (fun K hK => ?_) AllReadyH.nil)
      refine step_conv rfl 39 9 _ rfl v1 (.string ⟨ex.toArray⟩) ?hx_12 (buf_conv HO7.out nE1.out) ?r_12
      case hx_12 => (simp [Act.eval]; done)
      case' r_12 =>
      refine hK.out _ _ HS7.out (fun _ => ?_)
      clear hK K
      try simp only [Act.put]
      refine wpAnyH_ready (rs := [6]) (by kernel_rfl) (by simp) (AllReadyH.cons rfl (fun K hK => ?_) AllReadyH.nil)
      go_simp
      refine hK.out _ _ HS7.out (fun _ => ?_)
      clear hK K
      try simp only [Act.put]
      refine wpAnyH_ready (rs := [7]) (by kernel_rfl) (by simp) (AllReadyH.cons rfl (fun K hK => ?_) AllReadyH.nil)
      go_simp
      refine hK.out _ _ HS7.out (fun _ => ?_)
      clear hK K
      try simp only [Act.put]
      refine wpAnyH_done (by kernel_rfl) ?_ _
  all_goals
    clear HC HAT HS C1 C2 E1 lx ly HS6 HS7 HO1 HO2 HO7
    go_wp2_with fail
    all_goals
      refine (M1.out _ (bstep HW2.out Hb7.out)).mono ?_; rintro en w8 ⟨rfl, hb8⟩
      have Hb8 := Lib.hid (bstep (bstep HW2.out Hb7.out) hb8)
      clear hb8 M1
      go_wp2_with fail
      go_ret
      refine ⟨?_, Hb8.out⟩
      first
        | (rw [slice_eq Hi.out]; simp; done)
        | (have hsm := longer_not Hi.out (by omega); subst hsm; first | rfl | simp)
theorem wireApart (x y : Val) (W : World) (hc : WCtx W) (hx : Lies (fun b => b < W.heap.size) W x) (hy : Lies (fun b => b < W.heap.size) W y) :
    Calls Tryz.prog 7 #[x.agg, y.agg] W fun e w' => e = .returned (.bool true) ∧ Below W.heap.size W w' := by
  cases x with
  | no => exact hx.elim
  | mk k t z r f a c n K =>
    cases y with
    | no => exact hy.elim
    | mk k2 t2 z2 r2 f2 a2 c2 n2 K2 => exact wireApart_mk k t z r f a c n K k2 t2 z2 r2 f2 a2 c2 n2 K2 W hc hx hy
end Go.Proofs.YtpmlhmdmnbmnnaaGreatDoor
