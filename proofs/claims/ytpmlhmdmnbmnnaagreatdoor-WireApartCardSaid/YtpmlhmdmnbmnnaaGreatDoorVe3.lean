/- The document's Same of values, at two values that part at the root: not the same. No condition but bounds. (Written by a program: one theorem for each place at which they part first.) -/
import Derived.Test.YtpmlhmdmnbmnnaaGreatDoorVeM
import Derived.Test.YtpmlhmdmnbmnnaaGreatDoorVbM
namespace Go.Proofs.YtpmlhmdmnbmnnaaGreatDoor
open Go.ChangeShapes Go.WideShapes Go.ChangeAt Go.RowKit

theorem two_facts (w : World) (k k' : Int) (t t' : ByteArray) (z z' : Int) (r r' : Nat) (f f' : Bool) (a a' : Option Addr) (c c' n n' : Nat) (K K' : Nat → Val) :
    Below w.heap.size w ((w.alloc (.cells #[.int .i64 k, .string t, .int .i64 z, .float .f64 r, .bool f, .slice a n c] 36)).alloc (.cells #[.int .i64 k', .string t', .int .i64 z', .float .f64 r', .bool f', .slice a' n' c'] 36)) ∧
    ((w.alloc (.cells #[.int .i64 k, .string t, .int .i64 z, .float .f64 r, .bool f, .slice a n c] 36)).alloc (.cells #[.int .i64 k', .string t', .int .i64 z', .float .f64 r', .bool f', .slice a' n' c'] 36)).heap.size = w.heap.size + 2 ∧
    At ((w.alloc (.cells #[.int .i64 k, .string t, .int .i64 z, .float .f64 r, .bool f, .slice a n c] 36)).alloc (.cells #[.int .i64 k', .string t', .int .i64 z', .float .f64 r', .bool f', .slice a' n' c'] 36)) w.heap.size 0 (.mk k t z r f a c n K) ∧
    At ((w.alloc (.cells #[.int .i64 k, .string t, .int .i64 z, .float .f64 r, .bool f, .slice a n c] 36)).alloc (.cells #[.int .i64 k', .string t', .int .i64 z', .float .f64 r', .bool f', .slice a' n' c'] 36)) (w.heap.size + 1) 0 (.mk k' t' z' r' f' a' c' n' K') := by
  refine ⟨((Below.refl _ _).alloc (Nat.le_refl _) _).alloc (by simp) _, by simp, ⟨?_, ?_, ?_, ?_, ?_, ?_⟩, ⟨?_, ?_, ?_, ?_, ?_, ?_⟩⟩ <;> go_simp
set_option maxHeartbeats 4000000 in
set_option maxRecDepth 100000 in
theorem rSame_k (k k' : Int) (t t' : ByteArray) (z z' : Int) (r r' : Nat) (f f' : Bool) (a a' : Option Addr) (c c' n n' : Nat) (K K' : Nat → Val) (w : World) (hd : k ≠ k') (_h1 : r < 18446744073709551616) (_h2 : r' < 18446744073709551616) :
    Calls Tryz.prog 27 #[(Val.mk k t z r f a c n K).agg, (Val.mk k' t' z' r' f' a' c' n' K').agg] w fun e w' => e = .returned (.bool false) ∧ Below w.heap.size w w' := by
  obtain ⟨hb, hz, hx, hy⟩ := two_facts w k k' t t' z z' r r' f f' a a' c c' n n' K K'
  have B0 := Lib.hid hb
  have X := Lib.hid hx
  have Y := Lib.hid hy
  have Z1 : Hid (w.heap.size < ((w.alloc _).alloc _).heap.size) := Lib.hid (Nat.lt_of_lt_of_eq (by omega) hz.symm)
  have Z2 : Hid (w.heap.size + 1 < ((w.alloc _).alloc _).heap.size) := Lib.hid (Nat.lt_of_lt_of_eq (by omega) hz.symm)
  clear hb hx hy hz
  have q : (k != k') = true := by simpa using hd
  clear hd
  unfold Val.agg
  go_enter Tryz.func27, Tryz.ntmps27
  go_wp2_with fail
  generalize hW : ((w.alloc _).alloc _) = W at *
  obtain ⟨F, F1, F2, F3, -⟩ := over W
  have f0 : ∀ x, (F x).cell? ⟨w.heap.size, 0, none⟩ = some (.int .i64 k) := fun x => (X.out.below (F1 x) Z1.out).lits.1
  have f1 : ∀ x, (F x).cell? ⟨w.heap.size, 1, none⟩ = some (.string t) := fun x => (X.out.below (F1 x) Z1.out).lits.2.1
  have f2 : ∀ x, (F x).cell? ⟨w.heap.size, 2, none⟩ = some (.int .i64 z) := fun x => (X.out.below (F1 x) Z1.out).lits.2.2.1
  have f3 : ∀ x, (F x).cell? ⟨w.heap.size, 3, none⟩ = some (.float .f64 r) := fun x => (X.out.below (F1 x) Z1.out).lits.2.2.2.1
  have f4 : ∀ x, (F x).cell? ⟨w.heap.size, 4, none⟩ = some (.bool f) := fun x => (X.out.below (F1 x) Z1.out).lits.2.2.2.2.1
  have f5 : ∀ x, (F x).cell? ⟨w.heap.size, 5, none⟩ = some (.slice a n c) := fun x => (X.out.below (F1 x) Z1.out).lits.2.2.2.2.2
  have g0 : ∀ x, (F x).cell? ⟨w.heap.size + 1, 0, none⟩ = some (.int .i64 k') := fun x => (Y.out.below (F1 x) Z2.out).lits.1
  have g1 : ∀ x, (F x).cell? ⟨w.heap.size + 1, 1, none⟩ = some (.string t') := fun x => (Y.out.below (F1 x) Z2.out).lits.2.1
  have g2 : ∀ x, (F x).cell? ⟨w.heap.size + 1, 2, none⟩ = some (.int .i64 z') := fun x => (Y.out.below (F1 x) Z2.out).lits.2.2.1
  have g3 : ∀ x, (F x).cell? ⟨w.heap.size + 1, 3, none⟩ = some (.float .f64 r') := fun x => (Y.out.below (F1 x) Z2.out).lits.2.2.2.1
  have g4 : ∀ x, (F x).cell? ⟨w.heap.size + 1, 4, none⟩ = some (.bool f') := fun x => (Y.out.below (F1 x) Z2.out).lits.2.2.2.2.1
  have g5 : ∀ x, (F x).cell? ⟨w.heap.size + 1, 5, none⟩ = some (.slice a' n' c') := fun x => (Y.out.below (F1 x) Z2.out).lits.2.2.2.2.2
  have HF1 := Lib.hid F1
  clear F1 F3
  refine wp_region_class F (by kernel_rfl) (by kernel_rfl) F2 ?_
  try dsimp only [List.append]
  repeat (go_big_quiet_step (fail))
  refine wpQuiet_nil ?_
  intro _ hw'
  obtain ⟨x1, hw2⟩ := hw'
  subst hw2
  go_wp2_with fail
  go_ret
  exact ⟨rfl, bstep B0.out (HF1.out x1)⟩
set_option maxHeartbeats 4000000 in
set_option maxRecDepth 100000 in
theorem rSame_t (k : Int) (t t' : ByteArray) (z z' : Int) (r r' : Nat) (f f' : Bool) (a a' : Option Addr) (c c' n n' : Nat) (K K' : Nat → Val) (w : World) (hd : t ≠ t') (_h1 : r < 18446744073709551616) (_h2 : r' < 18446744073709551616) :
    Calls Tryz.prog 27 #[(Val.mk k t z r f a c n K).agg, (Val.mk k t' z' r' f' a' c' n' K').agg] w fun e w' => e = .returned (.bool false) ∧ Below w.heap.size w w' := by
  obtain ⟨hb, hz, hx, hy⟩ := two_facts w k k t t' z z' r r' f f' a a' c c' n n' K K'
  have B0 := Lib.hid hb
  have X := Lib.hid hx
  have Y := Lib.hid hy
  have Z1 : Hid (w.heap.size < ((w.alloc _).alloc _).heap.size) := Lib.hid (Nat.lt_of_lt_of_eq (by omega) hz.symm)
  have Z2 : Hid (w.heap.size + 1 < ((w.alloc _).alloc _).heap.size) := Lib.hid (Nat.lt_of_lt_of_eq (by omega) hz.symm)
  clear hb hx hy hz
  have q : (t.toList == t'.toList) = false := by simpa using fun e => hd (bytes_ext e)
  clear hd
  unfold Val.agg
  go_enter Tryz.func27, Tryz.ntmps27
  go_wp2_with fail
  generalize hW : ((w.alloc _).alloc _) = W at *
  obtain ⟨F, F1, F2, F3, -⟩ := over W
  have f0 : ∀ x, (F x).cell? ⟨w.heap.size, 0, none⟩ = some (.int .i64 k) := fun x => (X.out.below (F1 x) Z1.out).lits.1
  have f1 : ∀ x, (F x).cell? ⟨w.heap.size, 1, none⟩ = some (.string t) := fun x => (X.out.below (F1 x) Z1.out).lits.2.1
  have f2 : ∀ x, (F x).cell? ⟨w.heap.size, 2, none⟩ = some (.int .i64 z) := fun x => (X.out.below (F1 x) Z1.out).lits.2.2.1
  have f3 : ∀ x, (F x).cell? ⟨w.heap.size, 3, none⟩ = some (.float .f64 r) := fun x => (X.out.below (F1 x) Z1.out).lits.2.2.2.1
  have f4 : ∀ x, (F x).cell? ⟨w.heap.size, 4, none⟩ = some (.bool f) := fun x => (X.out.below (F1 x) Z1.out).lits.2.2.2.2.1
  have f5 : ∀ x, (F x).cell? ⟨w.heap.size, 5, none⟩ = some (.slice a n c) := fun x => (X.out.below (F1 x) Z1.out).lits.2.2.2.2.2
  have g0 : ∀ x, (F x).cell? ⟨w.heap.size + 1, 0, none⟩ = some (.int .i64 k) := fun x => (Y.out.below (F1 x) Z2.out).lits.1
  have g1 : ∀ x, (F x).cell? ⟨w.heap.size + 1, 1, none⟩ = some (.string t') := fun x => (Y.out.below (F1 x) Z2.out).lits.2.1
  have g2 : ∀ x, (F x).cell? ⟨w.heap.size + 1, 2, none⟩ = some (.int .i64 z') := fun x => (Y.out.below (F1 x) Z2.out).lits.2.2.1
  have g3 : ∀ x, (F x).cell? ⟨w.heap.size + 1, 3, none⟩ = some (.float .f64 r') := fun x => (Y.out.below (F1 x) Z2.out).lits.2.2.2.1
  have g4 : ∀ x, (F x).cell? ⟨w.heap.size + 1, 4, none⟩ = some (.bool f') := fun x => (Y.out.below (F1 x) Z2.out).lits.2.2.2.2.1
  have g5 : ∀ x, (F x).cell? ⟨w.heap.size + 1, 5, none⟩ = some (.slice a' n' c') := fun x => (Y.out.below (F1 x) Z2.out).lits.2.2.2.2.2
  have HF1 := Lib.hid F1
  clear F1 F3
  refine wp_region_class F (by kernel_rfl) (by kernel_rfl) F2 ?_
  try dsimp only [List.append]
  repeat (go_big_quiet_step (fail))
  refine wpQuiet_nil ?_
  intro _ hw'
  obtain ⟨x1, hw2⟩ := hw'
  subst hw2
  go_wp2_with fail
  go_ret
  exact ⟨rfl, bstep B0.out (HF1.out x1)⟩
set_option maxHeartbeats 4000000 in
set_option maxRecDepth 100000 in
theorem rSame_z (k : Int) (t : ByteArray) (z z' : Int) (r r' : Nat) (f f' : Bool) (a a' : Option Addr) (c c' n n' : Nat) (K K' : Nat → Val) (w : World) (hd : z ≠ z') (_h1 : r < 18446744073709551616) (_h2 : r' < 18446744073709551616) :
    Calls Tryz.prog 27 #[(Val.mk k t z r f a c n K).agg, (Val.mk k t z' r' f' a' c' n' K').agg] w fun e w' => e = .returned (.bool false) ∧ Below w.heap.size w w' := by
  obtain ⟨hb, hz, hx, hy⟩ := two_facts w k k t t z z' r r' f f' a a' c c' n n' K K'
  have B0 := Lib.hid hb
  have X := Lib.hid hx
  have Y := Lib.hid hy
  have Z1 : Hid (w.heap.size < ((w.alloc _).alloc _).heap.size) := Lib.hid (Nat.lt_of_lt_of_eq (by omega) hz.symm)
  have Z2 : Hid (w.heap.size + 1 < ((w.alloc _).alloc _).heap.size) := Lib.hid (Nat.lt_of_lt_of_eq (by omega) hz.symm)
  clear hb hx hy hz
  have q : (z != z') = true := by simpa using hd
  clear hd
  unfold Val.agg
  go_enter Tryz.func27, Tryz.ntmps27
  go_wp2_with fail
  generalize hW : ((w.alloc _).alloc _) = W at *
  obtain ⟨F, F1, F2, F3, -⟩ := over W
  have f0 : ∀ x, (F x).cell? ⟨w.heap.size, 0, none⟩ = some (.int .i64 k) := fun x => (X.out.below (F1 x) Z1.out).lits.1
  have f1 : ∀ x, (F x).cell? ⟨w.heap.size, 1, none⟩ = some (.string t) := fun x => (X.out.below (F1 x) Z1.out).lits.2.1
  have f2 : ∀ x, (F x).cell? ⟨w.heap.size, 2, none⟩ = some (.int .i64 z) := fun x => (X.out.below (F1 x) Z1.out).lits.2.2.1
  have f3 : ∀ x, (F x).cell? ⟨w.heap.size, 3, none⟩ = some (.float .f64 r) := fun x => (X.out.below (F1 x) Z1.out).lits.2.2.2.1
  have f4 : ∀ x, (F x).cell? ⟨w.heap.size, 4, none⟩ = some (.bool f) := fun x => (X.out.below (F1 x) Z1.out).lits.2.2.2.2.1
  have f5 : ∀ x, (F x).cell? ⟨w.heap.size, 5, none⟩ = some (.slice a n c) := fun x => (X.out.below (F1 x) Z1.out).lits.2.2.2.2.2
  have g0 : ∀ x, (F x).cell? ⟨w.heap.size + 1, 0, none⟩ = some (.int .i64 k) := fun x => (Y.out.below (F1 x) Z2.out).lits.1
  have g1 : ∀ x, (F x).cell? ⟨w.heap.size + 1, 1, none⟩ = some (.string t) := fun x => (Y.out.below (F1 x) Z2.out).lits.2.1
  have g2 : ∀ x, (F x).cell? ⟨w.heap.size + 1, 2, none⟩ = some (.int .i64 z') := fun x => (Y.out.below (F1 x) Z2.out).lits.2.2.1
  have g3 : ∀ x, (F x).cell? ⟨w.heap.size + 1, 3, none⟩ = some (.float .f64 r') := fun x => (Y.out.below (F1 x) Z2.out).lits.2.2.2.1
  have g4 : ∀ x, (F x).cell? ⟨w.heap.size + 1, 4, none⟩ = some (.bool f') := fun x => (Y.out.below (F1 x) Z2.out).lits.2.2.2.2.1
  have g5 : ∀ x, (F x).cell? ⟨w.heap.size + 1, 5, none⟩ = some (.slice a' n' c') := fun x => (Y.out.below (F1 x) Z2.out).lits.2.2.2.2.2
  have HF1 := Lib.hid F1
  clear F1 F3
  refine wp_region_class F (by kernel_rfl) (by kernel_rfl) F2 ?_
  try dsimp only [List.append]
  repeat (go_big_quiet_step (fail))
  refine wpQuiet_nil ?_
  intro _ hw'
  obtain ⟨x1, hw2⟩ := hw'
  subst hw2
  go_wp2_with fail
  go_ret
  exact ⟨rfl, bstep B0.out (HF1.out x1)⟩
set_option maxHeartbeats 4000000 in
set_option maxRecDepth 100000 in
theorem rSame_r (k : Int) (t : ByteArray) (z : Int) (r r' : Nat) (f f' : Bool) (a a' : Option Addr) (c c' n n' : Nat) (K K' : Nat → Val) (w : World) (hd : bitsN r ≠ bitsN r') (h1 : r < 18446744073709551616) (h2 : r' < 18446744073709551616) :
    Calls Tryz.prog 27 #[(Val.mk k t z r f a c n K).agg, (Val.mk k t z r' f' a' c' n' K').agg] w fun e w' => e = .returned (.bool false) ∧ Below w.heap.size w w' := by
  obtain ⟨hb, hz, hx, hy⟩ := two_facts w k k t t z z r r' f f' a a' c c' n n' K K'
  have B0 := Lib.hid hb
  have X := Lib.hid hx
  have Y := Lib.hid hy
  have Z1 : Hid (w.heap.size < ((w.alloc _).alloc _).heap.size) := Lib.hid (Nat.lt_of_lt_of_eq (by omega) hz.symm)
  have Z2 : Hid (w.heap.size + 1 < ((w.alloc _).alloc _).heap.size) := Lib.hid (Nat.lt_of_lt_of_eq (by omega) hz.symm)
  clear hb hx hy hz
  have q : ((bitsN r : Int) != (bitsN r' : Int)) = true := by simpa using fun e => hd (by omega)
  clear hd
  unfold Val.agg
  go_enter Tryz.func27, Tryz.ntmps27
  go_wp2_with fail
  generalize hW : ((w.alloc _).alloc _) = W at *
  obtain ⟨F, F1, F2, F3, -⟩ := over W
  have f0 : ∀ x, (F x).cell? ⟨w.heap.size, 0, none⟩ = some (.int .i64 k) := fun x => (X.out.below (F1 x) Z1.out).lits.1
  have f1 : ∀ x, (F x).cell? ⟨w.heap.size, 1, none⟩ = some (.string t) := fun x => (X.out.below (F1 x) Z1.out).lits.2.1
  have f2 : ∀ x, (F x).cell? ⟨w.heap.size, 2, none⟩ = some (.int .i64 z) := fun x => (X.out.below (F1 x) Z1.out).lits.2.2.1
  have f3 : ∀ x, (F x).cell? ⟨w.heap.size, 3, none⟩ = some (.float .f64 r) := fun x => (X.out.below (F1 x) Z1.out).lits.2.2.2.1
  have f4 : ∀ x, (F x).cell? ⟨w.heap.size, 4, none⟩ = some (.bool f) := fun x => (X.out.below (F1 x) Z1.out).lits.2.2.2.2.1
  have f5 : ∀ x, (F x).cell? ⟨w.heap.size, 5, none⟩ = some (.slice a n c) := fun x => (X.out.below (F1 x) Z1.out).lits.2.2.2.2.2
  have g0 : ∀ x, (F x).cell? ⟨w.heap.size + 1, 0, none⟩ = some (.int .i64 k) := fun x => (Y.out.below (F1 x) Z2.out).lits.1
  have g1 : ∀ x, (F x).cell? ⟨w.heap.size + 1, 1, none⟩ = some (.string t) := fun x => (Y.out.below (F1 x) Z2.out).lits.2.1
  have g2 : ∀ x, (F x).cell? ⟨w.heap.size + 1, 2, none⟩ = some (.int .i64 z) := fun x => (Y.out.below (F1 x) Z2.out).lits.2.2.1
  have g3 : ∀ x, (F x).cell? ⟨w.heap.size + 1, 3, none⟩ = some (.float .f64 r') := fun x => (Y.out.below (F1 x) Z2.out).lits.2.2.2.1
  have g4 : ∀ x, (F x).cell? ⟨w.heap.size + 1, 4, none⟩ = some (.bool f') := fun x => (Y.out.below (F1 x) Z2.out).lits.2.2.2.2.1
  have g5 : ∀ x, (F x).cell? ⟨w.heap.size + 1, 5, none⟩ = some (.slice a' n' c') := fun x => (Y.out.below (F1 x) Z2.out).lits.2.2.2.2.2
  have HB : Hid (∀ x, Calls _ _ _ (F x) _) := Lib.hid fun x => refBits_calls r h1 (F x)
  have HB' : Hid (∀ x, Calls _ _ _ (F x) _) := Lib.hid fun x => refBits_calls r' h2 (F x)
  have HF1 := Lib.hid F1
  clear F1 F3 h1 h2
  refine wp_region_class F (by kernel_rfl) (by kernel_rfl) F2 ?_
  try dsimp only [List.append]
  repeat (go_big_quiet_step (first | (go_at_call 53; exact quiet_same (HB.out _)) | (go_at_call 53; exact quiet_same (HB'.out _))))
  refine wpQuiet_nil ?_
  intro _ hw'
  obtain ⟨x1, hw2⟩ := hw'
  subst hw2
  go_wp2_with fail
  go_ret
  exact ⟨rfl, bstep B0.out (HF1.out x1)⟩
set_option maxHeartbeats 4000000 in
set_option maxRecDepth 100000 in
theorem rSame_f (k : Int) (t : ByteArray) (z : Int) (r r' : Nat) (f f' : Bool) (a a' : Option Addr) (c c' n n' : Nat) (K K' : Nat → Val) (w : World) (hd : f ≠ f') (hbits : bitsN r = bitsN r') (h1 : r < 18446744073709551616) (h2 : r' < 18446744073709551616) :
    Calls Tryz.prog 27 #[(Val.mk k t z r f a c n K).agg, (Val.mk k t z r' f' a' c' n' K').agg] w fun e w' => e = .returned (.bool false) ∧ Below w.heap.size w w' := by
  obtain ⟨hb, hz, hx, hy⟩ := two_facts w k k t t z z r r' f f' a a' c c' n n' K K'
  have B0 := Lib.hid hb
  have X := Lib.hid hx
  have Y := Lib.hid hy
  have Z1 : Hid (w.heap.size < ((w.alloc _).alloc _).heap.size) := Lib.hid (Nat.lt_of_lt_of_eq (by omega) hz.symm)
  have Z2 : Hid (w.heap.size + 1 < ((w.alloc _).alloc _).heap.size) := Lib.hid (Nat.lt_of_lt_of_eq (by omega) hz.symm)
  clear hb hx hy hz
  have HE := Lib.hid hbits
  clear hbits
  unfold Val.agg
  have HD := Lib.hid hd
  clear hd
  cases f <;> cases f'
  · exact absurd rfl HD.out
  · go_enter Tryz.func27, Tryz.ntmps27
    go_wp2_with fail
    generalize hW : ((w.alloc _).alloc _) = W at *
    obtain ⟨F, F1, F2, F3, -⟩ := over W
    have f0 : ∀ x, (F x).cell? ⟨w.heap.size, 0, none⟩ = some (.int .i64 k) := fun x => (X.out.below (F1 x) Z1.out).lits.1
    have f1 : ∀ x, (F x).cell? ⟨w.heap.size, 1, none⟩ = some (.string t) := fun x => (X.out.below (F1 x) Z1.out).lits.2.1
    have f2 : ∀ x, (F x).cell? ⟨w.heap.size, 2, none⟩ = some (.int .i64 z) := fun x => (X.out.below (F1 x) Z1.out).lits.2.2.1
    have f3 : ∀ x, (F x).cell? ⟨w.heap.size, 3, none⟩ = some (.float .f64 r) := fun x => (X.out.below (F1 x) Z1.out).lits.2.2.2.1
    have f4 : ∀ x, (F x).cell? ⟨w.heap.size, 4, none⟩ = some (.bool false) := fun x => (X.out.below (F1 x) Z1.out).lits.2.2.2.2.1
    have f5 : ∀ x, (F x).cell? ⟨w.heap.size, 5, none⟩ = some (.slice a n c) := fun x => (X.out.below (F1 x) Z1.out).lits.2.2.2.2.2
    have g0 : ∀ x, (F x).cell? ⟨w.heap.size + 1, 0, none⟩ = some (.int .i64 k) := fun x => (Y.out.below (F1 x) Z2.out).lits.1
    have g1 : ∀ x, (F x).cell? ⟨w.heap.size + 1, 1, none⟩ = some (.string t) := fun x => (Y.out.below (F1 x) Z2.out).lits.2.1
    have g2 : ∀ x, (F x).cell? ⟨w.heap.size + 1, 2, none⟩ = some (.int .i64 z) := fun x => (Y.out.below (F1 x) Z2.out).lits.2.2.1
    have g3 : ∀ x, (F x).cell? ⟨w.heap.size + 1, 3, none⟩ = some (.float .f64 r') := fun x => (Y.out.below (F1 x) Z2.out).lits.2.2.2.1
    have g4 : ∀ x, (F x).cell? ⟨w.heap.size + 1, 4, none⟩ = some (.bool true) := fun x => (Y.out.below (F1 x) Z2.out).lits.2.2.2.2.1
    have g5 : ∀ x, (F x).cell? ⟨w.heap.size + 1, 5, none⟩ = some (.slice a' n' c') := fun x => (Y.out.below (F1 x) Z2.out).lits.2.2.2.2.2
    have HB : Hid (∀ x, Calls _ _ _ (F x) _) := Lib.hid fun x => refBits_calls r h1 (F x)
    have HB' : Hid (∀ x, Calls _ _ _ (F x) _) := Lib.hid fun x => refBits_calls r' h2 (F x)
    rw [← HE.out] at HB'
    have HF1 := Lib.hid F1
    clear F1 F3 h1 h2
    refine wp_region_class F (by kernel_rfl) (by kernel_rfl) F2 ?_
    try dsimp only [List.append]
    repeat (go_big_quiet_step (first | (go_at_call 53; exact quiet_same (HB.out _)) | (go_at_call 53; exact quiet_same (HB'.out _))))
    refine wpQuiet_nil ?_
    intro _ hw'
    obtain ⟨x1, hw2⟩ := hw'
    subst hw2
    go_wp2_with fail
    go_ret
    exact ⟨rfl, bstep B0.out (HF1.out x1)⟩
  · go_enter Tryz.func27, Tryz.ntmps27
    go_wp2_with fail
    generalize hW : ((w.alloc _).alloc _) = W at *
    obtain ⟨F, F1, F2, F3, -⟩ := over W
    have f0 : ∀ x, (F x).cell? ⟨w.heap.size, 0, none⟩ = some (.int .i64 k) := fun x => (X.out.below (F1 x) Z1.out).lits.1
    have f1 : ∀ x, (F x).cell? ⟨w.heap.size, 1, none⟩ = some (.string t) := fun x => (X.out.below (F1 x) Z1.out).lits.2.1
    have f2 : ∀ x, (F x).cell? ⟨w.heap.size, 2, none⟩ = some (.int .i64 z) := fun x => (X.out.below (F1 x) Z1.out).lits.2.2.1
    have f3 : ∀ x, (F x).cell? ⟨w.heap.size, 3, none⟩ = some (.float .f64 r) := fun x => (X.out.below (F1 x) Z1.out).lits.2.2.2.1
    have f4 : ∀ x, (F x).cell? ⟨w.heap.size, 4, none⟩ = some (.bool true) := fun x => (X.out.below (F1 x) Z1.out).lits.2.2.2.2.1
    have f5 : ∀ x, (F x).cell? ⟨w.heap.size, 5, none⟩ = some (.slice a n c) := fun x => (X.out.below (F1 x) Z1.out).lits.2.2.2.2.2
    have g0 : ∀ x, (F x).cell? ⟨w.heap.size + 1, 0, none⟩ = some (.int .i64 k) := fun x => (Y.out.below (F1 x) Z2.out).lits.1
    have g1 : ∀ x, (F x).cell? ⟨w.heap.size + 1, 1, none⟩ = some (.string t) := fun x => (Y.out.below (F1 x) Z2.out).lits.2.1
    have g2 : ∀ x, (F x).cell? ⟨w.heap.size + 1, 2, none⟩ = some (.int .i64 z) := fun x => (Y.out.below (F1 x) Z2.out).lits.2.2.1
    have g3 : ∀ x, (F x).cell? ⟨w.heap.size + 1, 3, none⟩ = some (.float .f64 r') := fun x => (Y.out.below (F1 x) Z2.out).lits.2.2.2.1
    have g4 : ∀ x, (F x).cell? ⟨w.heap.size + 1, 4, none⟩ = some (.bool false) := fun x => (Y.out.below (F1 x) Z2.out).lits.2.2.2.2.1
    have g5 : ∀ x, (F x).cell? ⟨w.heap.size + 1, 5, none⟩ = some (.slice a' n' c') := fun x => (Y.out.below (F1 x) Z2.out).lits.2.2.2.2.2
    have HB : Hid (∀ x, Calls _ _ _ (F x) _) := Lib.hid fun x => refBits_calls r h1 (F x)
    have HB' : Hid (∀ x, Calls _ _ _ (F x) _) := Lib.hid fun x => refBits_calls r' h2 (F x)
    rw [← HE.out] at HB'
    have HF1 := Lib.hid F1
    clear F1 F3 h1 h2
    refine wp_region_class F (by kernel_rfl) (by kernel_rfl) F2 ?_
    try dsimp only [List.append]
    repeat (go_big_quiet_step (first | (go_at_call 53; exact quiet_same (HB.out _)) | (go_at_call 53; exact quiet_same (HB'.out _))))
    refine wpQuiet_nil ?_
    intro _ hw'
    obtain ⟨x1, hw2⟩ := hw'
    subst hw2
    go_wp2_with fail
    go_ret
    exact ⟨rfl, bstep B0.out (HF1.out x1)⟩
  · exact absurd rfl HD.out
set_option maxHeartbeats 4000000 in
set_option maxRecDepth 100000 in
theorem rSame_n (k : Int) (t : ByteArray) (z : Int) (r r' : Nat) (f : Bool) (a a' : Option Addr) (c c' n n' : Nat) (K K' : Nat → Val) (w : World) (hd : n ≠ n') (hbits : bitsN r = bitsN r') (h1 : r < 18446744073709551616) (h2 : r' < 18446744073709551616) :
    Calls Tryz.prog 27 #[(Val.mk k t z r f a c n K).agg, (Val.mk k t z r' f a' c' n' K').agg] w fun e w' => e = .returned (.bool false) ∧ Below w.heap.size w w' := by
  obtain ⟨hb, hz, hx, hy⟩ := two_facts w k k t t z z r r' f f a a' c c' n n' K K'
  have B0 := Lib.hid hb
  have X := Lib.hid hx
  have Y := Lib.hid hy
  have Z1 : Hid (w.heap.size < ((w.alloc _).alloc _).heap.size) := Lib.hid (Nat.lt_of_lt_of_eq (by omega) hz.symm)
  have Z2 : Hid (w.heap.size + 1 < ((w.alloc _).alloc _).heap.size) := Lib.hid (Nat.lt_of_lt_of_eq (by omega) hz.symm)
  clear hb hx hy hz
  have HE := Lib.hid hbits
  clear hbits
  have q : ((n : Int) != (n' : Int)) = true := by simpa using fun e => hd (by omega)
  clear hd
  unfold Val.agg
  go_enter Tryz.func27, Tryz.ntmps27
  go_wp2_with fail
  generalize hW : ((w.alloc _).alloc _) = W at *
  obtain ⟨F, F1, F2, F3, -⟩ := over W
  have f0 : ∀ x, (F x).cell? ⟨w.heap.size, 0, none⟩ = some (.int .i64 k) := fun x => (X.out.below (F1 x) Z1.out).lits.1
  have f1 : ∀ x, (F x).cell? ⟨w.heap.size, 1, none⟩ = some (.string t) := fun x => (X.out.below (F1 x) Z1.out).lits.2.1
  have f2 : ∀ x, (F x).cell? ⟨w.heap.size, 2, none⟩ = some (.int .i64 z) := fun x => (X.out.below (F1 x) Z1.out).lits.2.2.1
  have f3 : ∀ x, (F x).cell? ⟨w.heap.size, 3, none⟩ = some (.float .f64 r) := fun x => (X.out.below (F1 x) Z1.out).lits.2.2.2.1
  have f4 : ∀ x, (F x).cell? ⟨w.heap.size, 4, none⟩ = some (.bool f) := fun x => (X.out.below (F1 x) Z1.out).lits.2.2.2.2.1
  have f5 : ∀ x, (F x).cell? ⟨w.heap.size, 5, none⟩ = some (.slice a n c) := fun x => (X.out.below (F1 x) Z1.out).lits.2.2.2.2.2
  have g0 : ∀ x, (F x).cell? ⟨w.heap.size + 1, 0, none⟩ = some (.int .i64 k) := fun x => (Y.out.below (F1 x) Z2.out).lits.1
  have g1 : ∀ x, (F x).cell? ⟨w.heap.size + 1, 1, none⟩ = some (.string t) := fun x => (Y.out.below (F1 x) Z2.out).lits.2.1
  have g2 : ∀ x, (F x).cell? ⟨w.heap.size + 1, 2, none⟩ = some (.int .i64 z) := fun x => (Y.out.below (F1 x) Z2.out).lits.2.2.1
  have g3 : ∀ x, (F x).cell? ⟨w.heap.size + 1, 3, none⟩ = some (.float .f64 r') := fun x => (Y.out.below (F1 x) Z2.out).lits.2.2.2.1
  have g4 : ∀ x, (F x).cell? ⟨w.heap.size + 1, 4, none⟩ = some (.bool f) := fun x => (Y.out.below (F1 x) Z2.out).lits.2.2.2.2.1
  have g5 : ∀ x, (F x).cell? ⟨w.heap.size + 1, 5, none⟩ = some (.slice a' n' c') := fun x => (Y.out.below (F1 x) Z2.out).lits.2.2.2.2.2
  have HB : Hid (∀ x, Calls _ _ _ (F x) _) := Lib.hid fun x => refBits_calls r h1 (F x)
  have HB' : Hid (∀ x, Calls _ _ _ (F x) _) := Lib.hid fun x => refBits_calls r' h2 (F x)
  rw [← HE.out] at HB'
  have HF1 := Lib.hid F1
  clear F1 F3 h1 h2
  refine wp_region_class F (by kernel_rfl) (by kernel_rfl) F2 ?_
  try dsimp only [List.append]
  repeat (go_big_quiet_step (first | (go_at_call 53; exact quiet_same (HB.out _)) | (go_at_call 53; exact quiet_same (HB'.out _))))
  refine wpQuiet_nil ?_
  intro _ hw'
  obtain ⟨x1, hw2⟩ := hw'
  subst hw2
  go_wp2_with fail
  go_ret
  exact ⟨rfl, bstep B0.out (HF1.out x1)⟩
end Go.Proofs.YtpmlhmdmnbmnnaaGreatDoor
