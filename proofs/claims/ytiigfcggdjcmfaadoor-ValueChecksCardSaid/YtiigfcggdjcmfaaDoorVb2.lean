/- Package value's isSame at two values that part at the root: not the same. Condition: room. (Written by a program: one theorem for each place at which they part first.) -/
import Derived.Test.YtiigfcggdjcmfaaDoorVa5
import Derived.Test.YtiigfcggdjcmfaaDoorVb1
namespace Go.Proofs.YtiigfcggdjcmfaaDoor
open Go.ChangeShapes Go.WideShapes Go.ChangeAt Go.RowKit

def same : Val → Val → Bool
  | .mk k t z r f _ _ n K, .mk k' t' z' r' f' _ _ n' K' => decide (k = k' ∧ t = t' ∧ z = z' ∧ bitsN r = bitsN r' ∧ f = f' ∧ n = n') && allTo (fun i => same (K i) (K' i)) n
  | _, _ => false
theorem same_quiet (r r' : Nat) (h1 : r < 18446744073709551616) (h2 : r' < 18446744073709551616) (x : Bool) (hx : decide (bitsN r = bitsN r') = x) (w : World) :
    Calls Tryd.prog 42 #[.float .f64 r, .float .f64 r'] w fun e w' => e = .returned (.bool x) ∧ w' = w :=
  (same_calls r r' h1 h2 w).mono fun _ _ h => ⟨by rw [h.1, hx], h.2.symm⟩
theorem bytes_ext {a b : ByteArray} (h : a.toList = b.toList) : a = b := by
  rw [ByteArray.toList_eq, ByteArray.toList_eq] at h
  exact ByteArray.ext (Array.toList_inj.mp h)
set_option maxHeartbeats 2000000 in
set_option maxRecDepth 100000 in
theorem isSame_k (k k' : Int) (t t' : ByteArray) (z z' : Int) (r r' : Nat) (f f' : Bool) (a a' : Option Addr) (c c' n n' : Nat) (K K' : Nat → Val) (w : World) (b o b' o' room : Nat) (hr : 0 < room) (hr2 : room ≤ 65536)
    (hd : k ≠ k') (_h1 : r < 18446744073709551616) (_h2 : r' < 18446744073709551616)
    (ha : At w b o (.mk k t z r f a c n K)) (ha' : At w b' o' (.mk k' t' z' r' f' a' c' n' K')) :
    Calls Tryd.prog 31 #[.pointer (some ⟨b, o, none⟩), .pointer (some ⟨b', o', none⟩), .int .i64 room] w fun e w' => e = .returned (.bool false) ∧ ∃ m, w' = w.drewN m := by
  have hroom : ((room : Int) == 0) = false := by rw [beq_eq_false_iff_ne]; omega
  obtain ⟨x0, x1, x2, x3, x4, x5⟩ := ha
  obtain ⟨y0, y1, y2, y3, y4, y5⟩ := ha'
  have q : (k != k') = true := by simpa using hd
  clear _h1 _h2 hd
  go_enter Tryd.func31, Tryd.ntmps31
  go_wp2_with fail
  refine wp_region_quiet_lit (by kernel_rfl) (by kernel_rfl) ?_
  dsimp only [List.append]
  repeat (go_big_quiet_step (fail))
  refine wpQuiet_nil ?_
  intro _ hw'
  obtain ⟨nq, hw2⟩ := hw'
  subst hw2
  go_wp2_with fail
  go_ret
  exact ⟨rfl, _, rfl⟩
set_option maxHeartbeats 2000000 in
set_option maxRecDepth 100000 in
theorem isSame_t (k : Int) (t t' : ByteArray) (z z' : Int) (r r' : Nat) (f f' : Bool) (a a' : Option Addr) (c c' n n' : Nat) (K K' : Nat → Val) (w : World) (b o b' o' room : Nat) (hr : 0 < room) (hr2 : room ≤ 65536)
    (hd : t ≠ t') (_h1 : r < 18446744073709551616) (_h2 : r' < 18446744073709551616)
    (ha : At w b o (.mk k t z r f a c n K)) (ha' : At w b' o' (.mk k t' z' r' f' a' c' n' K')) :
    Calls Tryd.prog 31 #[.pointer (some ⟨b, o, none⟩), .pointer (some ⟨b', o', none⟩), .int .i64 room] w fun e w' => e = .returned (.bool false) ∧ ∃ m, w' = w.drewN m := by
  have hroom : ((room : Int) == 0) = false := by rw [beq_eq_false_iff_ne]; omega
  obtain ⟨x0, x1, x2, x3, x4, x5⟩ := ha
  obtain ⟨y0, y1, y2, y3, y4, y5⟩ := ha'
  have q : (t.toList == t'.toList) = false := by simpa using fun e => hd (bytes_ext e)
  clear _h1 _h2 hd
  go_enter Tryd.func31, Tryd.ntmps31
  go_wp2_with fail
  refine wp_region_quiet_lit (by kernel_rfl) (by kernel_rfl) ?_
  dsimp only [List.append]
  repeat (go_big_quiet_step (fail))
  refine wpQuiet_nil ?_
  intro _ hw'
  obtain ⟨nq, hw2⟩ := hw'
  subst hw2
  go_wp2_with fail
  go_ret
  exact ⟨rfl, _, rfl⟩
set_option maxHeartbeats 2000000 in
set_option maxRecDepth 100000 in
theorem isSame_z (k : Int) (t : ByteArray) (z z' : Int) (r r' : Nat) (f f' : Bool) (a a' : Option Addr) (c c' n n' : Nat) (K K' : Nat → Val) (w : World) (b o b' o' room : Nat) (hr : 0 < room) (hr2 : room ≤ 65536)
    (hd : z ≠ z') (_h1 : r < 18446744073709551616) (_h2 : r' < 18446744073709551616)
    (ha : At w b o (.mk k t z r f a c n K)) (ha' : At w b' o' (.mk k t z' r' f' a' c' n' K')) :
    Calls Tryd.prog 31 #[.pointer (some ⟨b, o, none⟩), .pointer (some ⟨b', o', none⟩), .int .i64 room] w fun e w' => e = .returned (.bool false) ∧ ∃ m, w' = w.drewN m := by
  have hroom : ((room : Int) == 0) = false := by rw [beq_eq_false_iff_ne]; omega
  obtain ⟨x0, x1, x2, x3, x4, x5⟩ := ha
  obtain ⟨y0, y1, y2, y3, y4, y5⟩ := ha'
  have q : (z != z') = true := by simpa using hd
  clear _h1 _h2 hd
  go_enter Tryd.func31, Tryd.ntmps31
  go_wp2_with fail
  refine wp_region_quiet_lit (by kernel_rfl) (by kernel_rfl) ?_
  dsimp only [List.append]
  repeat (go_big_quiet_step (fail))
  refine wpQuiet_nil ?_
  intro _ hw'
  obtain ⟨nq, hw2⟩ := hw'
  subst hw2
  go_wp2_with fail
  go_ret
  exact ⟨rfl, _, rfl⟩
set_option maxHeartbeats 2000000 in
set_option maxRecDepth 100000 in
theorem isSame_r (k : Int) (t : ByteArray) (z : Int) (r r' : Nat) (f f' : Bool) (a a' : Option Addr) (c c' n n' : Nat) (K K' : Nat → Val) (w : World) (b o b' o' room : Nat) (hr : 0 < room) (hr2 : room ≤ 65536)
    (hd : bitsN r ≠ bitsN r') (h1 : r < 18446744073709551616) (h2 : r' < 18446744073709551616)
    (ha : At w b o (.mk k t z r f a c n K)) (ha' : At w b' o' (.mk k t z r' f' a' c' n' K')) :
    Calls Tryd.prog 31 #[.pointer (some ⟨b, o, none⟩), .pointer (some ⟨b', o', none⟩), .int .i64 room] w fun e w' => e = .returned (.bool false) ∧ ∃ m, w' = w.drewN m := by
  have hroom : ((room : Int) == 0) = false := by rw [beq_eq_false_iff_ne]; omega
  obtain ⟨x0, x1, x2, x3, x4, x5⟩ := ha
  obtain ⟨y0, y1, y2, y3, y4, y5⟩ := ha'
  have HS := Lib.hid (same_quiet r r' h1 h2 false (decide_eq_false hd))
  clear h1 h2 hd
  go_enter Tryd.func31, Tryd.ntmps31
  go_wp2_with fail
  refine wp_region_quiet_lit (by kernel_rfl) (by kernel_rfl) ?_
  dsimp only [List.append]
  repeat (go_big_quiet_step ((go_at_call 42; exact Calls.quiet_of_same (HS.out _))))
  refine wpQuiet_nil ?_
  intro _ hw'
  obtain ⟨nq, hw2⟩ := hw'
  subst hw2
  go_wp2_with fail
  go_ret
  exact ⟨rfl, _, rfl⟩
set_option maxHeartbeats 2000000 in
set_option maxRecDepth 100000 in
theorem isSame_f (k : Int) (t : ByteArray) (z : Int) (r r' : Nat) (f f' : Bool) (a a' : Option Addr) (c c' n n' : Nat) (K K' : Nat → Val) (w : World) (b o b' o' room : Nat) (hr : 0 < room) (hr2 : room ≤ 65536)
    (hd : f ≠ f') (hbits : bitsN r = bitsN r') (h1 : r < 18446744073709551616) (h2 : r' < 18446744073709551616)
    (ha : At w b o (.mk k t z r f a c n K)) (ha' : At w b' o' (.mk k t z r' f' a' c' n' K')) :
    Calls Tryd.prog 31 #[.pointer (some ⟨b, o, none⟩), .pointer (some ⟨b', o', none⟩), .int .i64 room] w fun e w' => e = .returned (.bool false) ∧ ∃ m, w' = w.drewN m := by
  have hroom : ((room : Int) == 0) = false := by rw [beq_eq_false_iff_ne]; omega
  obtain ⟨x0, x1, x2, x3, x4, x5⟩ := ha
  obtain ⟨y0, y1, y2, y3, y4, y5⟩ := ha'
  have HS := Lib.hid (same_quiet r r' h1 h2 true (decide_eq_true hbits))
  have HD := Lib.hid hd
  clear h1 h2 hd hbits
  cases f <;> cases f' <;> first | exact absurd rfl HD.out | skip
  all_goals
    go_enter Tryd.func31, Tryd.ntmps31
    go_wp2_with fail
    refine wp_region_quiet_lit (by kernel_rfl) (by kernel_rfl) ?_
    dsimp only [List.append]
    repeat (go_big_quiet_step ((go_at_call 42; exact Calls.quiet_of_same (HS.out _))))
    refine wpQuiet_nil ?_
    intro _ hw'
    obtain ⟨nq, hw2⟩ := hw'
    subst hw2
    go_wp2_with fail
    go_ret
    exact ⟨rfl, _, rfl⟩
set_option maxHeartbeats 2000000 in
set_option maxRecDepth 100000 in
theorem isSame_n (k : Int) (t : ByteArray) (z : Int) (r r' : Nat) (f : Bool) (a a' : Option Addr) (c c' n n' : Nat) (K K' : Nat → Val) (w : World) (b o b' o' room : Nat) (hr : 0 < room) (hr2 : room ≤ 65536)
    (hd : n ≠ n') (hbits : bitsN r = bitsN r') (h1 : r < 18446744073709551616) (h2 : r' < 18446744073709551616)
    (ha : At w b o (.mk k t z r f a c n K)) (ha' : At w b' o' (.mk k t z r' f a' c' n' K')) :
    Calls Tryd.prog 31 #[.pointer (some ⟨b, o, none⟩), .pointer (some ⟨b', o', none⟩), .int .i64 room] w fun e w' => e = .returned (.bool false) ∧ ∃ m, w' = w.drewN m := by
  have hroom : ((room : Int) == 0) = false := by rw [beq_eq_false_iff_ne]; omega
  obtain ⟨x0, x1, x2, x3, x4, x5⟩ := ha
  obtain ⟨y0, y1, y2, y3, y4, y5⟩ := ha'
  have HS := Lib.hid (same_quiet r r' h1 h2 true (decide_eq_true hbits))
  have q : ((n : Int) != (n' : Int)) = true := by simpa using fun e => hd (by omega)
  clear h1 h2 hd hbits
  go_enter Tryd.func31, Tryd.ntmps31
  go_wp2_with fail
  refine wp_region_quiet_lit (by kernel_rfl) (by kernel_rfl) ?_
  dsimp only [List.append]
  repeat (go_big_quiet_step ((go_at_call 42; exact Calls.quiet_of_same (HS.out _))))
  refine wpQuiet_nil ?_
  intro _ hw'
  obtain ⟨nq, hw2⟩ := hw'
  subst hw2
  go_wp2_with fail
  go_ret
  exact ⟨rfl, _, rfl⟩
end Go.Proofs.YtiigfcggdjcmfaaDoor
