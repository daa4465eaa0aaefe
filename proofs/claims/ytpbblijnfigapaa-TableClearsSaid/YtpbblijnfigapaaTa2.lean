/- Package table's places as they lie; room, first, behind, moving, crowded, New's parts. No condition but bounds. -/
import Derived.Test.YtpbblijnfigapaaTa1
import Derived.Deep.QuietTactic
namespace Go.Proofs.Ytpbblijnfigapaa.Ta
open Go.ChangeShapes Go.WideShapes Go.ChangeAt Go.RowKit
/-- A place: what it is, its key, its number. -/
structure Pl where
  i : Int
  k : ByteArray
  n : Int
/-- Places l, e entries, d graves: the object at o in block T, the list in block G. -/
structure PAt (w : World) (T o G : Nat) (l : List Pl) (e d : Int) : Prop where
  c0 : ∃ a, w.cell? ⟨T, o, none⟩ = some (.slice a l.length l.length) ∧ (0 < l.length → a = some ⟨G, 0, none⟩)
  c1 : w.cell? ⟨T, o + 1, none⟩ = some (.int .i64 e)
  c2 : w.cell? ⟨T, o + 2, none⟩ = some (.int .i64 d)
  ft : ∀ i, w.frozen? ⟨T, i, none⟩ = false
  pl : ∀ j (hj : j < l.length), w.cell? ⟨G, j * 3, none⟩ = some (.int .i64 l[j].i) ∧ w.cell? ⟨G, j * 3 + 1, none⟩ = some (.string l[j].k) ∧ w.cell? ⟨G, j * 3 + 2, none⟩ = some (.int .i64 l[j].n)
  fg : 0 < l.length → ∀ i, w.frozen? ⟨G, i, none⟩ = false
  ne : 0 < l.length → G ≠ T
set_option maxHeartbeats 1000000 in
theorem room_calls (w : World) (T o : Nat) (a : Option Addr) (n : Nat) (h0 : w.cell? ⟨T, o, none⟩ = some (.slice a n n)) :
    Calls Try.prog 29 #[.pointer (some ⟨T, o, none⟩)] w fun e w' => e = .returned (.int .i64 (n : Nat)) ∧ w = w' := by
  go_enter Try.func29, Try.ntmps29
  go_wp2
  go_ret
  exact ⟨rfl, rfl⟩
set_option maxHeartbeats 1000000 in
theorem first_calls (w : World) (T o : Nat) (a : Option Addr) (n : Nat) (h0 : w.cell? ⟨T, o, none⟩ = some (.slice a n n)) (hn : 0 < n) (hn2 : n ≤ 1000000) (h : Nat) (hh : h < 18446744073709551616) :
    Calls Try.prog 31 #[.pointer (some ⟨T, o, none⟩), .int .u64 (h : Nat)] w fun e w' => e = .returned (.int .i64 (h % n : Nat)) ∧ w = w' := by
  have H0 := Lib.hid (room_calls w T o a n h0)
  go_enter Try.func31, Try.ntmps31
  go_wp2_with fail
  refine H0.out.mono ?_; rintro en w2 ⟨rfl, rfl⟩
  go_wp2_with fail
  go_ret
  exact ⟨by have e : wrap64 ((h : Int) % (n : Int)) = ((h % n : Nat) : Int) := (by have := Nat.mod_lt h hn; rw [← Int.natCast_emod]; exact Go.IntWalk.wrap64_in _ (by omega)); show Ending.returned (.int .i64 (wrap64 ((h : Int) % (n : Int)))) = _; rw [e], rfl⟩
set_option maxHeartbeats 1000000 in
theorem behind_calls (w : World) (T o : Nat) (a : Option Addr) (n : Nat) (h0 : w.cell? ⟨T, o, none⟩ = some (.slice a n n)) (hn : 0 < n) (hn2 : n ≤ 1000000) (i : Nat) (hi : i < n) :
    Calls Try.prog 32 #[.pointer (some ⟨T, o, none⟩), .int .i64 (i : Nat)] w fun e w' => e = .returned (.int .i64 ((i + 1) % n : Nat)) ∧ w = w' := by
  have H0 := Lib.hid (room_calls w T o a n h0)
  go_enter Try.func32, Try.ntmps32
  go_wp2_with fail
  refine H0.out.mono ?_; rintro en w2 ⟨rfl, rfl⟩
  go_wp2_with fail
  go_ret
  exact ⟨by show Ending.returned (.int .i64 (((i : Int) + 1) % (n : Int))) = _; rw [Int.natCast_emod]; rfl, rfl⟩
theorem iPl : (Try.prog.info? 55).map (fun i => (i.zero, i.size, i.bytes)) = some (some (.agg #[.int .i64 0, .string ⟨#[]⟩, .int .i64 0]), 3, 32) := by kernel_rfl
theorem iPs : (Try.prog.info? 47).map (·.size) = some 3 := by kernel_rfl
def zerosP (n : Nat) : Array Value := madeCells (Value.agg #[.int .i64 0, .string ⟨#[]⟩, .int .i64 0]).cells (n * 3)
theorem zerosP_size (n : Nat) : (zerosP n).size = n * 3 := size_madeCells _ _
set_option maxHeartbeats 1000000 in
theorem ofRoom_calls (w : World) (n : Nat) (hn : n ≤ 1000000) :
    Calls Try.prog 20 #[.int .i64 (n : Nat)] w fun e w' => e = .returned (.agg #[.slice (some ⟨w.heap.size + 1, 0, none⟩) n n, .int .i64 0, .int .i64 0]) ∧ Below w.heap.size w w' ∧ w'.heap.size = w.heap.size + 2 ∧ w'.heap[w.heap.size + 1]? = some (.cells (zerosP n) 55) := by
  obtain ⟨i0, hi, hz0, hz1, hz2⟩ := info_parts iPl
  have hmk : ∀ w : World, Sem.run Try.prog (Instr.makeSlice 45 (.int .i64 (n : Int)) (.int .i64 (n : Int))) w = .ok (.slice (some ⟨w.heap.size, 0, none⟩) n n) (w.alloc (.cells (zerosP n) 55)) := fun w => by
    have := run_make w 45 55 i0 _ Try.underlying45 hi hz0 .i64 .i64 n n (by omega) (Int.le_refl _) (by rw [hz2]; omega) (by omega)
    rw [hz1, Int.toNat_natCast] at this
    exact this
  clear hi hz0 hz1 hz2
  go_enter Try.func20, Try.ntmps20
  go_wp2_with fail
  refine bodyPost_ret (results_cell_row rfl _ _ w.heap.size 47 #[.slice (some ⟨w.heap.size + 1, 0, none⟩) n n, .int .i64 0, .int .i64 0] (0, 0) _ rfl ?hg Try.underlying47 rfl iPs) rfl ⟨rfl, ?_, ?_, ?_⟩
  case hg => rw [heap_alloc_old _ _ (r := w.heap.size) (by simp), heap_alloc_new]
  · exact bstep (bbox _) (bbox _)
  · simp
  · have h := heap_alloc_new (w.alloc (.cells #[.slice (some ⟨w.heap.size + 1, 0, none⟩) n n, .int .i64 0, .int .i64 0] 47)) (.cells (zerosP n) 55)
    simpa using h
set_option maxHeartbeats 1000000 in
theorem new_calls (w : World) :
    Calls Try.prog 9 #[] w fun e w' => ∃ W2, Below w.heap.size w W2 ∧ W2.heap.size = w.heap.size + 2 ∧ W2.heap[w.heap.size + 1]? = some (.cells (zerosP 8) 55) ∧ e = .returned (.pointer (some ⟨w.heap.size + 2, 0, none⟩)) ∧ w' = W2.alloc (.cells #[.slice (some ⟨w.heap.size + 1, 0, none⟩) 8 8, .int .i64 0, .int .i64 0, .slice none 0 0, .int .i64 0, .int .i64 0, .int .i64 0] 50) := by
  have H0 := Lib.hid (ofRoom_calls w 8 (by omega))
  go_enter Try.func9, Try.ntmps9
  go_wp2_with fail
  refine H0.out.mono ?_; rintro en w2 ⟨rfl, h1, h2, h3⟩
  have H1 := Lib.hid h1
  have H3 := Lib.hid h3
  clear h1 h3
  go_wp2_with fail
  go_ret
  exact ⟨w2, H1.out, h2, H3.out, rfl, rfl⟩
set_option maxHeartbeats 1000000 in
theorem moving_calls (w : World) (T : Nat) (a : Option Addr) (n : Nat) (h0 : w.cell? ⟨T, 3, none⟩ = some (.slice a n n)) :
    Calls Try.prog 23 #[.pointer (some ⟨T, 0, none⟩)] w fun e w' => e = .returned (.bool (decide (0 < n))) ∧ w = w' := by
  have H0 := Lib.hid (room_calls w T 3 a n h0)
  go_enter Try.func23, Try.ntmps23
  go_wp2_with fail
  refine H0.out.mono ?_; rintro en w2 ⟨rfl, rfl⟩
  go_wp2_with fail
  go_ret
  exact ⟨rfl, rfl⟩
set_option maxHeartbeats 1000000 in
theorem crowded_calls (w : World) (T o : Nat) (a : Option Addr) (n : Nat) (x y : Int) (h0 : w.cell? ⟨T, o, none⟩ = some (.slice a n n)) (h1 : w.cell? ⟨T, o + 1, none⟩ = some (.int .i64 x)) (h2 : w.cell? ⟨T, o + 2, none⟩ = some (.int .i64 y)) (hx : 0 ≤ x ∧ x ≤ 1000000) (hy : 0 ≤ y ∧ y ≤ 1000000) (hn : n ≤ 1000000) :
    Calls Try.prog 24 #[.pointer (some ⟨T, o, none⟩)] w fun e w' => e = .returned (.bool (decide ((n : Int) / 2 ≤ x + y))) ∧ ∃ k, w' = w.drewN k := by
  have H0 := Lib.hid (fun k => room_calls (w.drewN k) T o a n h0)
  go_enter Try.func24, Try.ntmps24
  go_wp2_with fail
  go_quiet ((go_at_call 29; exact Calls.quiet_of_same ((H0.out _).mono fun _ _ ⟨a, b⟩ => ⟨a, b.symm⟩)))
  go_wp2_with fail
  go_ret
  refine ⟨?_, _, rfl⟩
  have e1 : IntKind.i64.wrap ((n : Int) / 2) = (n : Int) / 2 := IntWalk.i64_in _ (by omega)
  have e2 : IntKind.i64.wrap (x + y) = x + y := IntWalk.i64_in _ (by omega)
  rw [e1, e2]
  rfl
end Go.Proofs.Ytpbblijnfigapaa.Ta
