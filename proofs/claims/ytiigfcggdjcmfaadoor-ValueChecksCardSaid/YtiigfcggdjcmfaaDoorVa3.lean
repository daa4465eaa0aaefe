/- Package value's Count, Depth, Text, Int, Ok, Nil, Fail. Conditions: as countOf's and depthOf's. -/
import Derived.Test.YtiigfcggdjcmfaaDoorVa2
namespace Go.Proofs.YtiigfcggdjcmfaaDoor
open Go.ChangeShapes Go.WideShapes Go.ChangeAt Go.RowKit

@[go_sem] theorem run_store_flt (P : Program) (w : World) (a : Addr) (m : Mode) (k : FloatKind) (b : Nat) : Sem.run P (store a (.float k b) m) w = stored P w a (.float k b) m := run_store P w a _ m rfl
theorem at_new (w : World) (k : Int) (t : ByteArray) (z : Int) (r : Nat) (f : Bool) (a : Option Addr) (c n : Nat) (K : Nat → Val) (T : TypeId) :
    At (w.alloc (.cells #[.int .i64 k, .string t, .int .i64 z, .float .f64 r, .bool f, .slice a n c] T)) w.heap.size 0 (.mk k t z r f a c n K) := by
  refine ⟨?_, ?_, ?_, ?_, ?_, ?_⟩ <;> go_simp
theorem Lies.alloc {S : Nat → Prop} {w : World} {v : Val} (hS : ∀ b, S b → b < w.heap.size) (hl : Lies S w v) (o : Obj) : Lies S (w.alloc o) v :=
  hl.below ((Below.refl _ _).alloc (Nat.le_refl _) _) hS
set_option maxHeartbeats 1000000 in
theorem count_calls (v : Val) (S : Nat → Prop) (w : World) (hS : ∀ b, S b → b < w.heap.size) (hl : Lies S w v) (hn : v.nest ≤ 65536) (hc : v.count ≤ 1099511627776) :
    Calls Tryd.prog 13 #[v.agg] w fun e w' => e = .returned (.int .i64 v.count) ∧ Below w.heap.size w w' := by
  have H := Lib.hid (countOf_calls v)
  cases v with
  | no => exact hl.elim
  | mk k t z r f a c n K =>
    unfold Val.agg
    go_enter Tryd.func13, Tryd.ntmps13
    go_wp2_with fail
    refine (H.out S _ w.heap.size 0 65536 (hl.alloc hS _) (at_new ..) hn (by omega) hc).mono ?_; rintro en w' ⟨rfl, rfl⟩
    go_wp2_with fail
    go_ret
    exact ⟨rfl, (Below.refl _ _).alloc (Nat.le_refl _) _⟩
set_option maxHeartbeats 1000000 in
theorem vdepth_calls (v : Val) (S : Nat → Prop) (w : World) (hS : ∀ b, S b → b < w.heap.size) (hl : Lies S w v) (hn : v.nest ≤ 65536) :
    Calls Tryd.prog 11 #[v.agg] w fun e w' => e = .returned (.int .i64 v.depth) ∧ Below w.heap.size w w' := by
  have H := Lib.hid (depthOf_calls v)
  cases v with
  | no => exact hl.elim
  | mk k t z r f a c n K =>
    unfold Val.agg
    go_enter Tryd.func11, Tryd.ntmps11
    go_wp2_with fail
    refine (H.out S _ w.heap.size 0 65536 (hl.alloc hS _) (at_new ..) hn (by omega)).mono ?_; rintro en w' ⟨rfl, rfl⟩
    go_wp2_with fail
    go_ret
    exact ⟨rfl, (Below.refl _ _).alloc (Nat.le_refl _) _⟩
def vText (s : ByteArray) : Val := .mk 4 s 0 0 false none 0 0 fun _ => .no
def vInt (z : Int) : Val := .mk 3 ⟨#[]⟩ z 0 false none 0 0 fun _ => .no
def vFail (s : ByteArray) : Val := .mk 2 s 0 0 false none 0 0 fun _ => .no
def vOk : Val := .mk 1 ⟨#[79, 75]⟩ 0 0 false none 0 0 fun _ => .no
def vNil : Val := .mk 6 ⟨#[]⟩ 0 0 false none 0 0 fun _ => .no
set_option maxHeartbeats 1000000 in
theorem vtext_calls (s : ByteArray) (w : World) :
    Calls Tryd.prog 16 #[.string s] w fun e w' => e = .returned (vText s).agg ∧ Below w.heap.size w w' := by
  unfold vText Val.agg
  go_enter Tryd.func16, Tryd.ntmps16
  go_wp2_with fail
  exact bodyPost_ret (v := .agg #[.int .i64 4, .string s, .int .i64 0, .float .f64 0, .bool false, .slice none 0 0]) (by simp [results, Tryd.results16, go_sem]) rfl ⟨rfl, (Below.refl _ _).alloc (Nat.le_refl _) _⟩
set_option maxHeartbeats 1000000 in
theorem vint_calls (z : Int) (w : World) :
    Calls Tryd.prog 17 #[.int .i64 z] w fun e w' => e = .returned (vInt z).agg ∧ Below w.heap.size w w' := by
  unfold vInt Val.agg
  go_enter Tryd.func17, Tryd.ntmps17
  go_wp2_with fail
  exact bodyPost_ret (v := .agg #[.int .i64 3, .string ⟨#[]⟩, .int .i64 z, .float .f64 0, .bool false, .slice none 0 0]) (by simp [results, Tryd.results17, go_sem]) rfl ⟨rfl, (Below.refl _ _).alloc (Nat.le_refl _) _⟩
set_option maxHeartbeats 1000000 in
theorem vfail_calls (s : ByteArray) (w : World) :
    Calls Tryd.prog 18 #[.string s] w fun e w' => e = .returned (vFail s).agg ∧ Below w.heap.size w w' := by
  unfold vFail Val.agg
  go_enter Tryd.func18, Tryd.ntmps18
  go_wp2_with fail
  exact bodyPost_ret (v := .agg #[.int .i64 2, .string s, .int .i64 0, .float .f64 0, .bool false, .slice none 0 0]) (by simp [results, Tryd.results18, go_sem]) rfl ⟨rfl, (Below.refl _ _).alloc (Nat.le_refl _) _⟩
set_option maxHeartbeats 1000000 in
theorem vok_calls (w : World) :
    Calls Tryd.prog 19 #[] w fun e w' => e = .returned (vOk).agg ∧ Below w.heap.size w w' := by
  unfold vOk Val.agg
  go_enter Tryd.func19, Tryd.ntmps19
  go_wp2_with fail
  exact bodyPost_ret (v := .agg #[.int .i64 1, .string ⟨#[79, 75]⟩, .int .i64 0, .float .f64 0, .bool false, .slice none 0 0]) (by simp [results, Tryd.results19, go_sem]) rfl ⟨rfl, (Below.refl _ _).alloc (Nat.le_refl _) _⟩
set_option maxHeartbeats 1000000 in
theorem vnil_calls (w : World) :
    Calls Tryd.prog 20 #[] w fun e w' => e = .returned (vNil).agg ∧ Below w.heap.size w w' := by
  unfold vNil Val.agg
  go_enter Tryd.func20, Tryd.ntmps20
  go_wp2_with fail
  exact bodyPost_ret (v := .agg #[.int .i64 6, .string ⟨#[]⟩, .int .i64 0, .float .f64 0, .bool false, .slice none 0 0]) (by simp [results, Tryd.results20, go_sem]) rfl ⟨rfl, (Below.refl _ _).alloc (Nat.le_refl _) _⟩
end Go.Proofs.YtiigfcggdjcmfaaDoor
