/- Package value's Count, Depth, Text, Int, Ok, Nil, Fail. Conditions: as countOf's and depthOf's. -/
import Derived.Test.YtimgkbpiengnjaaGreatDoorVa2
namespace Go.Proofs.YtimgkbpiengnjaaGreatDoor
open Go.ChangeShapes Go.WideShapes Go.ChangeAt Go.RowKit

@[go_sem] theorem run_store_flt (P : Program) (w : World) (a : Addr) (m : Mode) (k : FloatKind) (b : Nat) : Sem.run P (store a (.float k b) m) w = stored P w a (.float k b) m := run_store P w a _ m rfl
theorem at_new (w : World) (k : Int) (t : ByteArray) (z : Int) (r : Nat) (f : Bool) (a : Option Addr) (c n : Nat) (K : Nat → Val) (T : TypeId) :
    At (w.alloc (.cells #[.int .i64 k, .string t, .int .i64 z, .float .f64 r, .bool f, .slice a n c] T)) w.heap.size 0 (.mk k t z r f a c n K) := by
  refine ⟨?_, ?_, ?_, ?_, ?_, ?_⟩ <;> go_simp
theorem Lies.alloc {S : Nat → Prop} {w : World} {v : Val} (hS : ∀ b, S b → b < w.heap.size) (hl : Lies S w v) (o : Obj) : Lies S (w.alloc o) v :=
  hl.below ((Below.refl _ _).alloc (Nat.le_refl _) _) hS
def vText (s : ByteArray) : Val := .mk 4 s 0 0 false none 0 0 fun _ => .no
def vInt (z : Int) : Val := .mk 3 ⟨#[]⟩ z 0 false none 0 0 fun _ => .no
def vFail (s : ByteArray) : Val := .mk 2 s 0 0 false none 0 0 fun _ => .no
def vOk : Val := .mk 1 ⟨#[79, 75]⟩ 0 0 false none 0 0 fun _ => .no
def vNil : Val := .mk 6 ⟨#[]⟩ 0 0 false none 0 0 fun _ => .no
set_option maxHeartbeats 1000000 in
theorem vnil_calls (w : World) :
    Calls Tryz.prog 16 #[] w fun e w' => e = .returned (vNil).agg ∧ Below w.heap.size w w' := by
  unfold vNil Val.agg
  go_enter Tryz.func16, Tryz.ntmps16
  go_wp2_with fail
  exact bodyPost_ret (v := .agg #[.int .i64 6, .string ⟨#[]⟩, .int .i64 0, .float .f64 0, .bool false, .slice none 0 0]) (by simp [results, Tryz.results16, go_sem]) rfl ⟨rfl, (Below.refl _ _).alloc (Nat.le_refl _) _⟩
end Go.Proofs.YtimgkbpiengnjaaGreatDoor
