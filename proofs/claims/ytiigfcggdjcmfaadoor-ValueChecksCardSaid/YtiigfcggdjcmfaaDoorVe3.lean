/- The document's Same of values, at two values that part at the root: not the same. No condition but bounds. (Written by a program: one theorem for each place at which they part first.) -/
import Derived.Test.YtiigfcggdjcmfaaDoorVe2
import Derived.Test.YtiigfcggdjcmfaaDoorVb3
namespace Go.Proofs.YtiigfcggdjcmfaaDoor
open Go.ChangeShapes Go.WideShapes Go.ChangeAt Go.RowKit

theorem two_facts (w : World) (k k' : Int) (t t' : ByteArray) (z z' : Int) (r r' : Nat) (f f' : Bool) (a a' : Option Addr) (c c' n n' : Nat) (K K' : Nat → Val) :
    Below w.heap.size w ((w.alloc (.cells #[.int .i64 k, .string t, .int .i64 z, .float .f64 r, .bool f, .slice a n c] 25)).alloc (.cells #[.int .i64 k', .string t', .int .i64 z', .float .f64 r', .bool f', .slice a' n' c'] 25)) ∧
    ((w.alloc (.cells #[.int .i64 k, .string t, .int .i64 z, .float .f64 r, .bool f, .slice a n c] 25)).alloc (.cells #[.int .i64 k', .string t', .int .i64 z', .float .f64 r', .bool f', .slice a' n' c'] 25)).heap.size = w.heap.size + 2 ∧
    At ((w.alloc (.cells #[.int .i64 k, .string t, .int .i64 z, .float .f64 r, .bool f, .slice a n c] 25)).alloc (.cells #[.int .i64 k', .string t', .int .i64 z', .float .f64 r', .bool f', .slice a' n' c'] 25)) w.heap.size 0 (.mk k t z r f a c n K) ∧
    At ((w.alloc (.cells #[.int .i64 k, .string t, .int .i64 z, .float .f64 r, .bool f, .slice a n c] 25)).alloc (.cells #[.int .i64 k', .string t', .int .i64 z', .float .f64 r', .bool f', .slice a' n' c'] 25)) (w.heap.size + 1) 0 (.mk k' t' z' r' f' a' c' n' K') := by
  refine ⟨((Below.refl _ _).alloc (Nat.le_refl _) _).alloc (by simp) _, by simp, ⟨?_, ?_, ?_, ?_, ?_, ?_⟩, ⟨?_, ?_, ?_, ?_, ?_, ?_⟩⟩ <;> go_simp
end Go.Proofs.YtiigfcggdjcmfaaDoor
