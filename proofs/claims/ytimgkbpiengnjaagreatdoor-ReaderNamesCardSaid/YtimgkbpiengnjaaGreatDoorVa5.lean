/- Package value's Copy and List. Conditions: no value deeper than 65536 lists, and a count that fits. -/
import Derived.Test.YtimgkbpiengnjaaGreatDoorVa4
namespace Go.Proofs.YtimgkbpiengnjaaGreatDoor
open Go.ChangeShapes Go.WideShapes Go.ChangeAt Go.RowKit

theorem list_start (w : World) (K : Nat → Val) :
    (w.alloc (.cells #[.int .i64 0, .string ⟨#[]⟩, .int .i64 0, .float .f64 0, .bool false, .slice none 0 0] 26)).heap.size = w.heap.size + 1 ∧
    Below w.heap.size w (w.alloc (.cells #[.int .i64 0, .string ⟨#[]⟩, .int .i64 0, .float .f64 0, .bool false, .slice none 0 0] 26)) ∧
    At (w.alloc (.cells #[.int .i64 0, .string ⟨#[]⟩, .int .i64 0, .float .f64 0, .bool false, .slice none 0 0] 26)) w.heap.size 0 (.mk 0 ⟨#[]⟩ 0 0 false none 0 0 K) ∧
    (∀ i, i < 6 → (w.alloc (.cells #[.int .i64 0, .string ⟨#[]⟩, .int .i64 0, .float .f64 0, .bool false, .slice none 0 0] 26)).frozen? ⟨w.heap.size, i, none⟩ = false) := by
  refine ⟨by simp, (Below.refl _ _).alloc (Nat.le_refl _) _, ⟨?_, ?_, ?_, ?_, ?_, ?_⟩, fun i hi => ?_⟩ <;> go_simp
theorem list_done {w W1 wr : World} {blk n : Nat} {K : Nat → Val} (hm : Made W1 blk n n K wr) (hblk : w.heap.size + 1 = blk) (u : Val)
    (k : Int) (t : ByteArray) (z : Int) (r : Nat) (f : Bool) (h9 : -9223372036854775808 ≤ k ∧ k ≤ 9223372036854775807 ∧ t.size ≤ 281474976710656 ∧ -9223372036854775808 ≤ z ∧ z ≤ 9223372036854775807 ∧ r < 18446744073709551616 ∧ n ≤ n ∧ n ≤ 9223372036854775807 ∧ n * 72 ≤ 281474976710656) :
    ∃ K', New w.heap.size (putVal wr w.heap.size 0 u) (.mk k t z r f (some ⟨blk, 0, none⟩) n n K') ∧ ∀ i, i < n → Twin (K i) (K' i) := by
  obtain ⟨m1, m2, m3, m4, K', m5⟩ := hm
  have hc : ∀ b, w.heap.size < b → ∀ o, (putVal wr w.heap.size 0 u).cell? ⟨b, o, none⟩ = wr.cell? ⟨b, o, none⟩ := fun b hb o =>
    putVal_other _ _ _ _ _ _ (.inl (by omega))
  have hz : (putVal wr w.heap.size 0 u).heap.size = wr.heap.size := putVal_size _ _ _ _
  refine ⟨K', ⟨⟨h9, fun _ => ⟨blk, 0, rfl, by omega, by rw [hz]; exact m3⟩, fun i hi => ⟨fun b o e => ?_, ?_⟩⟩, fun hn => ⟨blk, rfl, by omega, fun i hi => ?_, fun i hi => ?_⟩⟩, fun i hi => (m5 i hi).2.2⟩
  · injection e with e
    injection e with e1 e2
    subst e1 e2
    rw [Nat.zero_add]
    exact (m5 i hi).1.keep (hc _ (by omega))
  · exact (m5 i hi).2.1.keep fun b hb => ⟨⟨by omega, by rw [hz]; exact hb.2⟩, hc b (by omega)⟩
  · rw [putVal_frozen]
    exact (m4 i hi).2
  · exact (m5 i hi).2.1.keep fun b hb => ⟨⟨hb.1, by rw [hz]; exact hb.2⟩, hc b (by omega)⟩

end Go.Proofs.YtimgkbpiengnjaaGreatDoor
