/- slices.Insert of one node into a row. Conditions: the row as it lies; the node in a block of its own. -/
import Derived.Test.YtjfcdkmnccafaaaPb5
import Derived.Maps.AppendAt
import Derived.Lib.AppendZerosOnto
import Derived.Lib.Overlaps
import Derived.Laws.CopyOwn
import Derived.Laws.Externs
import Derived.Shelf.Spec.SlicesInsert
namespace Go.Proofs.Ytjfcdkmnccafaaa.Pb
open Go.ChangeShapes Go.WideShapes Go.ChangeAt Go.RowKit
theorem iNode : (Try.prog.info? 46).map (fun i => (i.zero, i.size, i.bytes)) = some (some (.pointer none), 1, 8) := by kernel_rfl
/-- What one node more leaves of a row. -/
structure Ins (w w' : World) (v v' : Value) (l : List Nat) : Prop where
  row : KsAt w' v' l
  gr : w.grownBy w' v.ownBlock
  ob : v'.ownBlock = v.ownBlock ∨ ∃ g, v'.ownBlock = some g ∧ w.heap.size ≤ g
set_option maxHeartbeats 4000000 in
set_option maxRecDepth 100000 in
theorem insert_nil (w : World) (c bx : Nat) (hb : w.heap[bx]? = some (.cells #[ptr c] 46 (0, 0))) :
    Calls Try.prog 33 #[.slice none 0 0, .int .i64 0, .slice (some ⟨bx, 0, none⟩) 1 1] w fun e w' => ∃ v', e = .returned v' ∧ Ins w w' (.slice none 0 0) v' [c] := by
  obtain ⟨i0, hi, hz0, hz1, hz2⟩ := info_parts iNode
  have hc : w.cell? ⟨bx, 0, none⟩ = some (ptr c) := by simp [World.cell?, hb]
  go_enter Try.func33, Try.ntmps33
  go_wp2_with (at_builtin; refine wpList_append_own_at _ rfl _ _ 47 rfl 0 46 i0 (.pointer none) 1 8 Try.underlying47 hi hz0 hz1 hz2 rfl (by decide) (.slice none 0 0) 0 [] rfl (World.ownsRow_nil _ _ _ _) ⟨bx, 0, none⟩ 1 1 [ptr c] rfl rfl (by intro j u hj; cases j with | zero => cases hj; exact hc | succ j => cases hj) (by intro u hu; rw [List.mem_singleton.1 hu]; rfl) (by decide) (by decide) (Nat.zero_le _) ?_)
  intro v' w' hr hg _ ho
  go_wp2_with fail
  go_ret
  exact ⟨v', rfl, hr, hg, ho.imp id fun h => ⟨_, h, Nat.le_refl _⟩⟩
theorem szN : Try.prog.elem 47 = 46 := by kernel_rfl
theorem unN : Try.prog.underlying 47 = some (.slice (Try.prog.elem 47)) := by rw [szN]; exact Try.underlying47
theorem run_szN (w : World) : (sizeOf 46).run Try.prog w = .ok 1 w := by
  obtain ⟨i0, hi, hz0, hz1, hz2⟩ := info_parts iNode
  simp [sizeOf, typeInfo, hi, hz1]
/-- 's[i:]'. -/
theorem cutL (g n cap i : Nat) (hi : i ≤ n) (_hn : n ≤ cap) : ∃ a1, (∀ w2 : World, Sem.run Try.prog (Instr.sliceAt 47 (.slice (some ⟨g, 0, none⟩) n cap) (some (.int .i64 i)) none none) w2 = .ok (.slice (some a1) (n - i) (cap - i)) w2) ∧ (i < cap → a1 = ⟨g, i, none⟩) := by
  refine ⟨if cap = i then ⟨g, 0, none⟩ else ⟨g, i, none⟩, fun w2 => ?_, fun h => if_neg (by omega)⟩
  rw [run_sliceAt_slice (h := unN), run_slice_l (ht := unN) (h0 := by omega) (h1 := by omega), szN, run_szN]
  simp only [Result.andThen, sliced, Int.toNat_natCast, Nat.mul_one]
  split
  · rfl
  · simp [Addr.add_lit]
/-- 's[:h]'. -/
theorem cutH (g n cap h : Nat) (hh : h ≤ cap) (w2 : World) : Sem.run Try.prog (Instr.sliceAt 47 (.slice (some ⟨g, 0, none⟩) n cap) none (some (.int .i64 h)) none) w2 = .ok (.slice (some ⟨g, 0, none⟩) h cap) w2 := by
  rw [run_sliceAt_slice (h := unN), run_slice_h (ht := unN) (h0 := by omega) (h2 := by omega), szN, run_szN]
  simp only [Result.andThen, sliced, Int.toNat_natCast, Nat.sub_zero, Nat.zero_mul]
  split
  · rfl
  · simp [Addr.add_lit]
set_option maxHeartbeats 4000000 in
set_option maxRecDepth 100000 in
theorem insert_end (w : World) (g n cap : Nat) (l : List Nat) (hn : l.length = n) (hR : KsAt w (.slice (some ⟨g, 0, none⟩) n cap) l) (hnc : n ≤ cap) (hl : n ≤ 1000000) (c bx : Nat) (hb : w.heap[bx]? = some (.cells #[ptr c] 46 (0, 0))) :
    Calls Try.prog 33 #[.slice (some ⟨g, 0, none⟩) n cap, .int .i64 n, .slice (some ⟨bx, 0, none⟩) 1 1] w fun e w' => ∃ v', e = .returned v' ∧ Ins w w' (.slice (some ⟨g, 0, none⟩) n cap) v' (l ++ [c]) := by
  obtain ⟨i0, hi, hz0, hz1, hz2⟩ := info_parts iNode
  have hc : w.cell? ⟨bx, 0, none⟩ = some (ptr c) := by simp [World.cell?, hb]
  obtain ⟨a1, hcut, -⟩ := cutL g n cap n (Nat.le_refl _) hnc
  subst hn
  have HR := Lib.hid hR
  clear hR hb
  go_enter Try.func33, Try.ntmps33
  go_wp2_with (at_builtin; refine wpList_append_own_at _ rfl _ _ 47 rfl 0 46 i0 (.pointer none) 1 8 Try.underlying47 hi hz0 hz1 hz2 rfl (by decide) _ l.length (l.map ptr) rfl HR.out ⟨bx, 0, none⟩ 1 1 [ptr c] rfl rfl (by intro j u hj; cases j with | zero => cases hj; exact hc | succ j => cases hj) (by intro u hu; rw [List.mem_singleton.1 hu]; rfl) (by unfold maxLen; omega) (by omega) (Nat.zero_le _) ?_)
  intro v' w' hr hg _ ho
  go_wp2_with fail
  go_ret
  refine ⟨v', rfl, ?_, hg, ho.imp id fun h => ⟨_, h, Nat.le_refl _⟩⟩
  unfold KsAt
  rw [List.length_append, List.map_append]
  exact hr
end Go.Proofs.Ytjfcdkmnccafaaa.Pb
