/- bytes.makeASCIISet of CR LF, and what a slice of bytes is. No condition. -/
import Derived.Test.YtimgkbpiengnjaaGreatDoorLb1
import Derived.Lib.AsciiSet
import Derived.Lib.Bytealg
import Derived.Deep.WholeRow
namespace Go.Proofs.YtimgkbpiengnjaaGreatDoor.Ln
open Go.ChangeShapes Go.WideShapes Go.ChangeAt Go.RowKit

def crlfB : ByteArray := ⟨#[13, 10]⟩
set_option maxHeartbeats 4000000 in
set_option maxRecDepth 1000000 in
theorem makeSet_calls (w : World) : Calls Tryz.prog 32 #[.string ⟨#[13, 10]⟩] w fun e w' => e = .returned (.tuple #[.agg (Lib.setCells [13, 10]), .bool true]) ∧ w' = w.alloc (.cells (Lib.setCells [13, 10]) 70) := by
  have hz : ∀ w, (zeroValue 70).run Tryz.prog w = .ok (.agg (Array.replicate 256 (.bool false))) w := fun w => by kernel_rfl
  go_enter Tryz.func32, Tryz.ntmps32
  go_wp2
  rw [← Lib.setCells_nil]
  go_loopg [4, 5] 2 (fun g s4 _ wx => ∃ i : Nat, i + g = 2 ∧ s4 = .int .i64 i ∧ wx = w.alloc (.cells (Lib.setCells (([13, 10] : List UInt8).take i)) 70))
  case atStart => exact ⟨0, by omega, rfl, rfl⟩
  case round =>
    obtain ⟨i, hig, rfl, rfl⟩ := hrel
    have hi3 : i = 0 ∨ i = 1 ∨ i = 2 := by omega
    rcases hi3 with rfl | rfl | rfl
    · have hcell := Lib.setCells_at [] 13
      go_wp2
      go_roundg (gk - 1)
      case measure => omega
      case rel => exact ⟨1, by omega, by first | rfl | simp, by rfl⟩
    · have hcell := Lib.setCells_at [13] 10
      go_wp2
      go_roundg (gk - 1)
      case measure => omega
      case rel => exact ⟨2, by omega, by first | rfl | simp, by rfl⟩
    · show Code.wp _ _ _ _ _
      have e : ([13, 10] : List UInt8).take 2 = [13, 10] := rfl
      rw [e]
      clear hz
      have hsz := Lib.setCells_size [13, 10]
      have hinfo : (Tryz.prog.info? 70).map (·.size) = some 256 := by kernel_rfl
      have Hsz := Lib.hid hsz
      have Hinfo := Lib.hid hinfo
      have Hone := Lib.hid (Lib.setCells_one [13, 10])
      clear hsz hinfo
      have Hld := Lib.hid (run_loadVar_new (P := Tryz.prog) w 70 (Lib.setCells [13, 10]) 256 4 Tryz.underlying70 (by rw [Hsz.out]; exact Hinfo.out))
      have Hsc := Lib.hid (run_storeCells_new (P := Tryz.prog) w 70 (Lib.setCells [13, 10]) (Lib.setCells [13, 10]) (by rw [Hsz.out]; exact Hinfo.out) rfl Hone.out)
      generalize hS : Lib.setCells [13, 10] = S at *
      have HS := Lib.hid hS
      clear hS
      go_wp2
      refine wp_load_row 70 _ rfl w.heap.size rfl 70 S (0, 0) _ (heap_alloc_last w _) Tryz.underlying70 rfl (by rw [Hsz.out]; exact Hinfo.out) ?_
      go_wp2
      simp only [Hsc.out, Result.andThen]
      rw [Oper.upon_skip]
      go_wp2
      (try simp only [Exit.inBlock, Exit.then])
      refine bodyPost_ret (v := .tuple #[.agg S, .bool true]) ?_ rfl ⟨by rw [HS.out], by rw [HS.out]⟩
      rw [results_cell_tmp rfl]
      have hld := Hld.out
      simp [asAddr, Result.andThen, hld]
end Go.Proofs.YtimgkbpiengnjaaGreatDoor.Ln
