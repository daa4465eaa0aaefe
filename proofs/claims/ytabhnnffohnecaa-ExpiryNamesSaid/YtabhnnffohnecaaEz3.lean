/- ExpiryNames. No condition. -/
import Derived.Test.YtabhnnffohnecaaEz1
import Derived.Deep.RegionHeld3
namespace Go.Proofs.Ytabhnnffohnecaa.Ea
open Go.ChangeShapes Go.WideShapes Go.ChangeAt Go.RowKit Go.Maps Go.WideMaps
theorem eqlD_same (w : World) (z : Int) (x : ByteArray) : (binOp .eql 26 (.agg #[.int .i64 z, .string x]) (.agg #[.int .i64 z, .string x])).run Try.prog w = .ok (.bool true) w := by
  have hS : Try.prog.underlying 26 = some (.struct (Try.prog.fieldsOf 26)) := by kernel_rfl
  have hp : Try.prog.stoodInHeld 26 = false := by kernel_rfl
  rw [run_eql_struct, show (10000 : Nat) = 9999 + 1 from rfl, run_equalIn_agg w 9999 26 _ _ hS hp]
  have u1 : Try.prog.underlying 9 = some .string := by kernel_rfl
  have u2 : Try.prog.underlying 2 = some (.int .i64) := by kernel_rfl
  have uM := Try.underlying26
  simp only [Program.fieldsOf, uM]
  go_simp
set_option maxHeartbeats 8000000 in
set_option maxRecDepth 100000 in
theorem expiryNames (w : World) : Calls Try.prog 3 #[] w fun e w' => e = .returned (.bool true) ∧ Below w.heap.size w w' := by
  have HA := Lib.hid (expiryAlive w)
  have HM : Hid (∀ n, n ≤ 1000 → n ≤ maxLen) := Lib.hid fun n hn => by unfold maxLen; omega
  go_enter Try.func3, Try.ntmps3
  go_wp2_with fail
  refine HA.out.mono ?_; rintro en w2 ⟨rfl, hb2⟩
  have HB2 := Lib.hid hb2
  have HN := Lib.hid (ec_new w2 w2 (Below.refl _ _))
  clear hb2 HA
  go_wp2_with fail
  refine HN.out.mono ?_; rintro en w3 ⟨T, rfl, h3⟩
  have HNx := Lib.hid h3.next
  rw [show (([] : List Du).headD (0, ⟨#[]⟩)).1 = 0 from rfl, show (([] : List Du).headD (0, ⟨#[]⟩)).2 = ⟨#[]⟩ from rfl, show decide (0 < ([] : List Du).length) = false from rfl] at HNx
  have H3 := Lib.hid h3
  clear h3 HN
  go_wp2_with fail
  refine HNx.out.mono ?_; rintro en w4 ⟨rfl, hb4⟩
  have h4 := (H3.out.bel hb4).guard (bbox (.cells #[.int .i64 0, .string ⟨#[]⟩] 26)) (x := w4.heap.size) (Nat.le_refl _) (by simp)
  have y0 : (w4.alloc (.cells #[.int .i64 0, .string ⟨#[]⟩] 26)).cell? ⟨w4.heap.size, 0, none⟩ = some (.int .i64 0) := by rw [World.cell?_alloc_new]; rfl
  have y1 : (w4.alloc (.cells #[.int .i64 0, .string ⟨#[]⟩] 26)).cell? ⟨w4.heap.size, 0 + 1, none⟩ = some (.string ⟨#[]⟩) := by rw [World.cell?_alloc_new]; rfl
  have H4 := Lib.hid h4
  clear hb4 h4 HNx H3
  go_wp2_with fail
  generalize w4.alloc (.cells #[.int .i64 0, .string ⟨#[]⟩] 26) = w5 at *
  generalize w4.heap.size = bd at *
  have P1 := Lib.hid (H4.out.put ⟨#[97]⟩ (HM.out _ (by decide)) (-1) (by decide))
  rw [show errT (-1) = 111 by decide, show putT ⟨#[97]⟩ (-1) [] = [] by decide] at P1
  have he := eqlD_same
  refine P1.out.mono ?_; rintro en w6 ⟨rfl, h6, hk6⟩
  have y0 := hk6.cell (.inr rfl) y0
  have y1 := hk6.cell (.inr rfl) y1
  have P2 := Lib.hid (h6.put ⟨#[97]⟩ (HM.out _ (by decide)) 4611686018427387905 (by decide))
  rw [show errT 4611686018427387905 = 111 by decide, show putT ⟨#[97]⟩ 4611686018427387905 [] = [] by decide] at P2
  clear h6 hk6 P1 H4
  go_wp2_with fail
  refine P2.out.mono ?_; rintro en w7 ⟨rfl, h7, hk7⟩
  have y0 := hk7.cell (.inr rfl) y0
  have y1 := hk7.cell (.inr rfl) y1
  have P3 := Lib.hid (h7.put ⟨#[97]⟩ (HM.out _ (by decide)) 4611686018427387904 (by decide))
  rw [show errT 4611686018427387904 = 0 by decide] at P3
  clear h7 hk7 P2
  go_wp2_with fail
  refine P3.out.mono ?_; rintro en w8 ⟨rfl, h8, hk8⟩
  have y0 := hk8.cell (.inr rfl) y0
  have y1 := hk8.cell (.inr rfl) y1
  have he0 := fun W => he W 0 ⟨#[]⟩
  have HB8 := Lib.hid (HB2.out.trans (h8.below.mono HB2.out.size))
  clear h8 hk8 P3 he
  go_wp2_with fail
  go_ret
  exact ⟨rfl, HB8.out⟩
end Go.Proofs.Ytabhnnffohnecaa.Ea
