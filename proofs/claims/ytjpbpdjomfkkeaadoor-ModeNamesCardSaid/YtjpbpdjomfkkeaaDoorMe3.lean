/- ModeNames. No condition. -/
import Derived.Test.YtjpbpdjomfkkeaaDoorMe2
namespace Go.Proofs.YtjpbpdjomfkkeaaDoor.Ma
set_option linter.unusedVariables false
set_option linter.unusedSimpArgs false
open Go.ChangeShapes Go.WideShapes Go.ChangeAt Go.RowKit
open Go.Proofs.YtjpbpdjomfkkeaaDoor.Sp (bstep bbox Hp Th cellsT rowT)
set_option maxHeartbeats 16000000 in
set_option maxRecDepth 100000 in
theorem modeNames (w : World) (hX : MCtx w) :
    Calls Tryd.prog 3 #[] w fun e w' => e = .returned (.bool true) ∧ Below w.heap.size w w' := by
  have HX := Lib.hid hX
  clear hX
  have HA := Lib.hid (fun W (hW : Below w.heap.size w W) => alive_calls W (HX.out.below hW))
  have HP0 := Lib.hid (parse_calls w none 0 0 [] HX.out (InS.nil _ _) rfl (Nat.le_refl _) (by omega) (by omega) (by simp) zero 131 p_n0)
  have HP1 := Lib.hid (fun W b (hbb : W.heap.size = b) (hW : Below w.heap.size w W) => lit_calls W b hbb [mk [111, 110], mk [112, 114, 101, 102, 105, 120]] #[.string ⟨#[111, 110]⟩, .string ⟨#[112, 114, 101, 102, 105, 120]⟩] rfl 9 2 rfl (by omega) (HX.out.below hW) (sizes_ok _ rfl) zero 131 p_n1)
  have HP2 := Lib.hid (fun W b (hbb : W.heap.size = b) (hW : Below w.heap.size w W) => lit_calls W b hbb [mk [111, 110], mk [112, 114, 101, 102, 105, 120], mk [97]] #[.string ⟨#[111, 110]⟩, .string ⟨#[112, 114, 101, 102, 105, 120]⟩, .string ⟨#[97]⟩] rfl 9 3 rfl (by omega) (HX.out.below hW) (sizes_ok _ rfl) zero 132 p_n2)
  have HP3 := Lib.hid (fun W b (hbb : W.heap.size = b) (hW : Below w.heap.size w W) => lit_calls W b hbb [mk [111, 110], mk [98, 99, 97, 115, 116]] #[.string ⟨#[111, 110]⟩, .string ⟨#[98, 99, 97, 115, 116]⟩] rfl 9 2 rfl (by omega) (HX.out.below hW) (sizes_ok _ rfl) mE 0 p_n3)
  have HP4 := Lib.hid (fun W b (hbb : W.heap.size = b) (hW : Below w.heap.size w W) => lit_calls W b hbb [mk [111, 110], mk [98, 99, 97, 115, 116], mk [112, 114, 101, 102, 105, 120], mk [97], mk [112, 114, 101, 102, 105, 120], mk [97, 98]] #[.string ⟨#[111, 110]⟩, .string ⟨#[98, 99, 97, 115, 116]⟩, .string ⟨#[112, 114, 101, 102, 105, 120]⟩, .string ⟨#[97]⟩, .string ⟨#[112, 114, 101, 102, 105, 120]⟩, .string ⟨#[97, 98]⟩] rfl 9 6 rfl (by omega) (HX.out.below hW) (sizes_ok _ rfl) zero 132 p_n4)
  go_enter Tryd.func3, Tryd.ntmps3
  go_wp2_with fail
  refine HP0.out.mono ?_
  rintro e w1 ⟨v, rfl, hR⟩
  obtain ⟨ra, rc, rfl, -, -, -, -⟩ := hR.slice
  have HB1 := Lib.hid hR.bel
  clear hR HP0
  simp only [mVv, zero]
  go_upto_region 2 with fail
  have HC1 := Lib.hid (fun O => bstep HB1.out (bbox O))
  have HQ1 := Lib.hid (fun O => HP1.out (w1.alloc O) (w1.heap.size + 1) (by simp) (HC1.out O))
  clear HP1
  go_wp2_with fail
  refine (HQ1.out _).mono ?_
  rintro e w2 ⟨v, rfl, hR⟩
  obtain ⟨qa1, qc1, rfl, -, -, -, -⟩ := hR.slice
  have HB2 := Lib.hid (bstep (HC1.out _) hR.bel)
  clear hR HQ1
  simp only [mVv, zero]
  go_upto_region 3 with fail
  have HC2 := Lib.hid (fun O => bstep HB2.out (bbox O))
  have HQ2 := Lib.hid (fun O => HP2.out (w2.alloc O) (w2.heap.size + 1) (by simp) (HC2.out O))
  clear HP2
  go_wp2_with fail
  refine (HQ2.out _).mono ?_
  rintro e w3 ⟨v, rfl, hR⟩
  obtain ⟨qa2, qc2, rfl, -, -, -, -⟩ := hR.slice
  have HB3 := Lib.hid (bstep (HC2.out _) hR.bel)
  clear hR HQ2
  simp only [mVv, zero]
  go_upto_region 4 with fail
  have HC3 := Lib.hid (fun O => bstep HB3.out (bbox O))
  have HQ3 := Lib.hid (fun O => HP3.out (w3.alloc O) (w3.heap.size + 1) (by simp) (HC3.out O))
  clear HP3
  go_wp2_with fail
  refine (HQ3.out _).mono ?_
  rintro e w4 ⟨v, rfl, hR⟩
  obtain ⟨g, c, rfl⟩ := hR.some' (by simp [mE])
  obtain ⟨-, hc1, hc2, hcell⟩ := hR.form
  have HR4 := Lib.hid hR
  have d0 : w4.cell? ⟨g, 0, none⟩ = some (.string (mk [])) := hcell 0 (by simp [mE])
  have HB4 := Lib.hid (bstep (HC3.out _) hR.bel)
  clear hR hcell HQ3
  simp only [mVv, mE]
  have HD4 := Lib.hid (CellL.new w4 [.bool true, .bool true, .bool false, .bool false, .bool false, .int .i64 0, .slice (some ⟨g, 0, none⟩) 1 c] 24)
  go_upto_region 5 with fail
  have HC4 := Lib.hid (fun O => bstep HB4.out (bbox O))
  have HQ4 := Lib.hid (fun O => HP4.out (w4.alloc O) (w4.heap.size + 1) (by simp) (HC4.out O))
  clear HP4
  go_wp2_with fail
  refine (HQ4.out _).mono ?_
  rintro e w5 ⟨v, rfl, hR⟩
  obtain ⟨qa4, qc4, rfl, -, -, -, -⟩ := hR.slice
  have HB5 := Lib.hid (bstep (HC4.out _) hR.bel)
  have HD5 := Lib.hid (HD4.out.below hR.bel)
  have d1 : w5.cell? ⟨g, 0, none⟩ = some (.string (mk [])) := (hR.bel.cell (p := ⟨g, 0, none⟩) (by have h : g < w4.heap.size := World.block_lt_of_cell? w4 _ d0; show g < _; simp; omega)).trans (((bbox _).cell (p := ⟨g, 0, none⟩) (World.block_lt_of_cell? w4 _ d0)).trans d0)
  clear hR HQ4
  simp only [mVv, zero]
  go_upto_region 6 with fail
  have HD6 := Lib.hid (fun O => HD5.out.below (bbox O))
  have HB6 := Lib.hid (fun O => bstep HB5.out (bbox O))
  have HE6 : Hid (∀ O, (w5.alloc O).cell? ⟨g, 0, none⟩ = some (.string (mk []))) := Lib.hid (fun O => ((bbox (w := w5) O).cell (p := ⟨g, 0, none⟩) (World.block_lt_of_cell? w5 _ d1)).trans d1)
  clear d0 d1 HD4 HD5 HC1 HC2 HC3 HC4 HR4
  go_wp2_with fail
  refine (HA.out _ (HB6.out _)).mono ?_
  rintro e w7 ⟨rfl, hb7⟩
  have HD7 := Lib.hid ((HD6.out _).below hb7)
  have HB7 := Lib.hid (bstep (HB6.out _) hb7)
  have e0 : w7.cell? ⟨g, 0, none⟩ = some (.string (mk [])) := (hb7.cell (p := ⟨g, 0, none⟩) (World.block_lt_of_cell? _ _ (HE6.out _))).trans (HE6.out _)
  have HCa : Hid (∀ W, Calls Tryd.prog 10 #[.agg #[.bool true, .bool true, .bool false, .bool false, .bool false, .int .i64 0, .slice (some ⟨g, 0, none⟩) 1 c], .bool true] W fun e w' => e = .returned (.int .i64 132) ∧ Below W.heap.size W w') := Lib.hid (fun W => caching_calls W mE (some ⟨g, 0, none⟩) c true 132 rfl)
  have HTr : Hid (∀ W, Calls Tryd.prog 11 #[.agg #[.bool true, .bool true, .bool false, .bool false, .bool false, .int .i64 0, .slice (some ⟨g, 0, none⟩) 1 c], .int .i64 1] W fun e w' => e = .returned (.bool false) ∧ Below W.heap.size W w') := Lib.hid (fun W => tracks_calls W mE (some ⟨g, 0, none⟩) c 1 false rfl)
  have he : ((mk []).toList == []) = true := by rw [tl_toList]; rfl
  clear hb7 HD6 HE6 HB6 HA
  have x0 := HD7.out.at 0 rfl
  have x1 := HD7.out.at 1 rfl
  have x2 := HD7.out.at 2 rfl
  have x3 := HD7.out.at 3 rfl
  have x4 := HD7.out.at 4 rfl
  have x5 := HD7.out.at 5 rfl
  have x6 := HD7.out.at 6 rfl
  go_wp2_with fail
  refine (HCa.out _).mono ?_
  rintro e w8 ⟨rfl, hb8⟩
  have HD8 := Lib.hid (HD7.out.below hb8)
  have HB8 := Lib.hid (bstep HB7.out hb8)
  clear hb8 x0 x1 x2 x3 x4 x5 x6 HD7 HB7 e0
  have x0 := HD8.out.at 0 rfl
  have x1 := HD8.out.at 1 rfl
  have x2 := HD8.out.at 2 rfl
  have x3 := HD8.out.at 3 rfl
  have x4 := HD8.out.at 4 rfl
  have x5 := HD8.out.at 5 rfl
  have x6 := HD8.out.at 6 rfl
  go_wp2_with fail
  refine (HTr.out _).mono ?_
  rintro e w9 ⟨rfl, hb9⟩
  have HB9 := Lib.hid (bstep HB8.out hb9)
  clear hb9
  go_wp2_with fail
  go_ret
  exact ⟨rfl, HB9.out⟩
end Go.Proofs.YtjpbpdjomfkkeaaDoor.Ma
