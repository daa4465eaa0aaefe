/- ItemNames. No condition but what start-up lays. -/
import Derived.Test.YtfljonmfkjblhaaGreatDoorIg1
import Derived.Laws.MakeOwn
import Derived.Laws.IdiomStrings
namespace Go.Proofs.YtfljonmfkjblhaaGreatDoor.Ia
set_option linter.unusedVariables false
set_option linter.unusedSimpArgs false
open Go.ChangeShapes Go.WideShapes Go.ChangeAt Go.RowKit
theorem split_none (n : ByteArray) : Split n [] [] [] [] := ⟨rfl, by simp, by simp, Nat.zero_le _, by simp⟩
theorem sum_hash (t : ByteArray) (n : Int) : sumOf 2 t n = (0, 91) := by unfold sumOf; rw [if_neg (by decide), if_neg (by decide)]
theorem wp_x : Num.wp (⟨#[120]⟩ : ByteArray).data.toList = (0, 11) := by decide
theorem sum_x (n : Int) : sumOf 1 ⟨#[120]⟩ n = (0, 92) := by unfold sumOf; rw [if_neg (by decide), if_pos rfl, wp_x]; rfl
theorem iU8 : (Tryz.prog.info? 5).map (fun i => (i.zero, i.size, i.bytes)) = some (some (.int .u8 0), 1, 1) := by kernel_rfl
/-- So many noughts: as cells, as a text. -/
def zs : Array Value := madeCells #[.int .u8 0] 4097
def zT : ByteArray := ⟨(List.replicate 4097 (0 : UInt8)).toArray⟩
theorem zT_size : zT.size = 4097 := by
  show (List.replicate 4097 (0 : UInt8)).toArray.size = 4097
  rw [List.size_toArray, List.length_replicate]
theorem zs_at (j : Nat) (hj : j < 4097) : zs[j]? = some (.int .u8 0) := by
  unfold zs madeCells
  rw [Array.getElem?_map, Array.getElem?_range, if_pos hj]
  show some ((#[Value.int .u8 0] : Array Value)[j % 1]!) = _
  rw [Nat.mod_one]
  rfl
theorem mk_zs (w : World) : (Instr.makeSlice 35 (.int .i64 4097) (.int .i64 4097)).run Tryz.prog w = .ok (.slice (some ⟨w.heap.size, 0, none⟩) 4097 4097) (w.alloc (.cells zs 5)) := by
  obtain ⟨i0, hi, hz0, hz1, hz2⟩ := info_parts iU8
  have h := run_make (P := Tryz.prog) w 35 5 i0 (.int .u8 0) Tryz.underlying35 hi hz0 .i64 .i64 4097 4097 (by omega) (by omega) (by rw [hz2]; omega) (by omega)
  rw [hz1] at h
  exact h
theorem conv_zs (w : World) : (convert 35 9 (.slice (some ⟨w.heap.size, 0, none⟩) 4097 4097)).run Tryz.prog (w.alloc (.cells zs 5)) = .ok (.string zT) (w.alloc (.cells zs 5)) := by
  have h := run_convert_bytes_back (P := Tryz.prog) (w.alloc (.cells zs 5)) 35 9 5 ⟨w.heap.size, 0, none⟩ 4097 (List.replicate 4097 (0 : UInt8)) Tryz.underlying35 Tryz.underlying5 Tryz.underlying9 (fun j hj => by
    have hj' : j < 4097 := by rwa [List.length_replicate] at hj
    rw [List.getElem_replicate, Addr.add_lit, Nat.zero_add, World.cell?_alloc_new, zs_at j hj']
    rfl)
  rw [List.length_replicate] at h
  exact h
set_option maxRecDepth 100000 in
set_option maxHeartbeats 8000000 in
theorem itemNames (w : World) (hc : Ctx w) : Calls Tryz.prog 3 #[] w fun e w' => e = .returned (.bool true) ∧ Below w.heap.size w w' := by
  have HP := Lib.hid (put_fits w 0 ⟨#[]⟩ none 0 0 ⟨#[102]⟩ ⟨#[118]⟩ [] [] [] [] (split_none _) rfl (by simp) (by omega) (by simp) (InF.nil _ _) (.inl rfl) ⟨⟨by decide, by decide⟩, .inr (by simp)⟩)
  have HK := Lib.hid (fun W (h : Below w.heap.size w W) => hc.below h)
  rw [show there [] = false from rfl] at HP
  clear hc
  go_enter Tryz.func3, Tryz.ntmps3
  go_wp2_with fail
  refine HP.out.mono ?_
  rintro e w2 ⟨v, rfl, hv, hb⟩
  obtain ⟨a1, c1, rfl, hl1, hm1, hI1⟩ := hv
  have HB2 := Lib.hid hb
  have hbx := bbox (w := w2) (.cells #[.int .i64 2, .string ⟨#[]⟩, .slice a1 1 c1] 24)
  have HB3 := Lib.hid (bstep hb hbx)
  have HI3 := Lib.hid (hI1.below (Nat.le_refl _) hbx)
  have HX := Lib.hid (Cell3.new w2 (.int .i64 2) (.string ⟨#[]⟩) (.slice a1 1 c1) 24)
  have HE1 := Lib.hid (add_err _ (HK.out _ HB3.out) 2 ⟨#[]⟩ a1 c1 1 [((⟨#[102]⟩ : ByteArray), (⟨#[118]⟩ : ByteArray))] rfl (by simp) HI3.out 1 (by omega) (by omega) (by decide) 0 91 (sum_hash _ _) (by decide))
  clear hb hbx hI1 HP
  have x0 := HX.out.c0
  have x1 := HX.out.c1
  have x2 := HX.out.c2
  go_wp2_with fail
  refine HE1.out.mono ?_
  rintro e w3 ⟨v, rfl, hv, hb⟩
  obtain ⟨a2, c2, rfl, -, -, -⟩ := hv
  have HX4 := Lib.hid (HX.out.below hb)
  have HI4 := Lib.hid (HI3.out.below (Nat.le_refl _) hb)
  have HB4 := Lib.hid (bstep HB3.out hb)
  clear hb x0 x1 x2 HX HI3 HE1 HB3 HB2
  generalize w2.heap.size = b1 at *
  have HE2 := Lib.hid (fun O => add_err (w3.alloc O) (HK.out _ (bstep HB4.out (bbox O))) 1 ⟨#[120]⟩ none 0 0 [] rfl (by simp) (InF.nil _ _) 1 (by omega) (by omega) (by decide) 0 92 (sum_x _) (by decide))
  go_wp2_with fail
  refine (HE2.out _).mono ?_
  rintro e w4 ⟨v, rfl, hv, hb⟩
  obtain ⟨a3, c3, rfl, -, -, -⟩ := hv
  have hb5 := bstep (bbox (w := w3) _) hb
  have HX5 := Lib.hid (HX4.out.below hb5)
  have HI5 := Lib.hid (HI4.out.below (Nat.le_refl _) hb5)
  have HB5 := Lib.hid (bstep HB4.out hb5)
  clear hb hb5 HX4 HI4 HB4 HE2
  generalize w3.heap.size = b2 at *
  have HE3 := Lib.hid (fun O => addReal_inf (w4.alloc O) 4607182418800017408)
  unfold infT at HE3
  go_wp2_with fail
  refine (HE3.out _).mono ?_
  rintro e w5 ⟨v, rfl, hv, hb⟩
  obtain ⟨a4, c4, rfl, -, -, -⟩ := hv
  have hb6 := bstep (bbox (w := w4) _) hb
  have HX6 := Lib.hid (HX5.out.below hb6)
  have HI6 := Lib.hid (HI5.out.below (Nat.le_refl _) hb6)
  have HB6 := Lib.hid (bstep HB5.out hb6)
  clear hb hb6 HX5 HI5 HB5 HE3
  generalize w4.heap.size = b3 at *
  have hmk := fun W => mk_zs W
  have hcv : ∀ O, (convert 35 9 (.slice (some ⟨w5.heap.size + 1, 0, none⟩) 4097 4097)).run Tryz.prog ((w5.alloc O).alloc (.cells zs 5)) = .ok (.string zT) ((w5.alloc O).alloc (.cells zs 5)) := fun O => by
    have h := conv_zs (w5.alloc O)
    rw [World.size_alloc] at h
    exact h
  have HAp := Lib.hid (fun W => app_big W zT zT_size)
  have HCo := Lib.hid (fun W (hI : InF W a1 [((⟨#[102]⟩ : ByteArray), (⟨#[118]⟩ : ByteArray))]) => cost_hash W ⟨#[107]⟩ ⟨#[]⟩ a1 c1 1 [((⟨#[102]⟩ : ByteArray), (⟨#[118]⟩ : ByteArray))] rfl (by decide) (by decide) (by simp) hI)
  generalize zs = Z at *
  generalize zT = tz at *
  go_wp2_with fail
  refine (HAp.out _).mono ?_
  rintro e w6 ⟨v, rfl, hv, hb⟩
  obtain ⟨a5, c5, rfl, -, -, -⟩ := hv
  have hb7 := bstep (bstep (bbox (w := w5) _) (bbox _)) hb
  have HX7 := Lib.hid (HX6.out.below hb7)
  have HI7 := Lib.hid (HI6.out.below (Nat.le_refl _) hb7)
  have HB7 := Lib.hid (bstep HB6.out hb7)
  have HBx := Lib.hid (fun O => bbox (w := w6) O)
  have HAl := Lib.hid (fun O => alive_calls (w6.alloc O) (HK.out _ (bstep HB7.out (HBx.out O))))
  clear hb hb7 HX6 HI6 HB6 HAp hmk hcv
  generalize w5.heap.size = b4 at *
  go_wp2_with fail
  refine (HAl.out _).mono ?_
  rintro e w7 ⟨rfl, hb⟩
  have hb8 := bstep (HBx.out _) hb
  have HX8 := Lib.hid (HX7.out.below hb8)
  have HI8 := Lib.hid (HI7.out.below (Nat.le_refl _) hb8)
  have HB8 := Lib.hid (bstep HB7.out hb8)
  clear hb hb8 HX7 HI7 HB7 HAl
  generalize w6.heap.size = b5 at *
  have x0 := HX8.out.c0
  have x1 := HX8.out.c1
  have x2 := HX8.out.c2
  have HC := Lib.hid (HCo.out _ HI8.out)
  go_wp2_with fail
  refine HC.out.mono ?_
  rintro e w8 ⟨rfl, hb⟩
  have HB9 := Lib.hid (bstep HB8.out hb)
  go_wp2_with fail
  go_ret
  exact ⟨rfl, HB9.out⟩
end Go.Proofs.YtfljonmfkjblhaaGreatDoor.Ia
