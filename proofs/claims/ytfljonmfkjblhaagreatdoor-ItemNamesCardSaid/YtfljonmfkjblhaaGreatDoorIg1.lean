/- item.AddReal at a text's item that has the word of what is infinite. No condition. -/
import Derived.Test.YtfljonmfkjblhaaGreatDoorIc8
import Derived.Test.YtfljonmfkjblhaaGreatDoorIa7
import Derived.Laws.Bits64b
import Derived.Laws.FloatBits
namespace Go.Proofs.YtfljonmfkjblhaaGreatDoor.Ia
set_option linter.unusedVariables false
set_option linter.unusedSimpArgs false
open Go.ChangeShapes Go.WideShapes Go.ChangeAt Go.RowKit
@[go_sem] theorem ig_bits (b : Nat) (w : World) : (callFunc 42 #[.float .f64 b]).run Tryz.prog w = .ok (.value (.int .u64 (b : Int))) w := by
  rw [run_callFunc_extern Tryz.func42 (by kernel_rfl) (by kernel_rfl) (by kernel_rfl) (e := Extern.MathFloatBits.float64bits) (by kernel_rfl)]; rfl
@[go_sem] theorem ig_from (n : Int) (w : World) : (callFunc 39 #[.int .u64 n]).run Tryz.prog w = .ok (.value (.float .f64 n.toNat)) w := by
  rw [run_callFunc_extern Tryz.func39 (by kernel_rfl) (by kernel_rfl) (by kernel_rfl) (e := Extern.MathFloatBits.float64frombits) (by kernel_rfl)]; rfl
theorem ig_andnot : bits .andNot .u64 9218868437227405312 9223372036854775808 = 9218868437227405312 := by decide
def infT : ByteArray := ⟨#[105, 110, 102]⟩
set_option maxRecDepth 100000 in
set_option maxHeartbeats 4000000 in
theorem parse_inf (w : World) : Calls Tryz.prog 28 #[.string infT] w fun e w' => e = .returned (.tuple #[.float .f64 9218868437227405312, .int .i64 0]) ∧ w = w' := by
  have h1 : (infT.toList == [105, 110, 102]) = true := by rw [ByteArray.toList_eq]; rfl
  generalize infT = s at *
  go_enter Tryz.func28, Tryz.ntmps28
  go_wp2_with fail
  go_ret2
  exact ⟨rfl, rfl⟩
set_option maxRecDepth 100000 in
set_option maxHeartbeats 4000000 in
theorem abs_inf (w : World) : Calls Tryz.prog 34 #[.float .f64 9218868437227405312] w fun e w' => e = .returned (.float .f64 9218868437227405312) ∧ w = w' := by
  have ha := ig_andnot
  go_enter Tryz.func34, Tryz.ntmps34
  go_wp2_with fail
  go_ret
  exact ⟨rfl, rfl⟩
set_option maxRecDepth 100000 in
set_option maxHeartbeats 4000000 in
theorem isInf_inf (w : World) : Calls Tryz.prog 29 #[.float .f64 9218868437227405312, .int .i64 0] w fun e w' => e = .returned (.bool true) ∧ w = w' := by
  have hgt : (FloatKind.f64.format.order 9218868437227405312 9218868437227405311 == some .gt) = true := by decide
  go_enter Tryz.func29, Tryz.ntmps29
  go_wp2_with fail
  refine (abs_inf _).mono ?_
  rintro e w3 ⟨rfl, rfl⟩
  go_wp2_with fail
  go_ret
  exact ⟨rfl, rfl⟩
set_option maxRecDepth 100000 in
set_option maxHeartbeats 4000000 in
theorem realSum_inf (w : World) (v : Value) (f : Nat) : Calls Tryz.prog 17 #[.agg #[.int .i64 1, .string infT, v], .float .f64 f] w fun e w' => e = .returned (.tuple #[.float .f64 0, .int .i64 93]) ∧ Below w.heap.size w w' := by
  have HT := Lib.hid (fun W => textOf_calls W 1 infT ⟨#[48]⟩ v infT 0 rfl)
  have HP := Lib.hid (fun W => parse_inf W)
  have HF := Lib.hid (fun W => isInf_inf W)
  generalize infT = s at *
  go_enter Tryz.func17, Tryz.ntmps17
  go_wp2_with fail
  refine (HT.out _).mono ?_
  rintro e w2 ⟨rfl, hb⟩
  have HB := Lib.hid (bstep (bbox _) hb)
  clear hb
  go_wp2_with fail
  refine (HP.out _).mono ?_
  rintro e w3 ⟨rfl, rfl⟩
  go_wp2_with fail
  refine (HF.out _).mono ?_
  rintro e w4 ⟨rfl, rfl⟩
  go_wp2_with fail
  go_ret2
  exact ⟨rfl, HB.out⟩
set_option maxHeartbeats 8000000 in
set_option maxRecDepth 100000 in
theorem addReal_inf (w : World) (f : Nat) :
    Calls Tryz.prog 6 #[.agg #[.int .i64 1, .string infT, .slice none 0 0], .float .f64 f] w fun e w' => ∃ v, e = .returned (.tuple #[v, .string ⟨#[]⟩, .int .i64 93]) ∧ ItV w' v ⟨1, infT, []⟩ ∧ Below w.heap.size w w' := by
  have HS := Lib.hid (fun W => realSum_inf W (.slice none 0 0) f)
  have HCp := Lib.hid (fun W => copy_calls W 1 infT none 0 0 [] rfl (InF.nil _ _) (by simp))
  have HC := Lib.hid (fun O => (Cell3.new w (.int .i64 1) (.string infT) (.slice none 0 0) 24).alloc O)
  have HD := Lib.hid (fun O => Cell3.new2 (w.alloc O) (w.heap.size + 1) (by simp) (.int .i64 0) (.string ⟨#[]⟩) (.slice none 0 0) 24)
  generalize infT = s at *
  go_enter Tryz.func6, Tryz.ntmps6
  go_wp2_with fail
  refine (HS.out _).mono ?_
  rintro e w2 ⟨rfl, hb⟩
  have HB := Lib.hid (bstep (bstep (bbox _) (bbox _)) hb)
  have HC2 := Lib.hid ((HC.out _).below hb)
  have HD2 := Lib.hid ((HD.out _).below hb)
  have c0 := HC2.out.c0
  have c1 := HC2.out.c1
  have c2 := HC2.out.c2
  clear hb
  go_wp2_with fail
  refine (HCp.out _).mono ?_
  rintro e w3 ⟨v, rfl, hR⟩
  have HD3 := Lib.hid (HD2.out.below hR.bel)
  have d0 := HD3.out.c0
  have d1 := HD3.out.c1
  have d2 := HD3.out.c2
  have g0 := HD3.out.f 0 (by omega)
  have g1 := HD3.out.f 1 (by omega)
  have g2 := HD3.out.f 2 (by omega)
  obtain ⟨sa, sc, rfl, -, -, -⟩ := hR.slice
  have hRs := hR.sets3 (wa := w) (b := w.heap.size + 1) (by omega) HD2.out.lt HB.out
  have HRs := Lib.hid hRs
  clear hR hRs
  go_wp2_with fail
  exact bodyPost_ret (v := .tuple #[.agg #[.int .i64 1, .string s, .slice sa 0 sc], .string ⟨#[]⟩, .int .i64 93]) (by simp [results, Tryz.results6, go_sem, d0, d1, d2]) rfl
    ⟨_, rfl, (HRs.out _ _ _).itv 1 s, (HRs.out _ _ _).bel⟩
set_option maxHeartbeats 8000000 in
set_option maxRecDepth 100000 in
theorem app_big (w : World) (s : ByteArray) (hs : s.size = 4097) :
    Calls Tryz.prog 7 #[.agg #[.int .i64 0, .string ⟨#[]⟩, .slice none 0 0], .string s] w fun e w' => ∃ v, e = .returned (.tuple #[v, .int .i64 94]) ∧ ItV w' v ⟨0, ⟨#[]⟩, []⟩ ∧ Below w.heap.size w w' := by
  have HT := Lib.hid (fun W => textOf_calls W 0 ⟨#[]⟩ ⟨#[]⟩ (.slice none 0 0) ⟨#[]⟩ 0 rfl)
  have HCp := Lib.hid (fun W => copy_calls W 0 ⟨#[]⟩ none 0 0 [] rfl (InF.nil _ _) (by simp))
  have HC := Lib.hid (fun O => (Cell3.new w (.int .i64 0) (.string ⟨#[]⟩) (.slice none 0 0) 24).alloc O)
  have HD := Lib.hid (fun O => Cell3.new2 (w.alloc O) (w.heap.size + 1) (by simp) (.int .i64 0) (.string ⟨#[]⟩) (.slice none 0 0) 24)
  have hb : (4096 : Int) < (s.size : Int) := by omega
  go_enter Tryz.func7, Tryz.ntmps7
  go_wp2_with fail
  refine (HT.out _).mono ?_
  rintro e w2 ⟨rfl, hb2⟩
  have HB := Lib.hid (bstep (bstep (bbox _) (bbox _)) hb2)
  have HC2 := Lib.hid ((HC.out _).below hb2)
  have HD2 := Lib.hid ((HD.out _).below hb2)
  have c0 := HC2.out.c0
  have c1 := HC2.out.c1
  have c2 := HC2.out.c2
  clear hb2
  go_wp2_with fail
  refine (HCp.out _).mono ?_
  rintro e w3 ⟨v, rfl, hR⟩
  have HD3 := Lib.hid (HD2.out.below hR.bel)
  have d0 := HD3.out.c0
  have d1 := HD3.out.c1
  have d2 := HD3.out.c2
  have g0 := HD3.out.f 0 (by omega)
  have g1 := HD3.out.f 1 (by omega)
  have g2 := HD3.out.f 2 (by omega)
  obtain ⟨sa, sc, rfl, -, -, -⟩ := hR.slice
  have hRs := hR.sets3 (wa := w) (b := w.heap.size + 1) (by omega) HD2.out.lt HB.out
  have HRs := Lib.hid hRs
  clear hR hRs
  go_wp2_with fail
  exact bodyPost_ret (v := .tuple #[.agg #[.int .i64 0, .string ⟨#[]⟩, .slice sa 0 sc], .int .i64 94]) (by simp [results, Tryz.results7, go_sem, d0, d1, d2]) rfl
    ⟨_, rfl, (HRs.out _ _ _).itv 0 ⟨#[]⟩, (HRs.out _ _ _).bel⟩
end Go.Proofs.YtfljonmfkjblhaaGreatDoor.Ia
