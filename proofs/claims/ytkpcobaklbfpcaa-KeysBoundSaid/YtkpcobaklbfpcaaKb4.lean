/- Package keys: with, none, New; take of rows. Conditions: bounds. -/
import Derived.Test.YtkpcobaklbfpcaaKb3
import Derived.Deep.Cut
import Derived.Deep.RegionHeld3
namespace Go.Proofs.Ytkpcobaklbfpcaa.Ka
set_option linter.unusedVariables false
set_option linter.unusedSimpArgs false
open Go.ChangeShapes Go.WideShapes Go.ChangeAt Go.RowKit Go.Maps Go.WideMaps
open Sp (Th Hp Stays All cellsT rowT exT puT star mapT setG Sl)
theorem lo_len {ids : List Int} {n : Int} : (loI n ids).length ≤ ids.length := List.length_filter_le _ _
theorem with_out {ids : List Int} {n : Int} (hu : Up ids) (h : n ∉ ids) : ids.take (loI n ids).length ++ n :: ids.drop (loI n ids).length = withI n ids := by
  have e := split_out hu h
  have h1 : ids.take (loI n ids).length = loI n ids := by conv => lhs; arg 2; rw [e]
                                                          exact List.take_left
  have h2 : ids.drop (loI n ids).length = hiI n ids := by conv => lhs; arg 2; rw [e]
                                                          exact List.drop_left
  rw [h1, h2]; rfl
theorem less_at {ids : List Int} {n : Int} (hu : Up ids) (h : n ∈ ids) : (loI n ids).length < ids.length ∧ ids.take (loI n ids).length ++ ids.drop ((loI n ids).length + 1) = lessI n ids := by
  have e := split_in hu h
  have h0 : (loI n ids).length < ids.length := by
    have := congrArg List.length e
    rw [List.length_append, List.length_cons] at this; omega
  have h1 : ids.take (loI n ids).length = loI n ids := by conv => lhs; arg 2; rw [e]
                                                          exact List.take_left
  have h2 : ids.drop ((loI n ids).length + 1) = hiI n ids := by
    conv => lhs; arg 2; rw [e]
    rw [← List.drop_drop, List.drop_left]; rfl
  exact ⟨h0, by rw [h1, h2, less_in hu h]⟩
def rv (R M : Nat) : Value := .agg #[ptr R, .map (some M)]
section
variable {o w w' wb : World} {l : List Th} {v : Value} {ids : List Int} {R M N : Nat} {S A B : Rows} {k : ByteArray}
set_option maxHeartbeats 4000000 in
set_option maxRecDepth 100000 in
theorem with_calls (h : Hp o w (rowI v ids :: l)) (hw : Below w.heap.size w wb) (hu : Up ids) (hl : ids.length ≤ 1000000) (n : Int) :
    Calls Try.prog 36 #[v, .int .i64 n] wb fun e w' => ∃ g c, e = .returned (.slice (some ⟨g, 0, none⟩) (withI n ids).length c) ∧ Hp o w' (rowI (.slice (some ⟨g, 0, none⟩) (withI n ids).length c) (withI n ids) :: l) := by
  have HB := Lib.hid (bs_calls h hw hu hl n)
  have HH := Lib.hid (h.bel hw)
  clear h hw
  by_cases hin : n ∈ ids
  · rw [decide_eq_true hin] at HB
    have HW := Lib.hid (with_in hu hin)
    have hne : ids ≠ [] := fun e => by rw [e] at hin; cases hin
    obtain ⟨g, c, rfl, -⟩ : ∃ g c, v = .slice (some ⟨g, 0, none⟩) ids.length c ∧ True := by
      rcases rowI_form HH.out with ⟨-, e⟩ | ⟨g, c, e, -⟩
      · exact absurd e hne
      · exact ⟨g, c, e, True.intro⟩
    clear hin hu hne
    generalize (loI n ids).length = p at *
    go_enter Try.func36, Try.ntmps36
    go_wp2_with fail
    refine HB.out.mono ?_; rintro en w1 ⟨rfl, hb1⟩
    have H1 := Lib.hid (HH.out.bel hb1)
    clear hb1
    go_wp2_with fail
    go_ret
    rw [HW.out]
    exact ⟨g, c, rfl, H1.out⟩
  · rw [decide_eq_false hin] at HB
    have HE := Lib.hid (with_out hu hin)
    have HL := Lib.hid (ins_len ids n (lo_len (ids := ids) (n := n)))
    have HI : Hid (∀ w1, Below wb.heap.size wb w1 → Calls Try.prog 42 #[v, .int .i64 (loI n ids).length, .slice (some ⟨w1.heap.size, 0, none⟩) 1 1] (w1.alloc (.cells #[.int .i64 n] 3)) fun e w' => ∃ g c, e = .returned (.slice (some ⟨g, 0, none⟩) (withI n ids).length c) ∧ Hp o w' (rowI (.slice (some ⟨g, 0, none⟩) (withI n ids).length c) (withI n ids) :: l)) := Lib.hid (fun w1 hb1 => by
      have := insert_calls (HH.out.bel hb1) hl (loI n ids).length lo_len n
      rw [← HL.out, HE.out] at this
      exact this)
    clear hin hu HL HE HH
    generalize (loI n ids).length = p at *
    go_enter Try.func36, Try.ntmps36
    go_wp2_with fail
    refine HB.out.mono ?_; rintro en w1 ⟨rfl, hb1⟩
    have H1 := Lib.hid (HI.out w1 hb1)
    clear hb1 HI
    go_wp2_with fail
    refine H1.out.mono ?_; rintro en w2 ⟨g, c, rfl, h2⟩
    have H2 := Lib.hid h2
    clear h2 H1
    go_wp2_with fail
    go_ret
    exact ⟨g, c, rfl, H2.out⟩
set_option maxHeartbeats 4000000 in
set_option maxRecDepth 100000 in
theorem none_calls (h : Hp o w l) (hw : Below w.heap.size w wb) :
    Calls Try.prog 23 #[] wb fun e w' => ∃ R M, e = .returned (rv R M) ∧ Hp o w' (rowsT R M [] 0 :: l) := by
  have H0 := Lib.hid ((h.bel hw).cellsNew [.pointer none, .map none] 55)
  clear h hw
  go_enter Try.func23, Try.ntmps23
  have H0 : Hid (Hp o (wb.alloc (.cells #[.pointer none, .map none] 55)) (cellsT wb.heap.size [.pointer none, .map none] :: l)) := H0
  go_upto_region 1 with fail
  generalize wb.alloc (.cells #[.pointer none, .map none] 55) = W0 at *
  generalize wb.heap.size = BX at *
  have HN := Lib.hid (rec_new H0.out (Below.refl _ _))
  have hmm := @run_makeMap Try.prog
  go_wp2_with fail
  refine HN.out.mono ?_; rintro en w1 ⟨R, rfl, h1, -⟩
  have H1 := Lib.hid (h1.mapNew 9 elS)
  have HC := Lib.hid (H1.out.pull 2 rfl)
  have c0 := HC.out.cell 0 rfl
  have c1 := HC.out.cell 1 rfl
  have f0 := HC.out.free 0 rfl
  have f1 := HC.out.free 1 rfl
  clear h1 HN H1
  have HD := Lib.hid ((HC.out.cellSet 0 (ptr R) rfl).cellSet 1 (.map (some w1.heap.size)) rfl)
  have d0 := HD.out.cell 0 rfl
  have d1 := HD.out.cell 1 rfl
  unfold ptr at *
  go_wp2_with fail
  refine bodyPost_ret (v := .agg #[.pointer (some ⟨R, 0, none⟩), .map (some w1.heap.size)]) (by simp [results, Try.results23, go_sem, d0, d1]) rfl ?_
  refine ⟨R, w1.heap.size, rfl, ?_⟩
  have h3 := ((HD.out.dropAt 0 rfl).starNil).pull 1 rfl |>.pull 2 rfl
  exact rows_shut (L := []) (c := 0) rfl Ok.nil (Nat.le_refl _) h3
set_option maxHeartbeats 4000000 in
set_option maxRecDepth 100000 in
theorem new_calls (h : Hp o w l) (hw : Below w.heap.size w wb) (m : Int) :
    Calls Try.prog 7 #[.int .i64 m] wb fun e w' => ∃ T, e = .returned (ptr T) ∧ Hp o w' (keysT T (max m 1) [] 0 :: l) := by
  have H0 := Lib.hid (none_calls h hw)
  clear h hw
  have hm : (if m < 1 then (1 : Int) else m) = max m 1 := by split <;> omega
  go_enter Try.func7, Try.ntmps7
  go_wp2_with fail
  refine H0.out.mono ?_; rintro en w1 ⟨R, M, rfl, h1⟩
  have H1 := Lib.hid (h1.cellsNew [ptr R, .map (some M), .int .i64 (max m 1)] 58)
  clear H0 h1
  unfold rv ptr at *
  go_wp2_with fail
  go_ret
  refine ⟨w1.heap.size, rfl, ?_⟩
  exact keys_shut H1.out
end
end Go.Proofs.Ytkpcobaklbfpcaa.Ka
