/- Package keys: part of rows. Conditions: bounds. -/
import Derived.Test.YtkpcobaklbfpcaaKb5
namespace Go.Proofs.Ytkpcobaklbfpcaa.Ka
set_option linter.unusedVariables false
set_option linter.unusedSimpArgs false
open Go.ChangeShapes Go.WideShapes Go.ChangeAt Go.RowKit Go.Maps Go.WideMaps
open Sp (Th Hp Stays All cellsT rowT exT puT star mapT setG Sl)
open Ca (inK inK_iff inK_false dropK dropK_none touchK)
section
variable {o w w' wb : World} {l : List Th} {v : Value} {ids : List Int} {R M N : Nat} {S A B : Rows} {k : ByteArray}
theorem keys_mid (A B : Rows) (k : ByteArray) (x y : List Int) : keysL (A ++ (k, x) :: B) = keysL (A ++ (k, y) :: B) := by
  unfold keysL
  rw [List.map_append, List.map_append, List.map_cons, List.map_cons]
theorem len_mid (A B : Rows) (k : ByteArray) (x y : List Int) : (A ++ (k, x) :: B).length = (A ++ (k, y) :: B).length := by
  rw [List.length_append, List.length_append, List.length_cons, List.length_cons]
set_option maxHeartbeats 8000000 in
set_option maxRecDepth 100000 in
theorem part_calls (h : Hp o w (rowsT R M (A ++ (k, ids) :: B) N :: l)) (hw : Below w.heap.size w wb) (hk : k.size ≤ maxLen) (hl : ids.length ≤ 1000000) (hN : N ≤ 1000000000) (n : Int) :
    Calls Try.prog 28 #[rv R M, .string k, .int .i64 n] wb fun e w' => e = .returned (.tuple #[]) ∧ Hp o w' (rowsT R M (A ++ cutR n (k, ids) ++ B) (N + 1) :: l) := by
  have hok := rows_ok h
  obtain ⟨LA, LB, g, c, cm, hA, hB, hc, h⟩ := rows_mid h
  have hm := hok.mid
  have hms := mid_sl hm hA hB
  have hu : Up ids := hok.up (k, ids) (List.mem_append.2 (.inr (List.mem_cons_self ..)))
  have hne : ids ≠ [] := hok.ne (k, ids) (List.mem_append.2 (.inr (List.mem_cons_self ..)))
  have H0 := Lib.hid ((h.bel hw).cellsNew [ptr R, .map (some M)] 55)
  have HBS : Hid (∀ (v : Value) (W : World) (ll : List Th), Hp o W (rowI v ids :: ll) → Calls Try.prog 38 #[v, .int .i64 n] W fun e w' => e = .returned (.tuple #[.int .i64 ((loI n ids).length : Nat), .bool (decide (n ∈ ids))]) ∧ Below W.heap.size W w') := Lib.hid (fun v W ll hh => bs_calls hh (Below.refl _ _) hu hl n)
  have HKs := Lib.hid hk
  have HLs := Lib.hid (look_slice (g := g) (n := ids.length) (c := c) hms)
  by_cases hin : n ∈ ids
  · rw [decide_eq_true hin] at HBS
    obtain ⟨hp, hD⟩ := less_at hu hin
    have HDel : Hid (∀ (W : World) (ll : List Th), Hp o W (rowI (.slice (some ⟨g, 0, none⟩) ids.length c) ids :: ll) → Calls Try.prog 39 #[.slice (some ⟨g, 0, none⟩) ids.length c, .int .i64 (loI n ids).length, .int .i64 (((loI n ids).length : Int) + 1)] W fun e w' => e = .returned (.slice (some ⟨g, 0, none⟩) (lessI n ids).length c) ∧ Hp o w' (rowI (.slice (some ⟨g, 0, none⟩) (lessI n ids).length c) (lessI n ids) :: ll)) := Lib.hid (fun W ll hh => by
      have := delete_calls hh (Below.refl _ _) (loI n ids).length hp
      rw [hD, show (((loI n ids).length + 1 : Nat) : Int) = ((loI n ids).length : Int) + 1 by omega] at this
      exact this)
    have HPut : Hid (∀ (W : World) (ll : List Th), Hp o W (mapT 9 elS M (A ++ (k, ids) :: B).length cm (lookL (slL LA ++ (k, ⟨some ⟨g, 0, none⟩, ids.length, c⟩) :: slL LB)) :: ll) → ∃ w', (Instr.mapUpdate 51 (.map (some M)) (.string k) (.slice (some ⟨g, 0, none⟩) (lessI n ids).length c)).run Try.prog W = .ok () w' ∧ Hp o w' (mapT 9 elS M (A ++ (k, ids) :: B).length (cm + 1) (lookL (slL LA ++ (k, ⟨some ⟨g, 0, none⟩, (lessI n ids).length, c⟩) :: slL LB)) :: ll)) := Lib.hid (fun W ll hh => by
      obtain ⟨w9, h1, h2⟩ := hh.mapPutRun (T := 51) Try.underlying9 Try.underlying51 k hk ⟨some ⟨g, 0, none⟩, (lessI n ids).length, c⟩ True.intro (by unfold maxLen; omega) (A ++ (k, ids) :: B).length (by rw [look_mid hms]; rfl)
      rw [set_mid hms] at h2
      exact ⟨w9, h1, h2⟩)
    have HLs2 := Lib.hid (look_slice (g := g) (n := (lessI n ids).length) (c := c) hms)
    have hless : ∀ x ∈ lessI n ids, (Lit.int .i64 x).wf = true := fun x hx => hok.wf (k, ids) (List.mem_append.2 (.inr (List.mem_cons_self ..))) x (mem_less.1 hx).1
    have HF1 : Hid (lessI n ids ≠ [] → ∀ W : World, Hp o W (rowI (.slice (some ⟨g, 0, none⟩) (lessI n ids).length c) (lessI n ids) :: mapT 9 elS M (A ++ (k, ids) :: B).length (cm + 1) (lookL (slL LA ++ (k, ⟨some ⟨g, 0, none⟩, (lessI n ids).length, c⟩) :: slL LB)) :: recT R (keysL (A ++ (k, ids) :: B)) :: star ((LA ++ LB).map rowK) :: l) → Hp o W (rowsT R M (A ++ cutR n (k, ids) ++ B) (N + 1) :: l)) := Lib.hid (fun hne W hh => by
      have e : A ++ cutR n (k, ids) ++ B = A ++ (k, lessI n ids) :: B := by
        unfold cutR
        rw [if_neg hne, List.append_assoc]; rfl
      rw [e]
      rw [keys_mid A B k ids (lessI n ids)] at hh
      exact rows_back hA hB (by omega) (hok.put (up_less hu) hne hless) (len_mid A B k _ _) hh)
    have HF2 : Hid (lessI n ids = [] → ∀ W : World, Hp o W (mapT 9 elS M (A ++ B).length (cm + 1) (lookL (slL LA ++ slL LB)) :: recT R (keysL (A ++ B)) :: star ((LA ++ LB).map rowK) :: l) → Hp o W (rowsT R M (A ++ cutR n (k, ids) ++ B) (N + 1) :: l)) := Lib.hid (fun he W hh => by
      have e : A ++ cutR n (k, ids) ++ B = A ++ B := by
        unfold cutR
        rw [if_pos he, List.append_nil]
      rw [e]
      refine rows_gone hA hB (by omega) ?_ rfl hh
      have := hok.take k
      rwa [take_mid hm] at this)
    have HT : Hid (∀ (W : World) (BX : Nat), Hp o W (rowI (.slice (some ⟨g, 0, none⟩) (lessI n ids).length c) (lessI n ids) :: mapT 9 elS M (A ++ (k, ids) :: B).length (cm + 1) (lookL (slL LA ++ (k, ⟨some ⟨g, 0, none⟩, (lessI n ids).length, c⟩) :: slL LB)) :: recT R (keysL (A ++ (k, ids) :: B)) :: star ((LA ++ LB).map rowK) :: cellsT BX [ptr R, .map (some M)] :: l) →
        Calls Try.prog 27 #[rv R M, .string k] W fun e w' => e = .returned (.slice (some ⟨g, 0, none⟩) (lessI n ids).length c) ∧ Hp o w' (rowI (.slice (some ⟨g, 0, none⟩) (lessI n ids).length c) (lessI n ids) :: mapT 9 elS M (A ++ B).length (cm + 1) (lookL (slL LA ++ slL LB)) :: recT R (keysL (A ++ B)) :: star ((LA ++ LB).map rowK) :: cellsT BX [ptr R, .map (some M)] :: l)) := Lib.hid (fun W BX hh => by
      rw [keys_mid A B k ids (lessI n ids)] at hh
      exact take_raw hA hB hm (by rw [List.length_append, List.length_append, List.length_cons]; omega) hk hh (Below.refl _ _))
    have hwr : IntKind.i64.wrap (((loI n ids).length : Int) + 1) = ((loI n ids).length : Int) + 1 := by rw [IntKind.wrap_i64]; omega
    have HDn : Hid (lessI n ids = [] ↔ (lessI n ids).length = 0) := Lib.hid List.length_eq_zero_iff.symm
    have hDl : (lessI n ids).length ≤ 1000000 := Nat.le_trans (less_len n ids) hl
    clear h hw hm hms hA hB hu hne hok hin hD hless
    generalize (LA ++ LB).map rowK = SK at *
    generalize A ++ cutR n (k, ids) ++ B = FR at *
    generalize (A ++ B).length = n2 at *
    generalize (A ++ (k, ids) :: B).length = n1 at *
    generalize keysL (A ++ B) = K2 at *
    generalize keysL (A ++ (k, ids) :: B) = K1 at *
    generalize lookL (slL LA ++ slL LB) = G2 at *
    generalize lookL (slL LA ++ (k, ⟨some ⟨g, 0, none⟩, ids.length, c⟩) :: slL LB) = G1 at *
    generalize lookL (slL LA ++ (k, ⟨some ⟨g, 0, none⟩, (lessI n ids).length, c⟩) :: slL LB) = G3 at *
    generalize lessI n ids = D at *
    generalize (loI n ids).length = p at *
    unfold rv ptr at *
    go_enter Try.func28, Try.ntmps28
    have H0 : Hid (Hp o (wb.alloc (.cells #[.pointer (some ⟨R, 0, none⟩), .map (some M)] 55)) (cellsT wb.heap.size [.pointer (some ⟨R, 0, none⟩), .map (some M)] :: rowI (.slice (some ⟨g, 0, none⟩) ids.length c) ids :: mapT 9 elS M n1 cm G1 :: recT R K1 :: star SK :: l)) := H0
    go_upto_region 1 with fail
    generalize wb.alloc (.cells #[.pointer (some ⟨R, 0, none⟩), .map (some M)] 55) = W0 at *
    generalize wb.heap.size = BX at *
    have c1 := H0.out.cell 1 rfl
    have hlk := Sp.Hp.mapLook (T := 51) (H0.out.pull 2 rfl) Try.underlying9 Try.underlying51 k HKs.out
    rw [HLs.out] at hlk
    have HB := Lib.hid (HBS.out _ _ _ (H0.out.pull 1 rfl))
    go_wp2_with fail
    refine HB.out.mono ?_; rintro en w1 ⟨rfl, hb1⟩
    have H1 := Lib.hid (H0.out.bel (Sp.bstep hb1 (Below.refl _ _).drew))
    clear hb1 HB H0 c1 hlk
    go_wp2_with fail
    have S1 : Hid (w1.drew.cell? ⟨BX, 1, none⟩ = some (.map (some M))) := Lib.hid (H1.out.cell 1 rfl)
    have hlk := Sp.Hp.mapLook (T := 51) (H1.out.pull 2 rfl) Try.underlying9 Try.underlying51 k HKs.out
    rw [HLs.out] at hlk
    have HE := Lib.hid (HDel.out _ _ (H1.out.pull 1 rfl))
    go_region_held3 (fun W : World => W.cell? ⟨BX, 1, none⟩ = some (.map (some M)))
      (first | exact S1.out | exact S2.out | exact S3.out)
      (first
        | (go_at_call 39; with_reducible refine HE.out.mono ?_; rintro en8 w8 ⟨rfl, h8⟩; obtain ⟨w9, hr9, h9⟩ := HPut.out _ _ (h8.pull 2 rfl); have S2 : Hid (w8.cell? ⟨BX, 1, none⟩ = some (.map (some M))) := Lib.hid ((h8.pull 1 rfl).cell 1 rfl); have S3 : Hid (w9.cell? ⟨BX, 1, none⟩ = some (.map (some M))) := Lib.hid ((h9.pull 2 rfl).cell 1 rfl); have H9 := Lib.hid h9; clear h8 h9))
    all_goals (
      have H9 : Hid (Hp o w9 (mapT 9 elS M n1 (cm + 1) G3 :: rowI (.slice (some ⟨g, 0, none⟩) D.length c) D :: cellsT BX [.pointer (some ⟨R, 0, none⟩), .map (some M)] :: recT R K1 :: star SK :: l)) := H9
      clear HE hlk S1 S2 H1 hr9
      have c0 := (H9.out.pull 2 rfl).cell 0 rfl
      have c1 := (H9.out.pull 2 rfl).cell 1 rfl
      have hlk := Sp.Hp.mapLook (T := 51) H9.out Try.underlying9 Try.underlying51 k HKs.out
      rw [HLs2.out] at hlk
      by_cases hd : D = []
      · have hd0 : ((D.length : Int) == 0) = true := by rw [HDn.out.1 hd]; rfl
        have HTT := Lib.hid (HT.out w9 BX ((((H9.out.pull 1 rfl).pull 1 rfl).pull 1 rfl).perm (by
          refine List.Perm.cons _ (List.Perm.cons _ ?_)
          exact ((List.Perm.swap ..).trans ((List.Perm.swap ..).cons _)))))
        have HF := Lib.hid (HF2.out hd)
        clear hd HF1 HF2 HT HPut HDel HBS
        go_wp2_with fail
        refine HTT.out.mono ?_; rintro en w10 ⟨rfl, h10⟩
        have H10 := Lib.hid h10
        clear h10 HTT H9
        go_wp2_with fail
        first | go_end0 | refine bodyPost_ret (results_none rfl _ _ _) rfl ?_
        exact ⟨rfl, HF.out _ ((H10.out.dropAt 4 rfl).dropAt 0 rfl)⟩
      · have hd0 : ((D.length : Int) == 0) = false := by
          have : ¬ D.length = 0 := fun e => hd (HDn.out.2 e)
          rw [beq_eq_false_iff_ne]; omega
        have HF := Lib.hid (HF1.out hd)
        clear hd HF1 HF2 HT HPut HDel HBS
        go_wp2_with fail
        first | go_end0 | refine bodyPost_ret (results_none rfl _ _ _) rfl ?_
        exact ⟨rfl, HF.out _ ((H9.out.dropAt 2 rfl).swap)⟩)
  · rw [decide_eq_false hin] at HBS
    have HF1 : Hid (∀ W : World, Hp o W (rowI (.slice (some ⟨g, 0, none⟩) ids.length c) ids :: mapT 9 elS M (A ++ (k, ids) :: B).length cm (lookL (slL LA ++ (k, ⟨some ⟨g, 0, none⟩, ids.length, c⟩) :: slL LB)) :: recT R (keysL (A ++ (k, ids) :: B)) :: star ((LA ++ LB).map rowK) :: l) → Hp o W (rowsT R M (A ++ cutR n (k, ids) ++ B) (N + 1) :: l)) := Lib.hid (fun W hh => by
      have e : A ++ cutR n (k, ids) ++ B = A ++ (k, ids) :: B := by
        unfold cutR
        rw [less_none hin, if_neg hne, List.append_assoc]; rfl
      rw [e]
      exact rows_back hA hB (by omega) hok rfl hh)
    clear h hw hm hms hA hB hu hne hok hin
    generalize (LA ++ LB).map rowK = SK at *
    generalize A ++ cutR n (k, ids) ++ B = FR at *
    generalize (A ++ (k, ids) :: B).length = n1 at *
    generalize keysL (A ++ (k, ids) :: B) = K1 at *
    generalize lookL (slL LA ++ (k, ⟨some ⟨g, 0, none⟩, ids.length, c⟩) :: slL LB) = G1 at *
    generalize (loI n ids).length = p at *
    unfold rv ptr at *
    go_enter Try.func28, Try.ntmps28
    have H0 : Hid (Hp o (wb.alloc (.cells #[.pointer (some ⟨R, 0, none⟩), .map (some M)] 55)) (cellsT wb.heap.size [.pointer (some ⟨R, 0, none⟩), .map (some M)] :: rowI (.slice (some ⟨g, 0, none⟩) ids.length c) ids :: mapT 9 elS M n1 cm G1 :: recT R K1 :: star SK :: l)) := H0
    go_upto_region 1 with fail
    generalize wb.alloc (.cells #[.pointer (some ⟨R, 0, none⟩), .map (some M)] 55) = W0 at *
    generalize wb.heap.size = BX at *
    have c1 := H0.out.cell 1 rfl
    have hlk := Sp.Hp.mapLook (T := 51) (H0.out.pull 2 rfl) Try.underlying9 Try.underlying51 k HKs.out
    rw [HLs.out] at hlk
    have HB := Lib.hid (HBS.out _ _ _ (H0.out.pull 1 rfl))
    go_wp2_with fail
    refine HB.out.mono ?_; rintro en w1 ⟨rfl, hb1⟩
    have H1 := Lib.hid (H0.out.bel hb1)
    clear hb1 HB H0 c1 hlk
    go_wp2_with fail
    first | go_end0 | refine bodyPost_ret (results_none rfl _ _ _) rfl ?_
    exact ⟨rfl, HF1.out _ (H1.out.dropAt 0 rfl)⟩
end
end Go.Proofs.Ytkpcobaklbfpcaa.Ka
