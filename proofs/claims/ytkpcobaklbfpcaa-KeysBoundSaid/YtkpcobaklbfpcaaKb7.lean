/- Package keys: put of rows. Conditions: bounds. -/
import Derived.Test.YtkpcobaklbfpcaaKb6
namespace Go.Proofs.Ytkpcobaklbfpcaa.Ka
set_option linter.unusedVariables false
set_option linter.unusedSimpArgs false
open Go.ChangeShapes Go.WideShapes Go.ChangeAt Go.RowKit Go.Maps Go.WideMaps
open Sp (Th Hp Stays All cellsT rowT exT puT star mapT setG Sl)
open Ca (inK inK_iff inK_false dropK dropK_none touchK)
section
variable {o w w' wb : World} {l : List Th} {v : Value} {ids : List Int} {R M N : Nat} {S A B : Rows} {k : ByteArray}
set_option maxHeartbeats 8000000 in
set_option maxRecDepth 100000 in
theorem put_in (h : Hp o w (rowsT R M (A ++ (k, ids) :: B) N :: l)) (hw : Below w.heap.size w wb) (hk : k.size ≤ maxLen) (hl : ids.length ≤ 1000000) (hN : N ≤ 1000000000) (n : Int) (hn : (Lit.int .i64 n).wf = true) :
    Calls Try.prog 25 #[rv R M, .string k, .int .i64 n] wb fun e w' => e = .returned (.tuple #[]) ∧ Hp o w' (rowsT R M (A ++ (k, withI n ids) :: B) (N + 1) :: l) := by
  have hok := rows_ok h
  obtain ⟨LA, LB, g, c, cm, hA, hB, hc, h⟩ := rows_mid h
  have hm := hok.mid
  have hms := mid_sl hm hA hB
  have hu : Up ids := hok.up (k, ids) (List.mem_append.2 (.inr (List.mem_cons_self ..)))
  have H0 := Lib.hid ((h.bel hw).cellsNew [ptr R, .map (some M)] 55)
  have HKs := Lib.hid hk
  have HLs := Lib.hid (look_slice (g := g) (n := ids.length) (c := c) hms)
  have HIn : Hid (inK k (keysL (A ++ (k, ids) :: B)) = true) := Lib.hid in_mid
  have HW : Hid (∀ (W : World) (ll : List Th), Hp o W (rowI (.slice (some ⟨g, 0, none⟩) ids.length c) ids :: ll) → Calls Try.prog 36 #[.slice (some ⟨g, 0, none⟩) ids.length c, .int .i64 n] W fun e w' => ∃ g c, e = .returned (.slice (some ⟨g, 0, none⟩) (withI n ids).length c) ∧ Hp o w' (rowI (.slice (some ⟨g, 0, none⟩) (withI n ids).length c) (withI n ids) :: ll)) := Lib.hid (fun W ll hh => with_calls hh (Below.refl _ _) hu hl n)
  have HPut : Hid (∀ (W : World) (ll : List Th) (g' c' : Nat), Hp o W (mapT 9 elS M (A ++ (k, ids) :: B).length cm (lookL (slL LA ++ (k, ⟨some ⟨g, 0, none⟩, ids.length, c⟩) :: slL LB)) :: ll) → ∃ w', (Instr.mapUpdate 51 (.map (some M)) (.string k) (.slice (some ⟨g', 0, none⟩) (withI n ids).length c')).run Try.prog W = .ok () w' ∧ Hp o w' (mapT 9 elS M (A ++ (k, ids) :: B).length (cm + 1) (lookL (slL LA ++ (k, ⟨some ⟨g', 0, none⟩, (withI n ids).length, c'⟩) :: slL LB)) :: ll)) := Lib.hid (fun W ll g' c' hh => by
    obtain ⟨w9, h1, h2⟩ := hh.mapPutRun (T := 51) Try.underlying9 Try.underlying51 k hk ⟨some ⟨g', 0, none⟩, (withI n ids).length, c'⟩ True.intro (by unfold maxLen; omega) (A ++ (k, ids) :: B).length (by rw [look_mid hms]; rfl)
    rw [set_mid hms] at h2
    exact ⟨w9, h1, h2⟩)
  have hwf : ∀ x ∈ withI n ids, (Lit.int .i64 x).wf = true := fun x hx => by
    rcases mem_with.1 hx with e | hx
    · rw [e]; exact hn
    · exact hok.wf (k, ids) (List.mem_append.2 (.inr (List.mem_cons_self ..))) x hx
  have HF : Hid (∀ (W : World) (g' c' : Nat), Hp o W (rowI (.slice (some ⟨g', 0, none⟩) (withI n ids).length c') (withI n ids) :: mapT 9 elS M (A ++ (k, ids) :: B).length (cm + 1) (lookL (slL LA ++ (k, ⟨some ⟨g', 0, none⟩, (withI n ids).length, c'⟩) :: slL LB)) :: recT R (keysL (A ++ (k, ids) :: B)) :: star ((LA ++ LB).map rowK) :: l) → Hp o W (rowsT R M (A ++ (k, withI n ids) :: B) (N + 1) :: l)) := Lib.hid (fun W g' c' hh => by
    rw [keys_mid A B k ids (withI n ids)] at hh
    exact rows_back hA hB (by omega) (hok.put (up_with hu) (by unfold withI; simp) hwf) (len_mid A B k _ _) hh)
  have HG3 : ∃ G3 : Nat → Nat → ByteArray → Option Sl, Hid (∀ g' c', lookL (slL LA ++ (k, ⟨some ⟨g', 0, none⟩, (withI n ids).length, c'⟩) :: slL LB) = G3 g' c') := ⟨_, Lib.hid (fun _ _ => rfl)⟩
  obtain ⟨G3, HG3⟩ := HG3
  simp only [HG3.out] at HPut HF
  clear HG3 h hw hm hms hA hB hu hok hwf
  generalize (LA ++ LB).map rowK = SK at *
  generalize A ++ (k, withI n ids) :: B = FR at *
  generalize (A ++ (k, ids) :: B).length = n1 at *
  generalize keysL (A ++ (k, ids) :: B) = K1 at *
  generalize lookL (slL LA ++ (k, ⟨some ⟨g, 0, none⟩, ids.length, c⟩) :: slL LB) = G1 at *
  generalize withI n ids = D at *
  unfold rv ptr at *
  go_enter Try.func25, Try.ntmps25
  have H0 : Hid (Hp o (wb.alloc (.cells #[.pointer (some ⟨R, 0, none⟩), .map (some M)] 55)) (cellsT wb.heap.size [.pointer (some ⟨R, 0, none⟩), .map (some M)] :: rowI (.slice (some ⟨g, 0, none⟩) ids.length c) ids :: mapT 9 elS M n1 cm G1 :: recT R K1 :: star SK :: l)) := H0
  go_upto_region 1 with fail
  generalize wb.alloc (.cells #[.pointer (some ⟨R, 0, none⟩), .map (some M)] 55) = W0 at *
  generalize wb.heap.size = BX at *
  have c0 := H0.out.cell 0 rfl
  have HH := Lib.hid (rec_has (H0.out.pull 3 rfl) (Below.refl _ _) k HKs.out true HIn)
  go_wp2_with fail
  refine HH.out.mono ?_; rintro en w1 ⟨rfl, rfl⟩
  clear HH c0
  go_wp2_with fail
  have H1 := Lib.hid (H0.out.bel (Below.refl _ _).drew)
  have S1 : Hid (W0.drew.cell? ⟨BX, 1, none⟩ = some (.map (some M))) := Lib.hid (H1.out.cell 1 rfl)
  have hlk := Sp.Hp.mapLook (T := 51) (H1.out.pull 2 rfl) Try.underlying9 Try.underlying51 k HKs.out
  rw [HLs.out] at hlk
  have HE := Lib.hid (HW.out _ _ (H1.out.pull 1 rfl))
  go_region_held3 (fun W : World => W.cell? ⟨BX, 1, none⟩ = some (.map (some M)))
    (first | exact S1.out | exact S2.out | exact S3.out)
    (first
      | (go_at_call 36; with_reducible refine HE.out.mono ?_; rintro en8 w8 ⟨g', c', rfl, h8⟩; obtain ⟨w9, hr9, h9⟩ := HPut.out _ _ g' c' (h8.pull 2 rfl); have S2 : Hid (w8.cell? ⟨BX, 1, none⟩ = some (.map (some M))) := Lib.hid ((h8.pull 1 rfl).cell 1 rfl); have S3 : Hid (w9.cell? ⟨BX, 1, none⟩ = some (.map (some M))) := Lib.hid ((h9.pull 2 rfl).cell 1 rfl); have H9 := Lib.hid h9; clear h8 h9))
  all_goals (
    have H9 : Hid (Hp o w9 (mapT 9 elS M n1 (cm + 1) (G3 g' c') :: rowI (.slice (some ⟨g', 0, none⟩) D.length c') D :: cellsT BX [.pointer (some ⟨R, 0, none⟩), .map (some M)] :: recT R K1 :: star SK :: l)) := H9
    clear HE hlk S1 S2 H1 hr9 H0
    go_wp2_with fail
    first | go_end0 | refine bodyPost_ret (results_none rfl _ _ _) rfl ?_
    exact ⟨rfl, HF.out _ _ _ ((H9.out.dropAt 2 rfl).swap)⟩)
set_option maxHeartbeats 8000000 in
set_option maxRecDepth 100000 in
theorem put_new (h : Hp o w (rowsT R M S N :: l)) (hw : Below w.heap.size w wb) (hk : k.size ≤ maxLen) (hS : S.length ≤ 1000000) (hN : N ≤ 1000000000) (hin : k ∉ keysL S) (n : Int) (hn : (Lit.int .i64 n).wf = true) :
    Calls Try.prog 25 #[rv R M, .string k, .int .i64 n] wb fun e w' => e = .returned (.tuple #[]) ∧ Hp o w' (rowsT R M (S ++ [(k, [n])]) (N + 1) :: l) := by
  obtain ⟨L, cm, h1, hok, hcm, h⟩ := rows_open h
  have hkl : k ∉ keysL (slL L) := by rw [plain_keys, h1]; exact hin
  have H0 := Lib.hid ((h.bel hw).cellsNew [ptr R, .map (some M)] 55)
  have HKs := Lib.hid hk
  have HLs : Hid (elS.enc ((lookL (slL L) k).getD elS.zero) = .slice none 0 0) := Lib.hid (by rw [look_none hkl]; rfl)
  have HIn : Hid (inK k (keysL S) = false) := Lib.hid (inK_false.2 hin)
  have HTk : Hid (touchK k (keysL S) = keysL (S ++ [(k, [n])])) := Lib.hid (by
    unfold touchK
    rw [dropK_none hin]
    unfold keysL
    rw [List.map_append]; rfl)
  have HKl : Hid ((keysL S).length ≤ 1000000) := Lib.hid (by unfold keysL; rw [List.length_map]; exact hS)
  have ew : withI n [] = [n] := rfl
  have HW : Hid (∀ (W : World) (ll : List Th), Hp o W ll → Calls Try.prog 36 #[.slice none 0 0, .int .i64 n] W fun e w' => ∃ g c, e = .returned (.slice (some ⟨g, 0, none⟩) 1 c) ∧ Hp o w' (rowI (.slice (some ⟨g, 0, none⟩) 1 c) [n] :: ll)) := Lib.hid (fun W ll hh => by
    have := with_calls (ids := []) (hh.rowNil 3 1) (Below.refl _ _) List.Pairwise.nil (by decide) n
    rw [ew] at this
    exact this)
  have HPut : Hid (∀ (W : World) (ll : List Th) (g' c' : Nat), Hp o W (mapT 9 elS M S.length cm (lookL (slL L)) :: ll) → ∃ w', (Instr.mapUpdate 51 (.map (some M)) (.string k) (.slice (some ⟨g', 0, none⟩) 1 c')).run Try.prog W = .ok () w' ∧ Hp o w' (mapT 9 elS M (S ++ [(k, [n])]).length (cm + 1) (lookL (slL L ++ [(k, ⟨some ⟨g', 0, none⟩, 1, c'⟩)])) :: ll)) := Lib.hid (fun W ll g' c' hh => by
    obtain ⟨w9, h1, h2⟩ := hh.mapPutRun (T := 51) Try.underlying9 Try.underlying51 k hk ⟨some ⟨g', 0, none⟩, 1, c'⟩ True.intro (by unfold maxLen; omega) (S ++ [(k, [n])]).length (by rw [look_none hkl, List.length_append]; rfl)
    rw [set_new hkl] at h2
    exact ⟨w9, h1, h2⟩)
  have HF : Hid (∀ (W : World) (g' c' : Nat), Hp o W (rowI (.slice (some ⟨g', 0, none⟩) 1 c') [n] :: mapT 9 elS M (S ++ [(k, [n])]).length (cm + 1) (lookL (slL L ++ [(k, ⟨some ⟨g', 0, none⟩, 1, c'⟩)])) :: recT R (keysL (S ++ [(k, [n])])) :: star (L.map rowK) :: l) → Hp o W (rowsT R M (S ++ [(k, [n])]) (N + 1) :: l)) := Lib.hid (fun W g' c' hh => by
    refine rows_back (LA := L) (LB := []) (A := S) (B := []) (ids := [n]) (g := g') (c := c') h1 rfl (by omega : cm + 1 ≤ N + 1) (hok.new hin hk hn) rfl ?_
    rw [List.append_nil]
    exact hh)
  have HG3 : ∃ G3 : Nat → Nat → ByteArray → Option Sl, Hid (∀ g' c', lookL (slL L ++ [(k, ⟨some ⟨g', 0, none⟩, 1, c'⟩)]) = G3 g' c') := ⟨_, Lib.hid (fun _ _ => rfl)⟩
  obtain ⟨G3, HG3⟩ := HG3
  simp only [HG3.out] at HPut HF
  clear HG3 h hw hkl hin hok h1 ew
  generalize L.map rowK = SK at *
  generalize lookL (slL L) = G1 at *
  generalize keysL (S ++ [(k, [n])]) = K2 at *
  generalize (S ++ [(k, [n])]).length = n2 at *
  generalize S ++ [(k, [n])] = FR at *
  generalize keysL S = K1 at *
  generalize S.length = n1 at *
  unfold rv ptr at *
  go_enter Try.func25, Try.ntmps25
  have H0 : Hid (Hp o (wb.alloc (.cells #[.pointer (some ⟨R, 0, none⟩), .map (some M)] 55)) (cellsT wb.heap.size [.pointer (some ⟨R, 0, none⟩), .map (some M)] :: recT R K1 :: mapT 9 elS M n1 cm G1 :: star SK :: l)) := H0
  go_upto_region 1 with fail
  generalize wb.alloc (.cells #[.pointer (some ⟨R, 0, none⟩), .map (some M)] 55) = W0 at *
  generalize wb.heap.size = BX at *
  have c0 := H0.out.cell 0 rfl
  have HH := Lib.hid (rec_has (H0.out.pull 1 rfl) (Below.refl _ _) k HKs.out false HIn)
  go_wp2_with fail
  refine HH.out.mono ?_; rintro en w1 ⟨rfl, rfl⟩
  have HT := Lib.hid (rec_touch (H0.out.pull 1 rfl) (Below.refl _ _) k HKs.out HKl.out)
  rw [HTk.out, HIn.out] at HT
  clear HH
  go_wp2_with fail
  refine HT.out.mono ?_; rintro en w2 ⟨rfl, h2, -⟩
  have H1 : Hid (Hp o w2.drew (recT R K2 :: cellsT BX [.pointer (some ⟨R, 0, none⟩), .map (some M)] :: mapT 9 elS M n1 cm G1 :: star SK :: l)) := Lib.hid (h2.bel (Below.refl _ _).drew)
  clear h2 HT c0 H0
  go_wp2_with fail
  have S1 : Hid (w2.drew.cell? ⟨BX, 1, none⟩ = some (.map (some M))) := Lib.hid ((H1.out.pull 1 rfl).cell 1 rfl)
  have hlk := Sp.Hp.mapLook (T := 51) (H1.out.pull 2 rfl) Try.underlying9 Try.underlying51 k HKs.out
  rw [HLs.out] at hlk
  have HE := Lib.hid (HW.out _ _ H1.out)
  go_region_held3 (fun W : World => W.cell? ⟨BX, 1, none⟩ = some (.map (some M)))
    (first | exact S1.out | exact S2.out | exact S3.out)
    (first
      | (go_at_call 36; with_reducible refine HE.out.mono ?_; rintro en8 w8 ⟨g', c', rfl, h8⟩; obtain ⟨w9, hr9, h9⟩ := HPut.out _ _ g' c' (h8.pull 3 rfl); have S2 : Hid (w8.cell? ⟨BX, 1, none⟩ = some (.map (some M))) := Lib.hid ((h8.pull 2 rfl).cell 1 rfl); have S3 : Hid (w9.cell? ⟨BX, 1, none⟩ = some (.map (some M))) := Lib.hid ((h9.pull 3 rfl).cell 1 rfl); have H9 := Lib.hid h9; clear h8 h9))
  all_goals (
    have H9 : Hid (Hp o w9 (mapT 9 elS M n2 (cm + 1) (G3 g' c') :: rowI (.slice (some ⟨g', 0, none⟩) 1 c') [n] :: recT R K2 :: cellsT BX [.pointer (some ⟨R, 0, none⟩), .map (some M)] :: star SK :: l)) := H9
    clear HE hlk S1 S2 H1 hr9
    go_wp2_with fail
    first | go_end0 | refine bodyPost_ret (results_none rfl _ _ _) rfl ?_
    exact ⟨rfl, HF.out _ _ _ ((H9.out.dropAt 3 rfl).swap)⟩)
/-- put. -/
theorem put_calls (h : Hp o w (rowsT R M S N :: l)) (hw : Below w.heap.size w wb) (hk : k.size ≤ maxLen) (hS : S.length ≤ 1000000) (hl : ∀ r ∈ S, r.2.length ≤ 1000000) (hN : N ≤ 1000000000) (n : Int) (hn : (Lit.int .i64 n).wf = true) :
    Calls Try.prog 25 #[rv R M, .string k, .int .i64 n] wb fun e w' => e = .returned (.tuple #[]) ∧ Hp o w' (rowsT R M (addR k n S) (N + 1) :: l) := by
  by_cases hin : k ∈ keysL S
  · obtain ⟨A, ids, B, rfl⟩ := key_split hin
    rw [add_mid (rows_ok h).mid]
    exact put_in h hw hk (hl (k, ids) (List.mem_append.2 (.inr (List.mem_cons_self ..)))) hN n hn
  · rw [add_new hin]
    exact put_new h hw hk hS hN hin n hn
end
end Go.Proofs.Ytkpcobaklbfpcaa.Ka
