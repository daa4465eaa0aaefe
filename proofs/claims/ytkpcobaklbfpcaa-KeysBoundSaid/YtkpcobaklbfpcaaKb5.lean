/- Package keys: take, part, put of rows. Conditions: bounds. -/
import Derived.Test.YtkpcobaklbfpcaaKb4
namespace Go.Proofs.Ytkpcobaklbfpcaa.Ka
set_option linter.unusedVariables false
set_option linter.unusedSimpArgs false
open Go.ChangeShapes Go.WideShapes Go.ChangeAt Go.RowKit Go.Maps Go.WideMaps
open Sp (Th Hp Stays All cellsT rowT exT puT star mapT setG Sl)
open Ca (inK inK_iff inK_false dropK dropK_none touchK)
section
variable {o w w' wb : World} {l : List Th} {v : Value} {ids : List Int} {R M N : Nat} {S A B : Rows} {k : ByteArray}
theorem drop_key {A B : Rows} {k : ByteArray} {ids : List Int} (hm : Mid k A B) : dropK k (keysL (A ++ (k, ids) :: B)) = keysL (A ++ B) := by rw [← take_keys, take_mid hm]
theorem look_slice {LA LB : Kl} {g n c : Nat} (hm : Mid k (slL LA) (slL LB)) : elS.enc ((lookL (slL LA ++ (k, ⟨some ⟨g, 0, none⟩, n, c⟩) :: slL LB) k).getD elS.zero) = .slice (some ⟨g, 0, none⟩) n c := by rw [look_mid hm]; rfl
set_option maxHeartbeats 4000000 in
set_option maxRecDepth 100000 in
theorem take_raw {LA LB : Kl} {g c cm n : Nat} (hA : plain LA = A) (hB : plain LB = B) (hm : Mid k A B) (hn : (A ++ B).length + 1 = n) (hk : k.size ≤ maxLen)
    (h : Hp o w (rowI (.slice (some ⟨g, 0, none⟩) ids.length c) ids :: mapT 9 elS M n cm (lookL (slL LA ++ (k, ⟨some ⟨g, 0, none⟩, ids.length, c⟩) :: slL LB)) :: recT R (keysL (A ++ (k, ids) :: B)) :: star ((LA ++ LB).map rowK) :: l)) (hw : Below w.heap.size w wb) :
    Calls Try.prog 27 #[rv R M, .string k] wb fun e w' => e = .returned (.slice (some ⟨g, 0, none⟩) ids.length c) ∧ Hp o w' (rowI (.slice (some ⟨g, 0, none⟩) ids.length c) ids :: mapT 9 elS M (A ++ B).length cm (lookL (slL LA ++ slL LB)) :: recT R (keysL (A ++ B)) :: star ((LA ++ LB).map rowK) :: l) := by
  have hms := mid_sl hm hA hB
  have H0 := Lib.hid ((h.bel hw).cellsNew [ptr R, .map (some M)] 55)
  have HN : Hid (n - (if (lookL (slL LA ++ (k, ⟨some ⟨g, 0, none⟩, ids.length, c⟩) :: slL LB) k).isSome = true then 1 else 0) = (A ++ B).length) := Lib.hid (by
    rw [look_mid hms]
    show n - (if true = true then 1 else 0) = _
    rw [if_pos rfl, ← hn, Nat.add_sub_cancel])
  have HS := Lib.hid (set_del hms ⟨some ⟨g, 0, none⟩, ids.length, c⟩)
  have HDk := Lib.hid (drop_key (ids := ids) hm)
  have HKs := Lib.hid hk
  have HLs := Lib.hid (look_slice (g := g) (n := ids.length) (c := c) hms)
  clear h hw hn hm hms hA hB
  generalize (LA ++ LB).map rowK = SK at *
  generalize (A ++ B).length = n2 at *
  generalize keysL (A ++ B) = K2 at *
  generalize keysL (A ++ (k, ids) :: B) = K1 at *
  generalize lookL (slL LA ++ slL LB) = G2 at *
  generalize lookL (slL LA ++ (k, ⟨some ⟨g, 0, none⟩, ids.length, c⟩) :: slL LB) = G1 at *
  unfold rv ptr at *
  go_enter Try.func27, Try.ntmps27
  have H0 : Hid (Hp o (wb.alloc (.cells #[.pointer (some ⟨R, 0, none⟩), .map (some M)] 55)) (cellsT wb.heap.size [.pointer (some ⟨R, 0, none⟩), .map (some M)] :: rowI (.slice (some ⟨g, 0, none⟩) ids.length c) ids :: mapT 9 elS M n cm G1 :: recT R K1 :: star SK :: l)) := H0
  go_upto_region 1 with fail
  generalize wb.alloc (.cells #[.pointer (some ⟨R, 0, none⟩), .map (some M)] 55) = W0 at *
  generalize wb.heap.size = BX at *
  have c0 := H0.out.cell 0 rfl
  have c1 := H0.out.cell 1 rfl
  have hlk := Sp.Hp.mapLook (T := 51) (H0.out.pull 2 rfl) Try.underlying9 Try.underlying51 k HKs.out
  rw [HLs.out] at hlk
  go_wp2_with (at_delete; refine Sp.Hp.mapDel (H0.out.pull 2 rfl) rfl _ _ 51 _ rfl rfl Try.underlying9 Try.underlying51 rfl k rfl HKs.out n2 HN.out ?_)
  intro w1 h1
  rw [HS.out] at h1
  have H1 : Hid (Hp o w1 (mapT 9 elS M n2 cm G2 :: cellsT BX [.pointer (some ⟨R, 0, none⟩), .map (some M)] :: rowI (.slice (some ⟨g, 0, none⟩) ids.length c) ids :: recT R K1 :: star SK :: l)) := Lib.hid h1
  clear h1 c0 c1 hlk H0
  have c0 := (H1.out.pull 1 rfl).cell 0 rfl
  have HD := Lib.hid (rec_drop (H1.out.pull 3 rfl) (Below.refl _ _) k HKs.out)
  rw [HDk.out] at HD
  generalize inK k K1 = b0 at *
  go_wp2_with fail
  refine HD.out.mono ?_; rintro en w2 ⟨rfl, h2, -⟩
  have H2 : Hid (Hp o w2 (recT R K2 :: mapT 9 elS M n2 cm G2 :: cellsT BX [.pointer (some ⟨R, 0, none⟩), .map (some M)] :: rowI (.slice (some ⟨g, 0, none⟩) ids.length c) ids :: star SK :: l)) := Lib.hid h2
  clear h2 HD c0 H1
  go_wp2_with fail
  go_ret
  refine ⟨rfl, ?_⟩
  have h3 := H2.out.dropAt 2 rfl
  exact (h3.pull 1 rfl).pull 2 rfl
set_option maxHeartbeats 4000000 in
set_option maxRecDepth 100000 in
theorem take_no (h : Hp o w (rowsT R M S N :: l)) (hw : Below w.heap.size w wb) (hk : k.size ≤ maxLen) (hin : k ∉ keysL S) :
    Calls Try.prog 27 #[rv R M, .string k] wb fun e w' => e = .returned (.slice none 0 0) ∧ Hp o w' (rowsT R M S N :: l) := by
  obtain ⟨L, cm, h1, hok, hcm, h⟩ := rows_open h
  have hkl : k ∉ keysL (slL L) := by rw [plain_keys, h1]; exact hin
  have H0 := Lib.hid ((h.bel hw).cellsNew [ptr R, .map (some M)] 55)
  have HN : Hid (S.length - (if (lookL (slL L) k).isSome = true then 1 else 0) = S.length) := Lib.hid (by rw [look_none hkl]; rfl)
  have HS := Lib.hid (set_none hkl)
  have HDk := Lib.hid (dropK_none hin)
  have HKs := Lib.hid hk
  have HOK := Lib.hid hok
  have HLs : Hid (elS.enc ((lookL (slL L) k).getD elS.zero) = .slice none 0 0) := Lib.hid (by rw [look_none hkl]; rfl)
  have HI := Lib.hid (inK_false.2 hin)
  clear h hw hkl hin hok
  unfold rv ptr at *
  go_enter Try.func27, Try.ntmps27
  have H0 : Hid (Hp o (wb.alloc (.cells #[.pointer (some ⟨R, 0, none⟩), .map (some M)] 55)) (cellsT wb.heap.size [.pointer (some ⟨R, 0, none⟩), .map (some M)] :: recT R (keysL S) :: mapT 9 elS M S.length cm (lookL (slL L)) :: star (L.map rowK) :: l)) := H0
  go_upto_region 1 with fail
  generalize wb.alloc (.cells #[.pointer (some ⟨R, 0, none⟩), .map (some M)] 55) = W0 at *
  generalize wb.heap.size = BX at *
  have c0 := H0.out.cell 0 rfl
  have c1 := H0.out.cell 1 rfl
  have hlk := Sp.Hp.mapLook (T := 51) (H0.out.pull 2 rfl) Try.underlying9 Try.underlying51 k HKs.out
  rw [HLs.out] at hlk
  go_wp2_with (at_delete; refine Sp.Hp.mapDel (H0.out.pull 2 rfl) rfl _ _ 51 _ rfl rfl Try.underlying9 Try.underlying51 rfl k rfl HKs.out S.length HN.out ?_)
  intro w1 h1
  rw [HS.out] at h1
  have H1 : Hid (Hp o w1 (mapT 9 elS M S.length cm (lookL (slL L)) :: cellsT BX [.pointer (some ⟨R, 0, none⟩), .map (some M)] :: recT R (keysL S) :: star (L.map rowK) :: l)) := Lib.hid h1
  clear h1 c0 c1 hlk H0
  have c0 := (H1.out.pull 1 rfl).cell 0 rfl
  have HD := Lib.hid (rec_drop (H1.out.pull 2 rfl) (Below.refl _ _) k HKs.out)
  rw [HDk.out, HI.out] at HD
  go_wp2_with fail
  refine HD.out.mono ?_; rintro en w2 ⟨rfl, h2, -⟩
  have H2 : Hid (Hp o w2 (recT R (keysL S) :: mapT 9 elS M S.length cm (lookL (slL L)) :: cellsT BX [.pointer (some ⟨R, 0, none⟩), .map (some M)] :: star (L.map rowK) :: l)) := Lib.hid h2
  clear h2 HD c0 H1
  go_wp2_with fail
  go_ret
  exact ⟨rfl, rows_shut h1 HOK.out hcm (H2.out.dropAt 2 rfl)⟩
/-- take. -/
theorem take_calls (h : Hp o w (rowsT R M S N :: l)) (hw : Below w.heap.size w wb) (hk : k.size ≤ maxLen) :
    Calls Try.prog 27 #[rv R M, .string k] wb fun e w' => ∃ v, e = .returned v ∧ Hp o w' (rowI v (idsR k S) :: rowsT R M (takeR k S) N :: l) := by
  by_cases hin : k ∈ keysL S
  · obtain ⟨A, ids, B, rfl⟩ := key_split hin
    have hok := rows_ok h
    obtain ⟨LA, LB, g, c, cm, hA, hB, hc, h⟩ := rows_mid h
    refine (take_raw hA hB hok.mid (by simp [List.length_append]; omega) hk h hw).mono ?_
    rintro e w' ⟨rfl, h1⟩
    refine ⟨_, rfl, ?_⟩
    rw [ids_mid hok.mid, take_mid hok.mid]
    exact (rows_gone hA hB hc (by have := hok.take k; rwa [take_mid hok.mid] at this) rfl ((((h1.pull 0 rfl).pull 3 rfl).pull 3 rfl).pull 3 rfl)).swap
  · rw [ids_none hin, take_none hin]
    refine (take_no h hw hk hin).mono ?_
    rintro e w' ⟨rfl, h1⟩
    exact ⟨_, rfl, h1.rowNil 3 1⟩
end
end Go.Proofs.Ytkpcobaklbfpcaa.Ka
