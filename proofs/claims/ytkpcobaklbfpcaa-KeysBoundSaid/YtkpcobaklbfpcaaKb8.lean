/- Package keys: Len, All, Ids, Take, Clear, makeRoom, Add. Conditions: bounds. -/
import Derived.Test.YtkpcobaklbfpcaaKb7
namespace Go.Proofs.Ytkpcobaklbfpcaa.Ka
set_option linter.unusedVariables false
set_option linter.unusedSimpArgs false
open Go.ChangeShapes Go.WideShapes Go.ChangeAt Go.RowKit Go.Maps Go.WideMaps
open Sp (Th Hp Stays All cellsT rowT exT puT star mapT setG Sl)
open Ca (inK inK_iff inK_false dropK dropK_none touchK oldK)
theorem keys_len (S : Rows) : (keysL S).length = S.length := List.length_map _
/-- What goes to make room. -/
def goneR (m : Nat) (k : ByteArray) (S : Rows) : ByteArray × List Int := if fullR m k S = true then S.headD (⟨#[]⟩, []) else (⟨#[]⟩, [])
section
variable {o w w' wb : World} {l : List Th} {v : Value} {ids : List Int} {R M N T m : Nat} {S A B : Rows} {k : ByteArray}
set_option maxHeartbeats 4000000 in
set_option maxRecDepth 100000 in
theorem len_calls {mi : Int} (h : Hp o w (keysT T mi S N :: l)) (hw : Below w.heap.size w wb) :
    Calls Try.prog 17 #[ptr T] wb fun e w' => e = .returned (.int .i64 S.length) ∧ wb = w' := by
  obtain ⟨R, M, h⟩ := keys_open (h.bel hw)
  have c0 := h.cell 0 rfl
  obtain ⟨L, c, -, -, -, h1⟩ := rows_open (h.pull 1 rfl)
  have HL := Lib.hid (rec_len h1 (Below.refl _ _))
  rw [keys_len] at HL
  clear h h1 hw
  unfold ptr at *
  go_enter Try.func17, Try.ntmps17
  go_wp2_with fail
  refine HL.out.mono ?_; rintro en w1 ⟨rfl, rfl⟩
  go_wp2_with fail
  go_ret
  exact ⟨rfl, rfl⟩
set_option maxHeartbeats 4000000 in
set_option maxRecDepth 100000 in
theorem all_calls {mi : Int} (h : Hp o w (keysT T mi S N :: l)) (hw : Below w.heap.size w wb) (hS : S.length ≤ 1000000) :
    Calls Try.prog 19 #[ptr T] wb fun e w' => ∃ v, e = .returned v ∧ Ca.RowT wb w' v (keysL S) := by
  obtain ⟨R, M, h⟩ := keys_open (h.bel hw)
  have c0 := h.cell 0 rfl
  obtain ⟨L, c, -, -, -, h1⟩ := rows_open (h.pull 1 rfl)
  have HL := Lib.hid (rec_all h1 (Below.refl _ _) (by rw [keys_len]; exact hS))
  clear h h1 hw
  unfold ptr at *
  go_enter Try.func19, Try.ntmps19
  go_wp2_with fail
  refine HL.out.mono ?_; rintro en w1 ⟨v, rfl, h2⟩
  have H2 := Lib.hid h2
  clear h2 HL
  go_wp2_with fail
  go_ret
  exact ⟨v, rfl, H2.out⟩
set_option maxHeartbeats 4000000 in
set_option maxRecDepth 100000 in
theorem ids_calls {mi : Int} (h : Hp o w (keysT T mi S N :: l)) (hw : Below w.heap.size w wb) (hk : k.size ≤ maxLen) (hl : (idsR k S).length ≤ 1000000) :
    Calls Try.prog 21 #[ptr T, .string k] wb fun e w' => ∃ v, e = .returned v ∧ Hp o w' (rowI v (idsR k S) :: keysT T mi S N :: l) := by
  obtain ⟨R, M, h⟩ := keys_open (h.bel hw)
  have c1 := h.cell 1 rfl
  have hok := rows_ok (h.pull 1 rfl)
  have key : ∃ (v0 : Value) (lx : List Th) (cm : Nat) (G : ByteArray → Option Sl), Hp o wb (rowI v0 (idsR k S) :: mapT 9 elS M S.length cm G :: lx) ∧ elS.enc ((G k).getD elS.zero) = v0 ∧ ∀ W v, Hp o W (rowI v (idsR k S) :: rowI v0 (idsR k S) :: mapT 9 elS M S.length cm G :: lx) → Hp o W (rowI v (idsR k S) :: keysT T mi S N :: l) := by
    by_cases hin : k ∈ keysL S
    · obtain ⟨A, ids, B, rfl⟩ := key_split hin
      rw [ids_mid hok.mid]
      obtain ⟨LA, LB, g, c, cm, hA, hB, hc, h1⟩ := rows_mid (h.pull 1 rfl)
      refine ⟨_, _, cm, _, h1, look_slice (mid_sl hok.mid hA hB), fun W v hh => ?_⟩
      have h3 := rows_back hA hB hc hok rfl (hh.sel [1, 2, 3, 4] rfl)
      exact (keys_shut (h3.sel [2, 0] rfl)).swap
    · rw [ids_none hin]
      obtain ⟨L, cm, e1, -, hc, h1⟩ := rows_open (h.pull 1 rfl)
      have hkl : k ∉ keysL (slL L) := by rw [plain_keys, e1]; exact hin
      have h2 := Hp.sel (h1.rowNil 3 1) [0, 2] rfl
      refine ⟨_, _, cm, _, h2, by rw [look_none hkl]; rfl, fun W v hh => ?_⟩
      have g1 := rows_shut e1 hok hc (hh.sel [3, 2, 4] rfl)
      exact (keys_shut (g1.sel [3, 0] rfl)).sel [1, 0] rfl |>.dropAt 2 rfl
  obtain ⟨v0, lx, cm, G, h1, hv, h3⟩ := key
  have HL := Lib.hid (clone_calls h1 (Below.refl _ _) hl)
  have hlk := Sp.Hp.mapLook (T := 51) (h1.pull 1 rfl) Try.underlying9 Try.underlying51 k hk
  rw [hv] at hlk
  have HF := Lib.hid h3
  clear h h1 hw h3 hv hok
  generalize idsR k S = D at *
  unfold ptr at *
  go_enter Try.func21, Try.ntmps21
  go_wp2_with fail
  refine HL.out.mono ?_; rintro en w1 ⟨v, rfl, h2, -⟩
  have H2 := Lib.hid h2
  clear h2 HL
  go_wp2_with fail
  go_ret
  exact ⟨v, rfl, HF.out _ _ H2.out⟩
end
end Go.Proofs.Ytkpcobaklbfpcaa.Ka
