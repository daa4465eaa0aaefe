/- Package keys: Add, Drop. Conditions: bounds. -/
import Derived.Test.YtkpcobaklbfpcaaKb9
namespace Go.Proofs.Ytkpcobaklbfpcaa.Ka
set_option linter.unusedVariables false
set_option linter.unusedSimpArgs false
open Go.ChangeShapes Go.WideShapes Go.ChangeAt Go.RowKit Go.Maps Go.WideMaps
open Sp (Th Hp Stays All cellsT rowT exT puT star mapT setG Sl)
open Ca (inK inK_iff inK_false dropK dropK_none touchK oldK)
theorem room_sub (m : Nat) (k : ByteArray) (S : Rows) : List.Sublist (roomR m k S) S := by
  unfold roomR
  split
  · exact List.tail_sublist _
  · exact List.Sublist.refl _
section
variable {o w w' wb : World} {l : List Th} {v : Value} {ids : List Int} {R M N T m : Nat} {S A B : Rows} {k : ByteArray}
set_option maxHeartbeats 4000000 in
set_option maxRecDepth 100000 in
theorem add_calls (h : Hp o w (keysT T (m : Int) S N :: l)) (hw : Below w.heap.size w wb) (hk : k.size ≤ maxLen) (hm : 1 ≤ m) (hS : S.length ≤ 1000000) (hl : ∀ r ∈ S, r.2.length ≤ 1000000) (hN : N ≤ 1000000000) (n : Int) (hn : (Lit.int .i64 n).wf = true) :
    Calls Try.prog 9 #[ptr T, .string k, .int .i64 n] wb fun e w' => ∃ v, e = .returned (.tuple #[.string (goneR m k S).1, v, .bool (fullR m k S)]) ∧ Hp o w' (rowI v (goneR m k S).2 :: keysT T (m : Int) (addR k n (roomR m k S)) (N + 1) :: l) := by
  have HR := Lib.hid (room_calls h hw hk hm hS)
  have hsub := room_sub m k S
  have HP : Hid (∀ (W : World) (R M : Nat) (ll : List Th), Hp o W (rowsT R M (roomR m k S) N :: ll) → Calls Try.prog 25 #[rv R M, .string k, .int .i64 n] W fun e w' => e = .returned (.tuple #[]) ∧ Hp o w' (rowsT R M (addR k n (roomR m k S)) (N + 1) :: ll)) := Lib.hid (fun W R M ll hh => put_calls hh (Below.refl _ _) hk (Nat.le_trans hsub.length_le hS) (fun r hr => hl r (hsub.subset hr)) hN n hn)
  clear h hw hsub hl
  generalize addR k n (roomR m k S) = S2 at *
  generalize roomR m k S = S1 at *
  generalize (goneR m k S).1 = gk0 at *
  generalize (goneR m k S).2 = gi0 at *
  generalize fullR m k S = fb at *
  unfold rv at HP
  unfold ptr at *
  go_enter Try.func9, Try.ntmps9
  go_wp2_with fail
  refine HR.out.mono ?_; rintro en w1 ⟨v, rfl, h1⟩
  obtain ⟨R, M, h2⟩ := keys_open h1.swap
  have c0 := h2.cell 0 rfl
  have c1 := h2.cell 1 rfl
  have HP1 := Lib.hid (HP.out _ _ _ _ (h2.pull 1 rfl))
  clear h1 h2 HR HP
  unfold ptr at *
  go_wp2_with fail
  refine HP1.out.mono ?_; rintro en w2 ⟨rfl, h3⟩
  have H3 := Lib.hid h3
  clear h3 HP1 c0 c1
  go_wp2_with fail
  go_ret3
  exact ⟨v, rfl, (keys_shut (H3.out.sel [1, 0] rfl)).swap⟩
theorem drop_step (n : Int) (S : Rows) {j : Nat} (hj : j < S.length) : dropR n (S.take (j + 1)) ++ S.drop (j + 1) = dropR n (S.take j) ++ cutR n S[j] ++ S.drop (j + 1) := by
  rw [← List.take_append_getElem hj, drop_app, drop_one]
theorem drop_here (n : Int) (S : Rows) {j : Nat} (hj : j < S.length) : dropR n (S.take j) ++ S.drop j = dropR n (S.take j) ++ (S[j].1, S[j].2) :: S.drop (j + 1) := by
  rw [List.drop_eq_getElem_cons hj]
set_option maxHeartbeats 8000000 in
set_option maxRecDepth 100000 in
theorem drop_calls {mi : Int} (h : Hp o w (keysT T mi S N :: l)) (hw : Below w.heap.size w wb) (hS : S.length ≤ 1000000) (hl : ∀ r ∈ S, r.2.length ≤ 1000000) (hN : N ≤ 100000000) (n : Int) :
    Calls Try.prog 15 #[ptr T, .int .i64 n] wb fun e w' => e = .returned (.int .i64 ((S.length : Int) - (dropR n S).length)) ∧ Hp o w' (keysT T mi (dropR n S) (N + S.length) :: l) := by
  have hok := keys_ok h
  have hb := h.bel hw
  have HL := Lib.hid (len_calls hb (Below.refl _ _))
  have HA := Lib.hid (all_calls hb (Below.refl _ _) hS)
  have HB := Lib.hid hb
  have HKs : Hid (∀ j (hj : j < S.length), (keysL S)[j]? = some S[j].1 ∧ S[j].1.size ≤ maxLen ∧ S[j].2.length ≤ 1000000) := Lib.hid (fun j hj => ⟨by unfold keysL; rw [List.getElem?_map, List.getElem?_eq_getElem hj]; rfl, hok.ks _ (List.getElem_mem hj), hl _ (List.getElem_mem hj)⟩)
  have HKl := Lib.hid (keys_len S)
  have hdl := drop_len n S
  clear h hw hb hok hl
  unfold ptr at *
  go_enter Try.func15, Try.ntmps15
  go_wp2_with fail
  refine HL.out.mono ?_; rintro en w1 ⟨rfl, rfl⟩
  go_wp2_with fail
  refine HA.out.mono ?_; rintro en w2 ⟨v, rfl, h2⟩
  obtain ⟨a, c, rfl, -, hc, hI, -⟩ := h2.slice
  have H2 := Lib.hid (HB.out.rowAdd h2.bel h2.row (Nat.le_refl _))
  have ha : Hid (0 < S.length → ∃ g, a = some ⟨g, 0, none⟩) := Lib.hid (fun h => by
    obtain ⟨g, e, -⟩ := hI 0 (by rw [HKl.out]; exact h)
    exact ⟨g, e⟩)
  clear h2 hI HL HA HB
  rw [HKl.out] at H2 ⊢
  go_wp2_with fail
  go_loopg [7, 13] (S.length + 1) (fun g _ vi wr => ∃ j : Nat, vi = .int .i64 j ∧ j ≤ S.length ∧ S.length - j ≤ g ∧ Hid (Hp o wr (rowT 9 1 (.slice a S.length c) S.length (Ca.cellsT (keysL S)) :: keysT T mi (dropR n (S.take j) ++ S.drop j) (N + j) :: l)))
  case atStart => exact ⟨0, rfl, by omega, by omega, H2⟩
  case round =>
    obtain ⟨j, rfl, hj, hg, HH⟩ := hrel
    clear H2
    by_cases hjl : j < S.length
    case pos =>
      have hjc : (j : Int) < (S.length : Int) := by omega
      obtain ⟨g0, rfl⟩ := ha.out (by omega)
      obtain ⟨e1, hks, hls⟩ := HKs.out j hjl
      have d0 := HH.out.rowCell (j := j) (by omega)
      have e2 : (Ca.cellsT (keysL S))[j]? = some (.string S[j].1) := by
        unfold Ca.cellsT
        rw [List.getElem?_map, e1]; rfl
      rw [e2] at d0
      have h1 := HH.out
      rw [drop_here n S hjl] at h1
      obtain ⟨R, M, h2⟩ := keys_open (h1.pull 1 rfl)
      have c0 := h2.cell 0 rfl
      have c1 := h2.cell 1 rfl
      have HP := Lib.hid (part_calls (h2.pull 1 rfl) (Below.refl _ _) hks hls (by omega) n)
      rw [← drop_step n S hjl] at HP
      clear h1 h2 e1 e2 HH
      unfold rv at HP
      unfold ptr at *
      generalize S[j].1 = k at *
      go_wp2_with fail
      refine HP.out.mono ?_; rintro en w3 ⟨rfl, h3⟩
      have H3 := Lib.hid ((keys_shut (h3.sel [1, 0] rfl)).swap)
      clear h3 HP c0 c1 d0
      go_wp2_with fail
      go_roundg (gk - 1)
      case measure => omega
      case rel => exact ⟨j + 1, by go_num, by omega, by omega, H3⟩
    case neg =>
      have hjc : ¬ ((j : Int) < (S.length : Int)) := by omega
      have e : j = S.length := by omega
      subst e
      have h1 := HH.out
      rw [List.take_length, List.drop_length, List.append_nil] at h1
      have HL2 := Lib.hid (len_calls (h1.pull 1 rfl) (Below.refl _ _))
      have H1 := Lib.hid h1
      clear h1 HH
      unfold ptr at HL2
      have hsub : IntKind.i64.wrap ((S.length : Int) - ((dropR n S).length : Int)) = (S.length : Int) - ((dropR n S).length : Int) := by rw [IntKind.wrap_i64]; omega
      go_wp2_with fail
      refine HL2.out.mono ?_; rintro en w3 ⟨rfl, rfl⟩
      go_wp2_with fail
      go_ret
      exact ⟨rfl, H1.out.dropAt 0 rfl⟩
end
end Go.Proofs.Ytkpcobaklbfpcaa.Ka
