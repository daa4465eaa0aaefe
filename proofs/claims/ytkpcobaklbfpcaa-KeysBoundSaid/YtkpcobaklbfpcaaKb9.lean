/- Package keys: Take, Clear, makeRoom, Add. Conditions: bounds. -/
import Derived.Test.YtkpcobaklbfpcaaKb8
namespace Go.Proofs.Ytkpcobaklbfpcaa.Ka
set_option linter.unusedVariables false
set_option linter.unusedSimpArgs false
open Go.ChangeShapes Go.WideShapes Go.ChangeAt Go.RowKit Go.Maps Go.WideMaps
open Sp (Th Hp Stays All cellsT rowT exT puT star mapT setG Sl)
open Ca (inK inK_iff inK_false dropK dropK_none touchK oldK)
section
variable {o w w' wb : World} {l : List Th} {v : Value} {ids : List Int} {R M N T m : Nat} {S A B : Rows} {k : ByteArray}
set_option maxHeartbeats 4000000 in
set_option maxRecDepth 100000 in
theorem ktake_calls {mi : Int} (h : Hp o w (keysT T mi S N :: l)) (hw : Below w.heap.size w wb) (hk : k.size ≤ maxLen) :
    Calls Try.prog 12 #[ptr T, .string k] wb fun e w' => ∃ v, e = .returned v ∧ Hp o w' (rowI v (idsR k S) :: keysT T mi (takeR k S) N :: l) := by
  obtain ⟨R, M, h⟩ := keys_open (h.bel hw)
  have c0 := h.cell 0 rfl
  have c1 := h.cell 1 rfl
  have HL := Lib.hid (take_calls (h.pull 1 rfl) (Below.refl _ _) hk)
  clear h hw
  unfold rv at HL
  unfold ptr at *
  go_enter Try.func12, Try.ntmps12
  go_wp2_with fail
  refine HL.out.mono ?_; rintro en w1 ⟨v, rfl, h2⟩
  have H2 := Lib.hid h2
  clear h2 HL
  go_wp2_with fail
  go_ret
  exact ⟨v, rfl, (keys_shut (H2.out.sel [2, 1] rfl)).swap⟩
set_option maxHeartbeats 4000000 in
set_option maxRecDepth 100000 in
theorem clear_calls {mi : Int} (h : Hp o w (keysT T mi S N :: l)) (hw : Below w.heap.size w wb) :
    Calls Try.prog 14 #[ptr T] wb fun e w' => e = .returned (.tuple #[]) ∧ Hp o w' (keysT T mi [] N :: l) := by
  obtain ⟨R, M, h⟩ := keys_open (h.bel hw)
  have HL := Lib.hid (none_calls h (Below.refl _ _))
  clear h hw
  unfold rv at HL
  unfold ptr at *
  go_enter Try.func14, Try.ntmps14
  go_wp2_with fail
  refine HL.out.mono ?_; rintro en w1 ⟨R2, M2, rfl, h2⟩
  have H2 := Lib.hid (h2.pull 1 rfl)
  have c0 := H2.out.cell 0 rfl
  have c1 := H2.out.cell 1 rfl
  have f0 := H2.out.free 0 rfl
  have f1 := H2.out.free 1 rfl
  clear h2 HL
  unfold ptr at *
  go_wp2_with fail
  first | go_end0 | refine bodyPost_ret (results_none rfl _ _ _) rfl ?_
  refine ⟨rfl, ?_⟩
  have h3 := (H2.out.cellSet 0 (ptr R2) rfl).cellSet 1 (.map (some M2)) rfl
  exact keys_more (keys_shut (h3.sel [0, 1] rfl |>.dropAt 2 rfl)) (Nat.zero_le _)
theorem full_parts {m : Nat} {k : ByteArray} {S : Rows} (hf : fullR m k S = true) (hm : 1 ≤ m) : inK k (keysL S) = false ∧ m ≤ S.length ∧ ∃ k0 i0 S', S = (k0, i0) :: S' := by
  unfold fullR at hf
  rw [Bool.and_eq_true] at hf
  have h2 : m ≤ S.length := of_decide_eq_true hf.2
  refine ⟨by simpa using hf.1, h2, ?_⟩
  cases S with
  | nil => simp at h2; omega
  | cons r S' => exact ⟨r.1, r.2, S', rfl⟩
set_option maxHeartbeats 8000000 in
set_option maxRecDepth 100000 in
theorem room_calls (h : Hp o w (keysT T (m : Int) S N :: l)) (hw : Below w.heap.size w wb) (hk : k.size ≤ maxLen) (hm : 1 ≤ m) (hS : S.length ≤ 1000000) :
    Calls Try.prog 24 #[ptr T, .string k] wb fun e w' => ∃ v, e = .returned (.tuple #[.string (goneR m k S).1, v, .bool (fullR m k S)]) ∧ Hp o w' (rowI v (goneR m k S).2 :: keysT T (m : Int) (roomR m k S) N :: l) := by
  have HK0 := Lib.hid (h.bel hw)
  obtain ⟨R, M, h⟩ := keys_open HK0.out
  have hok := rows_ok (h.pull 1 rfl)
  have c0 := h.cell 0 rfl
  have c2 := h.cell 2 rfl
  have HO := Lib.hid h
  have HHas : Hid (∀ n, Calls Try.prog 33 #[.pointer (some ⟨R, 0, none⟩), .string k] (wb.drewN n) fun e w' => e = .returned (.bool (inK k (keysL S))) ∧ ∃ q, w' = wb.drewN q) := Lib.hid (fun n => by
    obtain ⟨L, cm, -, -, -, h1⟩ := rows_open ((h.bel (drewN_below wb n)).pull 1 rfl)
    refine (rec_has h1 (Below.refl _ _) k hk (inK k (keysL S)) (Lib.hid rfl)).mono ?_
    rintro e w' ⟨rfl, rfl⟩
    exact ⟨rfl, n, rfl⟩)
  have HLen : Hid (∀ n, Calls Try.prog 29 #[.pointer (some ⟨R, 0, none⟩)] (wb.drewN n) fun e w' => e = .returned (.int .i64 S.length) ∧ ∃ q, w' = wb.drewN q) := Lib.hid (fun n => by
    obtain ⟨L, cm, -, -, -, h1⟩ := rows_open ((h.bel (drewN_below wb n)).pull 1 rfl)
    refine (rec_len h1 (Below.refl _ _)).mono ?_
    rintro e w' ⟨rfl, rfl⟩
    exact ⟨by rw [keys_len], n, rfl⟩)
  clear h hw
  cases hf : fullR m k S with
  | false =>
    have eg : goneR m k S = (⟨#[]⟩, []) := by unfold goneR; rw [hf]; rfl
    have er : roomR m k S = S := by unfold roomR; rw [hf]; rfl
    rw [eg, er]
    have hcase : inK k (keysL S) = true ∨ (inK k (keysL S) = false ∧ S.length < m) := by
      unfold fullR at hf
      cases hi : inK k (keysL S) with
      | true => exact .inl rfl
      | false =>
        rw [hi] at hf
        have : ¬ m ≤ S.length := by simpa using hf
        exact .inr ⟨rfl, by omega⟩
    clear hf eg er
    unfold ptr at *
    rcases hcase with hi | ⟨hi, hlt⟩
    · rw [hi] at HHas
      go_enter Try.func24, Try.ntmps24
      go_wp2_with fail
      go_big_quiet (first | (go_at_call 33; with_reducible exact HHas.out _) | (go_at_call 29; with_reducible exact HLen.out _))
      go_wp2_with fail
      go_ret3
      exact ⟨_, rfl, (HK0.out.bel (drewN_below _ _)).rowNil 3 1⟩
    · rw [hi] at HHas
      have hlc : (S.length : Int) < (m : Int) := by omega
      go_enter Try.func24, Try.ntmps24
      go_wp2_with fail
      go_big_quiet (first | (go_at_call 33; with_reducible exact HHas.out _) | (go_at_call 29; with_reducible exact HLen.out _))
      go_wp2_with fail
      go_ret3
      exact ⟨_, rfl, (HK0.out.bel (drewN_below _ _)).rowNil 3 1⟩
  | true =>
    obtain ⟨hi, hml, k0, i0, S', rfl⟩ := full_parts hf hm
    have eg : goneR m k ((k0, i0) :: S') = (k0, i0) := by unfold goneR; rw [hf]; rfl
    have er : roomR m k ((k0, i0) :: S') = S' := by unfold roomR; rw [hf]; rfl
    rw [eg, er]
    have hnl : ¬ ((((k0, i0) :: S').length : Nat) : Int) < (m : Int) := by omega
    have hne : k0 ≠ k := fun e => by
      have := inK_false.1 hi
      exact this (by rw [← e]; exact List.mem_cons_self ..)
    have hold : Hid (oldK k (keysL ((k0, i0) :: S')) = some k0) := Lib.hid (by
      unfold oldK keysL
      rw [List.map_cons, List.find?_cons_of_pos (by simpa using hne)])
    have hk0 : k0.size ≤ maxLen := hok.ks _ (List.mem_cons_self ..)
    have hmid : Mid k0 ([] : Rows) S' := (show Ok ([] ++ (k0, i0) :: S') from hok).mid
    have HTk : Hid (∀ W, Below wb.heap.size wb W → Calls Try.prog 27 #[rv R M, .string k0] W fun e w' => ∃ v, e = .returned v ∧ Hp o w' (rowI v i0 :: rowsT R M S' N :: cellsT T [ptr R, .map (some M), .int .i64 m] :: l)) := Lib.hid (fun W hb => by
      have := take_calls ((HO.out.bel hb).pull 1 rfl) (Below.refl _ _) hk0
      rw [show idsR k0 ((k0, i0) :: S') = i0 from ids_mid (A := []) hmid, show takeR k0 ((k0, i0) :: S') = S' from take_mid (A := []) hmid] at this
      exact this)
    have HOl : Hid (∀ W, Below wb.heap.size wb W → Calls Try.prog 34 #[.pointer (some ⟨R, 0, none⟩), .string k] W fun e w' => e = .returned (.tuple #[.string k0, .bool true]) ∧ W = w') := Lib.hid (fun W hb => by
      obtain ⟨L, cm, -, -, -, h1⟩ := rows_open ((HO.out.bel hb).pull 1 rfl)
      exact rec_oldest h1 (Below.refl _ _) k (some k0) hold)
    have c1 := HO.out.cell 1 rfl
    rw [hi] at HHas
    clear hf eg er hok hold hmid hml hne
    generalize ((k0, i0) :: S').length = n at *
    unfold rv at HTk
    unfold ptr at *
    go_enter Try.func24, Try.ntmps24
    go_wp2_with fail
    go_big_quiet (first | (go_at_call 33; with_reducible exact HHas.out _) | (go_at_call 29; with_reducible exact HLen.out _))
    have HO1 := Lib.hid (HOl.out _ (drewN_below wb nq))
    have HT1 := Lib.hid (HTk.out _ (drewN_below wb nq))
    clear HOl HTk HHas HLen HK0
    go_wp2_with fail
    refine HO1.out.mono ?_; rintro en w3 ⟨rfl, rfl⟩
    go_wp2_with fail
    refine HT1.out.mono ?_; rintro en w4 ⟨v, rfl, h4⟩
    have H4 := Lib.hid h4
    clear h4 HT1 HO1 c0 c1 c2
    go_wp2_with fail
    go_ret3
    exact ⟨v, rfl, (keys_shut (H4.out.sel [2, 1] rfl)).swap⟩
end
end Go.Proofs.Ytkpcobaklbfpcaa.Ka
