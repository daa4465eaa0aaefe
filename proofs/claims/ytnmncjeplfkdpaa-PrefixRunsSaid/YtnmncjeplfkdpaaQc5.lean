/- Package prefix: Match, Of. Conditions: bounds. -/
import Derived.Test.YtnmncjeplfkdpaaQc4
import Derived.Test.YtnmncjeplfkdpaaPc2
namespace Go.Proofs.Ytnmncjeplfkdpaa.Qa
set_option linter.unusedVariables false
set_option linter.unusedSimpArgs false
open Go.ChangeShapes Go.WideShapes Go.ChangeAt Go.RowKit Go.Maps Go.WideMaps
open Ka
open Sp (Th Hp Stays All cellsT rowT exT puT star mapT setG Sl nmapT setN)
open Pb (TxE dat nd_leT MkI mk_cell begM_pre)
open Ma (srt)
/-- The clients that are told of a key. -/
def matP (key : ByteArray) (P : Pl) : List Int := scI ((P.filter fun p => Pa.begM key p.1).map (·.2))
theorem mat_mem (key : ByteArray) (P : Pl) (n : Int) : n ∈ matP key P ↔ ∃ k, (k, n) ∈ P ∧ k.data.toList <+: key.data.toList := by
  unfold matP
  rw [(sc_spec _).2, List.mem_map]
  constructor
  · rintro ⟨p, hp, rfl⟩
    obtain ⟨h1, h2⟩ := List.mem_filter.1 hp
    exact ⟨p.1, h1, (begM_pre _ _).1 h2⟩
  · rintro ⟨k, h1, h2⟩
    exact ⟨(k, n), List.mem_filter.2 ⟨h1, (begM_pre _ _).2 h2⟩, rfl⟩
theorem mat_up (key : ByteArray) (P : Pl) : Up (matP key P) := (sc_spec _).1
/-- What a walk over marks has gathered. -/
def gatI (S : Rows) (Q : List Pa.Mk) : List Int := Q.flatMap fun m => idsR m.1 S
theorem gat_snoc (S : Rows) (Q : List Pa.Mk) (m : Pa.Mk) : gatI S (Q ++ [m]) = gatI S Q ++ idsR m.1 S := by unfold gatI; simp
theorem gat_mat {P : Pl} {S : Rows} {F : Cl} (h : Rel P S F) {Q : List Pa.Mk} {key : ByteArray} (hQ : MkI Q (zL (keysL S)) (fun X => X <+: key.data.toList)) : scI (gatI S Q) = matP key P := by
  refine up_ext (sc_spec _).1 (mat_up _ _) fun n => ?_
  rw [(sc_spec _).2, mat_mem]
  unfold gatI
  rw [List.mem_flatMap]
  constructor
  · rintro ⟨m, hm, hn⟩
    obtain ⟨h1, h2⟩ := (hQ.mem m).1 hm
    exact ⟨m.1, (h.has m.1 n).1 hn, h2⟩
  · rintro ⟨k, h1, h2⟩
    have hk : k ∈ keysL S := (mem_keys_fst h k).2 ⟨n, h1⟩
    refine ⟨(k, 0), (hQ.mem (k, 0)).2 ⟨?_, h2⟩, (h.has k n).2 h1⟩
    unfold zL
    rw [if_pos (mem_dat.2 hk)]
theorem mark_key {S : Rows} {Q : List Pa.Mk} {Pr : Pb.T → Prop} (hQ : MkI Q (zL (keysL S)) Pr) {m : Pa.Mk} (hm : m ∈ Q) : m.1 ∈ keysL S := by
  have h1 := ((hQ.mem m).1 hm).1
  unfold zL at h1
  by_cases h : m.1.data.toList ∈ dat (keysL S)
  · exact mem_dat.1 h
  · rw [if_neg h] at h1; cases h1
theorem gat_len {S : Rows} {B : Nat} (hB : ∀ k, (idsR k S).length ≤ B) : ∀ Q : List Pa.Mk, (gatI S Q).length ≤ Q.length * B
  | [] => by simp [gatI]
  | m :: Q => by
    have h1 := gat_len hB Q
    have h2 := hB m.1
    have e : gatI S (m :: Q) = idsR m.1 S ++ gatI S Q := rfl
    rw [e, List.length_append, List.length_cons, Nat.succ_mul]
    omega
theorem idsR_le {S : Rows} {B : Nat} (h : ∀ r ∈ S, r.2.length ≤ B) (k : ByteArray) : (idsR k S).length ≤ B := by
  unfold idsR lookL
  cases e : S.find? (fun p => decide (p.1 = k)) with
  | none => exact Nat.zero_le _
  | some r => exact h r (List.mem_of_find?_eq_some e)
theorem compact_len (l : List Int) : (Lib.compact (l.mergeSort fun x y => decide (x ≤ y))).length ≤ (l.mergeSort fun x y => decide (x ≤ y)).length := by
  unfold Lib.compact Lib.compactUpTo
  rw [List.length_map]
  exact Nat.le_trans (List.length_filter_le _ _) (by rw [List.length_range]; exact Nat.le_refl _)
theorem mark_len {S : Rows} {Q : List Pa.Mk} {Pr : Pb.T → Prop} (hQ : MkI Q (zL (keysL S)) Pr) : Q.length ≤ S.length := by
  have h1 : (Q.map fun m => m.1).Nodup := by
    refine List.pairwise_map.2 (hQ.up.imp fun {a b} (hab : Pb.MLt a b) e => ?_)
    exact Pb.MLt.irr a (by unfold Pb.MLt at *; rw [e] at hab ⊢; exact hab)
  have := ids_sub h1 (m := keysL S) fun k hk => by
    obtain ⟨m, hm, rfl⟩ := List.mem_map.1 hk
    exact mark_key hQ hm
  rw [List.length_map, keys_len] at this
  exact this
theorem iInt : (Try.prog.info? 3).map (fun i => (i.zero, i.size, i.bytes)) = some (some (.int .i64 0), 1, 8) := by kernel_rfl
section
variable {o w w' wb : World} {l : List Th} {T N : Nat} {P : Pl} {k : ByteArray}
/-- append of numbers that lie somewhere, as an equation on its run. -/
theorem iRun {v : Value} {L ids : List Int} (h : Hp o w (rowI v L :: l)) (hw : Below w.heap.size w wb) (hl : L.length ≤ 10000000) (hi2 : ids.length ≤ 10000000) {g c : Nat} (hg : ∀ j, j < ids.length → wb.cell? ⟨g, j, none⟩ = some (.int .i64 (ids.getD j 0))) (ty : TypeId) :
    ∃ v' w', (Builtin.append_ #[40, 40] ty #[v, .slice (some ⟨g, 0, none⟩) ids.length c]).run Try.prog wb = .ok v' w' ∧ Hp o w' (rowI v' (L ++ ids) :: l) ∧ Stays w wb w' := by
  obtain ⟨i0, hi, hz0, hz1, hz2⟩ := info_parts iInt
  obtain ⟨a, c', w', h1, h2, h3⟩ := Sp.rowRun h (wb := wb) hw 40 ty i0 _ 8 Try.underlying40 hi hz0 hz1 hz2 rfl (by decide) ⟨g, 0, none⟩ ids.length c (ints ids) (by rw [Nat.mul_one]; exact ints_len ids) (fun j u hj => by
    have hjl : j < ids.length := by
      have := (List.getElem?_eq_some_iff.1 hj).1
      rwa [ints_len] at this
    rw [Addr.add_lit, Nat.zero_add, hg j hjl]
    rw [ints_get ids hjl] at hj
    exact hj) (fun u hu => ints_one ids u hu) (by unfold maxLen; omega) (by omega)
  refine ⟨_, w', h1, ?_, h3⟩
  unfold rowI ints
  rw [List.length_append, List.map_append]
  exact h2
set_option maxHeartbeats 8000000 in
set_option maxRecDepth 100000 in
theorem pof_calls (h : Hp o w (prefT T P N :: l)) (hw : Below w.heap.size w wb) (hP : P.length ≤ 900) (n : Int) (hn : (Lit.int .i64 n).wf = true) :
    Calls Try.prog 20 #[ptr T, .int .i64 n] wb fun e w' => ∃ v, e = .returned v ∧ Hp o w' (rowS v (srt (ofP n P)) :: prefT T P N :: l) := by
  obtain ⟨A, M, Mo, S, F, hR, hsz, h⟩ := pref_open (h.bel hw)
  clear hw
  have hpl := hR.of_le n
  have hsr : srt (ofC n F) = srt (ofP n P) := Ma.srtd_eq (((Ma.srt_perm _).trans (hR.of_perm n)).trans (Ma.srt_perm _).symm) (Ma.srt_srtd _) (Ma.srt_srtd _)
  have key : ∃ (v : Value) (m cm : Nat) (G : Int → Option Sl) (lx : List Th), Hp o wb (rowS v (ofC n F) :: nmapT 3 elP Mo m cm G :: cellsT T [ptr A, .map (some M), .map (some Mo)] :: lx) ∧ elP.enc ((G n).getD elP.zero) = v ∧ ∀ W v2 L2, Hp o W (rowS v2 L2 :: rowS v (ofC n F) :: nmapT 3 elP Mo m cm G :: cellsT T [ptr A, .map (some M), .map (some Mo)] :: lx) → Hp o W (rowS v2 L2 :: prefT T P N :: l) := by
    by_cases hk2 : n ∈ keysN F
    · obtain ⟨FA, ps, FB, rfl⟩ := keyN_split hk2
      have hmid := hR.oc.mid
      rw [ofC_mid hmid]
      obtain ⟨LA, LB, g, c, m, cm, hA, hB, hc, h1⟩ := of_mid (h.pull 2 rfl)
      have hms := mid_slF hmid hA hB
      refine ⟨_, m, cm, _, star ((LA ++ LB).map rowC) :: rowsT A M S N :: l, h1.sel [0, 1, 3, 2, 4] rfl, ?_, fun W v2 L2 hh => ?_⟩
      · rw [lookN_mid hms]; rfl
      · have h2 := of_back hA hB hc hR.oc (hh.sel [1, 2, 4] rfl)
        exact (pref_shut hR hsz (h2.sel [2, 3, 0] rfl)).swap
    · obtain ⟨L, m, cm, h1, hok, hc, h2⟩ := of_open (h.pull 2 rfl)
      have hkl : n ∉ keysN (slF L) := by rw [plainF_keys, h1]; exact hk2
      rw [ofC_none hk2]
      refine ⟨.slice none 0 0, m, cm, _, star (L.map rowC) :: rowsT A M S N :: l, (h2.rowNil 9 1).sel [0, 1, 3, 2, 4] rfl, ?_, fun W v2 L2 hh => ?_⟩
      · rw [lookN_none hkl]; rfl
      · have h2 := of_shut h1 hok hc (hh.sel [2, 4] rfl)
        exact (pref_shut hR hsz ((h2.dropAt 2 rfl).sel [2, 3, 0] rfl)).swap
  obtain ⟨v, m, cm, G, lx, h1, hv, hF⟩ := key
  have hlk := (h1.pull 1 rfl).nmapLook (T := 54) Try.underlying3 Try.underlying54 n hn
  rw [hv] at hlk
  have HF := Lib.hid hF
  have HC := Lib.hid (cloneS_calls h1 (Below.refl _ _) (by omega))
  have HSo : Hid (∀ W v2 ll, Hp o W (rowS v2 (ofC n F) :: ll) → Calls Try.prog 34 #[v2] W fun e w' => e = .returned (.tuple #[]) ∧ Hp o w' (rowS v2 (srt (ofP n P)) :: ll)) := Lib.hid (fun W v2 ll hh => by rw [← hsr]; exact sortS_calls hh (by omega))
  have c2 := (h1.pull 2 rfl).cell 2 rfl
  clear h hR hsz h1 hv hF hsr hpl
  generalize srt (ofP n P) = R2 at *
  generalize ofC n F = ps at *
  unfold ptr at *
  go_enter Try.func20, Try.ntmps20
  go_wp2_with fail
  refine HC.out.mono ?_; rintro en w1 ⟨v2, rfl, h2⟩
  have H2 := Lib.hid (HSo.out _ _ _ h2)
  clear h2 HC c2 hlk HSo
  go_wp2_with fail
  refine H2.out.mono ?_; rintro en w3 ⟨rfl, h3⟩
  have H3 := Lib.hid (HF.out _ _ _ h3)
  clear h3 H2 HF
  go_wp2_with fail
  go_ret
  exact ⟨v2, rfl, H3.out⟩
set_option maxHeartbeats 8000000 in
set_option maxRecDepth 100000 in
theorem pmatch_calls (h : Hp o w (prefT T P N :: l)) (hw : Below w.heap.size w wb) (hP : P.length ≤ 900) (key : ByteArray) (hK : key.size ≤ 140737488351232) :
    Calls Try.prog 17 #[ptr T, .string key] wb fun e w' => ∃ v, e = .returned v ∧ Hp o w' (rowI v (matP key P) :: prefT T P N :: l) := by
  obtain ⟨A, M, Mo, S, F, hR, hsz, h⟩ := pref_open (h.bel hw)
  clear hw
  obtain ⟨hb1, hb2⟩ := bound_ids hR.ok fun k n hh => (hR.r k n).2 hh
  have hidl : ∀ k, (idsR k S).length ≤ 900 := fun k => idsR_le (fun r hr => by have := hb2 r hr; omega) k
  obtain ⟨L0, cm0, e1, hok, hcm0, h1⟩ := rows_open (h.pull 1 rfl)
  have HAb := Lib.hid (rk_above h1 (Below.refl _ _) key hK (by rw [keys_len]; omega))
  have HSh : Hid (∀ W ll, Hp o W (recT A (keysL S) :: mapT 9 elS M S.length cm0 (lookL (slL L0)) :: star (L0.map rowK) :: ll) → Hp o W (rowsT A M S N :: ll)) := Lib.hid (fun W ll hh => rows_shut e1 hok hcm0 hh)
  have HEnd : Hid (∀ Q, MkI Q (zL (keysL S)) (fun X => X <+: key.data.toList) → scI (gatI S Q) = matP key P) := Lib.hid (fun Q hQ => gat_mat hR hQ)
  have HML : Hid (∀ Q, MkI Q (zL (keysL S)) (fun X => X <+: key.data.toList) → Q.length ≤ 900) := Lib.hid (fun Q hQ => by have := mark_len hQ; omega)
  have HGL : Hid (∀ Q : List Pa.Mk, Q.length ≤ 900 → (gatI S Q).length ≤ 810000) := Lib.hid (fun Q hq => by
    have := gat_len hidl Q
    have h2 := Nat.mul_le_mul_right 900 hq
    omega)
  have HIl := Lib.hid hidl
  have HF : Hid (∀ W v2 L2, Hp o W (rowI v2 L2 :: rowsT A M S N :: cellsT T [ptr A, .map (some M), .map (some Mo)] :: ofT Mo F N :: l) → Hp o W (rowI v2 L2 :: prefT T P N :: l)) := Lib.hid (fun W v2 L2 hh => (pref_shut hR hsz (hh.sel [2, 1, 3, 0] rfl)).swap)
  have c0 := (h1.pull 3 rfl).cell 0 rfl
  clear h hR hsz hb1 hb2 hidl e1 hok hcm0 hP
  generalize lookL (slL L0) = G0 at *
  generalize L0.map rowK = SK0 at *
  unfold ptr at *
  go_enter Try.func17, Try.ntmps17
  go_wp2_with fail
  refine HAb.out.mono ?_; rintro en w1 ⟨vq, Q, rfl, hQ, h2⟩
  have HQ := Lib.hid hQ
  have hQl := HML.out Q hQ
  have h3 := HSh.out _ _ (h2.sel [1, 2, 3] rfl)
  obtain ⟨aq, cq, rfl, hqc, hqm, hqg⟩ := (h3.pull 1 rfl).rowForm
  have HQg := Lib.hid hqg
  have H1 : Hid (Hp o w1 (rowI (.slice none 0 0) (gatI S (Q.take 0)) :: rowsT A M S N :: cellsT T [.pointer (some ⟨A, 0, none⟩), .map (some M), .map (some Mo)] :: rowT 63 2 (.slice aq Q.length cq) Q.length (Pa.cellsM Q) :: ofT Mo F N :: l)) := Lib.hid ((h3.rowNil 3 1).sel [0, 1, 3, 2, 4] rfl)
  clear h1 h2 h3 HAb HSh HML hQ hqg c0
  go_wp2_with fail
  go_loopg [5, 7, 16] (Q.length + 1) (fun g v5 _ vi wr => ∃ (i : Nat), vi = .int .i64 i ∧ i ≤ Q.length ∧ Q.length - i ≤ g ∧ Hid (Hp o wr (rowI v5 (gatI S (Q.take i)) :: rowsT A M S N :: cellsT T [.pointer (some ⟨A, 0, none⟩), .map (some M), .map (some Mo)] :: rowT 63 2 (.slice aq Q.length cq) Q.length (Pa.cellsM Q) :: ofT Mo F N :: l)))
  case atStart => exact ⟨0, rfl, by omega, by omega, H1⟩
  case round =>
    obtain ⟨i, rfl, hi, hg, HH⟩ := hrel
    clear H1
    by_cases hil : i < Q.length
    case pos =>
      have hic : (i : Int) < (Q.length : Int) := by omega
      obtain ⟨g0, rfl⟩ := HQg.out (by omega)
      obtain ⟨d0, d1⟩ := mk_cell (HH.out.pull 3 rfl) hil
      have hkey := mark_key HQ.out (List.getElem_mem hil)
      have HGt : Hid (gatI S (Q.take (i + 1)) = gatI S (Q.take i) ++ idsR Q[i].1 S) := Lib.hid (by rw [← List.take_append_getElem hil, gat_snoc])
      have hgl := HGL.out (Q.take i) (by rw [List.length_take]; omega)
      generalize Q[i] = m at *
      obtain ⟨k, nn⟩ := m
      simp only at d0 d1 hkey HGt
      have hil2 := HIl.out k
      obtain ⟨g, c, cm, G, K1, SK, hlv, hrow, hback⟩ := rows_row (HH.out.pull 1 rfl) hkey
      have hks : k.size ≤ maxLen := by
        obtain ⟨SA, ids, SB, e⟩ := key_split hkey
        exact (rows_ok (HH.out.pull 1 rfl)).ks (k, ids) (by rw [e]; exact List.mem_append.2 (.inr (List.mem_cons_self ..)))
      have HBk : Hid (∀ {W : World} {ll : List Th}, Hp o W (rowI (.slice (some ⟨g, 0, none⟩) (idsR k S).length c) (idsR k S) :: mapT 9 elS M S.length cm G :: recT A K1 :: star SK :: ll) → Hp o W (rowsT A M S N :: ll)) := Lib.hid hback
      have hbx := hrow.bel (Sp.bbox (.cells #[.string k, .int .i64 nn] 63)).drew
      have hlk := (hbx.pull 1 rfl).mapLook (T := 51) Try.underlying9 Try.underlying51 k hks
      rw [hlv] at hlk
      have hcell : ∀ j, j < (idsR k S).length → (wr.alloc (.cells #[.string k, .int .i64 nn] 63)).drew.cell? ⟨g, j, none⟩ = some (.int .i64 ((idsR k S).getD j 0)) := fun j hj => rowI_at hbx hj
      obtain ⟨v7, w7, hr7, h7, hst⟩ := iRun (c := c) (hrow.pull 4 rfl) (Sp.bbox (.cells #[.string k, .int .i64 nn] 63)).drew (by omega) (by omega) hcell 40
      rw [← HGt.out] at h7
      have H7 := Lib.hid h7
      have e1 := (hbx.pull 5 rfl).cell 1 rfl
      have HW : Hid (∀ O, (wr.alloc O).drew.cell? ⟨wr.heap.size, 0, none⟩ = (wr.alloc O).cell? ⟨wr.heap.size, 0, none⟩) := Lib.hid (fun O => rfl)
      have hb0 : (wr.alloc (.cells #[.string k, .int .i64 nn] 63)).drew.cell? ⟨wr.heap.size, 0, none⟩ = some (.string k) := by
        rw [HW.out, World.cell?_alloc_new]; rfl
      clear h7 hbx hcell hrow hback hlv hkey hks HW hst
      generalize gatI S (Q.take i) = L1 at *
      obtain ⟨L2, hL2⟩ : ∃ L2, gatI S (Q.take (i + 1)) = L2 := ⟨_, rfl⟩
      rw [hL2] at H7 HGt
      have HL2 := Lib.hid hL2
      clear hL2
      generalize idsR k S = ids at *
      go_wp2_with fail
      go_region_law (
        first
        | (refine Sp.step_app (o := ⟨some 29, _, _, _, _, _⟩) rfl (.tmp 20) (.tmp 28) rfl ?_ ?_ hr7 ?_
           · first | rfl | simp [Act.eval]
           · first | rfl | simp [Act.eval]))
      all_goals (
        have H8 : Hid (Hp o w7 (rowI v7 L2 :: rowsT A M S N :: cellsT T [.pointer (some ⟨A, 0, none⟩), .map (some M), .map (some Mo)] :: rowT 63 2 (.slice (some ⟨g0, 0, none⟩) Q.length cq) Q.length (Pa.cellsM Q) :: ofT Mo F N :: l)) := Lib.hid ((HBk.out (H7.out.sel [1, 2, 3, 4] rfl)).sel [1, 0] rfl)
        clear hr7 hlk hb0 d0 d1 H7 HBk HH
        go_wp2_with fail
        go_roundg (gk - 1)
        case measure => omega
        case rel => exact ⟨i + 1, by go_num, by omega, by omega, by rw [HL2.out]; exact H8⟩)
    case neg =>
      have hic : ¬ (i : Int) < (Q.length : Int) := by omega
      obtain rfl : i = Q.length := by omega
      have hgl := HGL.out Q hQl
      rw [List.take_length] at HH
      have HE := HEnd.out Q HQ.out
      unfold scI at HE
      have hul := compact_len (gatI S Q)
      have HSo := Lib.hid (sortI_calls HH.out (by omega))
      have HCo : Hid (∀ W v ll, Hp o W (rowI v ((gatI S Q).mergeSort fun x y => decide (x ≤ y)) :: ll) → Calls Try.prog 31 #[v] W fun e w' => ∃ v', e = .returned v' ∧ Hp o w' (rowI v' (matP key P) :: ll)) := Lib.hid (fun W v ll hh => by
        have := compactI_calls hh (by rw [(List.mergeSort_perm _ _).length_eq]; omega) hul
        rw [HE] at this
        exact this)
      clear HE hul
      go_wp2_with fail
      refine HSo.out.mono ?_; rintro en w2 ⟨rfl, h2⟩
      have H2 := Lib.hid (HCo.out _ _ _ h2)
      clear h2 HSo HCo
      go_wp2_with fail
      refine H2.out.mono ?_; rintro en w3 ⟨v3, rfl, h3⟩
      have H3 := Lib.hid (HF.out _ _ _ (h3.dropAt 3 rfl))
      clear h3 H2
      go_wp2_with fail
      go_ret
      exact ⟨_, rfl, H3.out⟩
end
end Go.Proofs.Ytnmncjeplfkdpaa.Qa
