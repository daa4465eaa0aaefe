/- PrefixRuns. No condition. (Written by gen_qt1.py.) -/
import Derived.Test.YtnmncjeplfkdpaaQrB
namespace Go.Proofs.Ytnmncjeplfkdpaa.Qa
set_option linter.unusedVariables false
set_option linter.unusedSimpArgs false
open Go.ChangeShapes Go.WideShapes Go.ChangeAt Go.RowKit
open Ka
open Sp (Th Hp Stays All Ro roT cellsT rowT exT puT star)
open Pb (TxE dat row_lies SX Sn kyM)
open Ma (srt)
set_option maxHeartbeats 64000000 in
set_option maxRecDepth 100000 in
theorem prefixRuns (xa : Option Addr) (xc : Nat) (L : List Ac) (key : ByteArray) (w : World) (hI : InA w xa L) (hS : ∀ i (h : i < L.length), okAc L[i]) :
    Calls Try.prog 3 #[.slice xa L.length xc, .string key] w fun e w' => e = .returned (.bool true) ∧ Below w.heap.size w w' := by
  have HI := Lib.hid hI
  have HSZ := Lib.hid hS
  clear hI hS
  have HA := Lib.hid (prefixAlive w)
  go_enter Try.func3, Try.ntmps3
  go_wp2_with fail
  refine HA.out.mono ?_; rintro en w2 ⟨rfl, hb2⟩
  have HB2 := Lib.hid hb2
  clear hb2 HA
  by_cases hl : 60 < L.length
  · have hlc : (60 : Int) < (L.length : Int) := by omega
    go_wp2_with fail
    go_ret
    exact ⟨rfl, HB2.out⟩
  have hlc : ¬ (60 : Int) < (L.length : Int) := by omega
  by_cases hs : 100 < key.size
  · have hsc : (100 : Int) < (key.size : Int) := by omega
    go_wp2_with fail
    go_ret
    exact ⟨rfl, HB2.out⟩
  have hsc : ¬ (100 : Int) < (key.size : Int) := by omega
  have hks : key.size ≤ 100 := by omega
  have HN := Lib.hid (pnew_calls (Hp.nil HB2.out) (Below.refl _ _))
  unfold ptr at HN
  go_wp2_with fail
  refine HN.out.mono ?_; rintro en w3 ⟨T, rfl, h3⟩
  have H4 : Hid (Hp w (w3.alloc (.cells #[] 58)) [prefT T [] 0, rowP (.slice (some ⟨w3.heap.size, 0, none⟩) ([] : Pl).length 0) []]) := Lib.hid ((rowP_new h3).swap)
  clear h3 HN
  go_wp2_with fail
  go_loopg [6, 8, 9, 10, 11, 12, 13, 28] (L.length + 1) (fun g v6 _ _ _ _ _ _ vi wr => ∃ (i N : Nat) (P : Pl) (pg pc pm : Nat), vi = .int .i64 i ∧ i ≤ L.length ∧ L.length - i ≤ g ∧ N ≤ 1000 * i ∧ v6 = .slice (some ⟨pg, 0, none⟩) pm pc ∧ Hid (pm = P.length) ∧ Hid (P.length ≤ i) ∧ Hid (Hp w wr [prefT T P N, rowP (.slice (some ⟨pg, 0, none⟩) P.length pc) P]))
  case atStart => exact ⟨0, 0, [], _, _, _, rfl, by omega, by omega, by omega, rfl, Lib.hid rfl, Lib.hid (Nat.le_refl _), H4⟩
  case round =>
    obtain ⟨i, N, P, pg, pc, pm, rfl, hi, hg, hN, rfl, HPm, HPl, HH⟩ := hrel
    obtain rfl := HPm.out
    clear H4 HPm
    by_cases hil : i < L.length
    case neg =>
      have hic : ¬ ((i : Int) < (L.length : Int)) := by omega
      go_wp2_with fail
      go_ret
      exact ⟨rfl, HH.out.below⟩
    case pos =>
      have hic : (i : Int) < (L.length : Int) := by omega
      have hi60 : i ≤ 59 := by omega
      obtain ⟨b, o, rfl, hlt, hcs⟩ := HI.out (by omega)
      obtain ⟨c0, c1, c2⟩ := hcs i hil
      have e : ∀ j, wr.cell? ⟨b, j, none⟩ = w.cell? ⟨b, j, none⟩ := fun j => HH.out.below.cell (p := ⟨b, j, none⟩) hlt
      rw [← e] at c0 c1 c2
      obtain ⟨-, hn⟩ := HSZ.out i hil
      have HN1 := Lib.hid hn
      clear hcs hlt e hn
      generalize L[i] = q at *
      obtain ⟨kd, n, k⟩ := q
      simp only at c0 c1 c2 HN1
      have HX : Hid (Hp w (wr.alloc (.cells #[.int .i64 kd, .int .i64 n, .string k] 28)) [cellsT wr.heap.size [.int .i64 kd, .int .i64 n, .string k], prefT T P N, rowP (.slice (some ⟨pg, 0, none⟩) P.length pc) P]) := Lib.hid (HH.out.cellsNew [.int .i64 kd, .int .i64 n, .string k] 28)
      have hP60 : P.length ≤ 60 := by have := HPl.out; omega
      go_upto_region 10 with fail
      generalize wr.alloc (.cells #[.int .i64 kd, .int .i64 n, .string k] 28) = W0 at *
      generalize wr.heap.size = BX at *
      clear c0 c1 c2 HH
      have b0 := HX.out.cell 0 rfl
      have b1 := HX.out.cell 1 rfl
      have b2 := HX.out.cell 2 rfl
      by_cases hk : 100 < k.size
      · have hkc : (100 : Int) < (k.size : Int) := by omega
        go_wp2_with fail
        go_ret
        exact ⟨rfl, HX.out.below⟩
      have hkc : ¬ (100 : Int) < (k.size : Int) := by omega
      have hk1 : k.size ≤ 100 := by omega
      by_cases hk0 : kd = 0
      · have z0 : (kd == 0) = true := by rw [beq_iff_eq]; exact hk0
        clear hk0
        have HC := Lib.hid (radd_calls (HX.out.pull 2 rfl) (Below.refl _ _) (by omega) k n)
        have HP2 : Hid ((addP k n P).length ≤ i + 1) := Lib.hid (by have := addP_len k n P; have := HPl.out; omega)
        have HPA : Hid (∀ (W : World) (ll : List Th), Hp w W (prefT T P N :: ll) → Calls Try.prog 9 #[.pointer (some ⟨T, 0, none⟩), .string k, .int .i64 n] W fun e w' => e = .returned (.bool (!decide ((k, n) ∈ P))) ∧ Hp w w' (prefT T (addP k n P) (N + 1000) :: ll)) := Lib.hid (fun W ll hh => (padd_calls hh (Below.refl _ _) (by omega) (by omega) (by omega) n HN1.out).mono fun e w' ⟨e1, h1⟩ => ⟨e1, pref_more h1 (by omega)⟩)
        have HN2 : Hid (N + 1000 ≤ 1000 * (i + 1)) := Lib.hid (by omega)
        generalize addP k n P = P2 at *
        generalize decide ((k, n) ∈ P) = bb at *
        generalize N + 1000 = N2 at *
        go_wp2_with fail
        refine HC.out.mono ?_; rintro en w5 ⟨pg2, pc2, rfl, h5⟩
        have h5 : Hp w w5 [rowP (.slice (some ⟨pg2, 0, none⟩) P2.length pc2) P2, cellsT BX [.int .i64 kd, .int .i64 n, .string k], prefT T P N] := h5
        have HC2 := Lib.hid (HPA.out _ _ (h5.pull 2 rfl))
        have d1 := (h5.pull 1 rfl).cell 1 rfl
        have d2 := (h5.pull 1 rfl).cell 2 rfl
        have hbb : ((!bb) != (!bb)) = false := by cases bb <;> rfl
        have hbb2 : (bb == bb) = true := by cases bb <;> rfl
        clear h5 HC HPA HX b0 b1 b2 HPl
        go_wp2_with fail
        refine HC2.out.mono ?_; rintro en w6 ⟨rfl, h6⟩
        have HT : Hid (Hp w w6 [prefT T P2 N2, rowP (.slice (some ⟨pg2, 0, none⟩) P2.length pc2) P2, cellsT BX [.int .i64 kd, .int .i64 n, .string k]]) := Lib.hid h6
        clear h6 HC2 d1 d2
        -- all answers held against each other
        have hP2 : P2.length ≤ 60 := by have := HP2.out; omega
        have HTr := Lib.hid (rtree_calls (HT.out.pull 1 rfl) (Below.refl _ _) (by omega))
        go_wp2_with fail
        refine HTr.out.mono ?_; rintro en w7 ⟨a13, c13, Q, rfl, hqc, hqm, hAll, h7⟩
        obtain ⟨hQn, hQk⟩ := all_keys hAll
        have hQl : Q.length ≤ 60 := by have := all_len hAll; rw [List.length_map] at this; omega
        have HD : Hid (Hp w w7.drew [cellsT BX [.int .i64 kd, .int .i64 n, .string k], prefT T P2 N2, rowP (.slice (some ⟨pg2, 0, none⟩) P2.length pc2) P2, rowT 63 2 (.slice a13 Q.length c13) Q.length (Pa.cellsM Q)]) := Lib.hid ((h7.bel (Below.refl _ _).drew).sel [3, 2, 1, 0] rfl)
        have hln := plen_calls (HD.out.pull 1 rfl) (Below.refl _ _) hQn fun x => by
          rw [hQk, List.mem_map]
          exact ⟨fun ⟨p, hp, e⟩ => ⟨p.2, by rw [← e]; exact hp⟩, fun ⟨m, hm⟩ => ⟨(x, m), hm, rfl⟩⟩
        rw [List.length_map] at hln
        have HLn := Lib.hid hln
        obtain ⟨X, hX, hnd⟩ := pnodes_calls (HD.out.pull 1 rfl) (Below.refl _ _)
        have HNd := Lib.hid hnd
        have hLs := row_lies (HD.out.pull 3 rfl)
        have hsz := (pref_nd (HD.out.pull 1 rfl)).2
        have hQs : ∀ i (h : i < Q.length), Q[i].1.size ≤ 140737488351232 := fun i h => by
          have hm := (hQk Q[i].1).1 (List.mem_map.2 ⟨Q[i], List.getElem_mem h, rfl⟩)
          obtain ⟨p, hp, e⟩ := List.mem_map.1 hm
          rw [← e]
          exact hsz p hp
        have HRN := Lib.hid (Pb.refNodes_calls w7.drew a13 c13 Q (by omega) hqc hqm hQs hLs)
        have HXX : Hid (∀ X2, SX X2 (Sn (kyM Q) Q.length) → X.length = X2.length) := Lib.hid (fun X2 h2 => by
          have := hX.len (h2.txe hAll (D := dat (P2.map (·.1))) fun K => by
            unfold zL
            by_cases hh : K ∈ dat (P2.map (·.1))
            · rw [if_pos hh]; simp [hh]
            · rw [if_neg hh]; simp [hh]) (fun _ => Iff.rfl)
          rwa [List.length_map] at this)
        have hkk : (k ++ key).size ≤ 140737488351232 := by rw [ByteArray.size_append]; omega
        obtain ⟨D1, HD1⟩ : ∃ D1, Hid (matP key P2 = D1) := ⟨_, Lib.hid rfl⟩
        obtain ⟨D2, HD2⟩ : ∃ D2, Hid (matP (k ++ key) P2 = D2) := ⟨_, Lib.hid rfl⟩
        obtain ⟨R, HR⟩ : ∃ R, Hid (srt (ofP n P2) = R) := ⟨_, Lib.hid rfl⟩
        have HDl : Hid (D1.length ≤ 1000000 ∧ D2.length ≤ 1000000 ∧ R.length ≤ 1000000) := Lib.hid ⟨by rw [← HD1.out]; have := mat_len key P2; omega, by rw [← HD2.out]; have := mat_len (k ++ key) P2; omega, by rw [← HR.out, Ma.srt_len]; have := ofP_le n P2; omega⟩
        have HMt : Hid (∀ (W : World) (ll : List Th), Hp w W (prefT T P2 N2 :: ll) → Calls Try.prog 17 #[.pointer (some ⟨T, 0, none⟩), .string key] W fun e w' => ∃ v, e = .returned v ∧ Hp w w' (rowI v D1 :: prefT T P2 N2 :: ll)) := Lib.hid (fun W ll hh => by
          have := pmatch_calls hh (Below.refl _ _) (by omega) key (by omega)
          rw [HD1.out] at this
          exact this)
        have HMu : Hid (∀ (W : World) (ll : List Th), Hp w W (prefT T P2 N2 :: ll) → Calls Try.prog 17 #[.pointer (some ⟨T, 0, none⟩), .string (k ++ key)] W fun e w' => ∃ v, e = .returned v ∧ Hp w w' (rowI v D2 :: prefT T P2 N2 :: ll)) := Lib.hid (fun W ll hh => by
          have := pmatch_calls hh (Below.refl _ _) (by omega) (k ++ key) hkk
          rw [HD2.out] at this
          exact this)
        have HRt : Hid (∀ (W : World) (ll : List Th), Hp w W (rowP (.slice (some ⟨pg2, 0, none⟩) P2.length pc2) P2 :: ll) → Calls Try.prog 18 #[.slice (some ⟨pg2, 0, none⟩) P2.length pc2, .string key] W fun e w' => ∃ v, e = .returned v ∧ Hp w w' (rowI v D1 :: rowP (.slice (some ⟨pg2, 0, none⟩) P2.length pc2) P2 :: ll)) := Lib.hid (fun W ll hh => by
          have := rmatch_calls hh (Below.refl _ _) (by omega) key
          rw [HD1.out] at this
          exact this)
        have HRu : Hid (∀ (W : World) (ll : List Th), Hp w W (rowP (.slice (some ⟨pg2, 0, none⟩) P2.length pc2) P2 :: ll) → Calls Try.prog 18 #[.slice (some ⟨pg2, 0, none⟩) P2.length pc2, .string (k ++ key)] W fun e w' => ∃ v, e = .returned v ∧ Hp w w' (rowI v D2 :: rowP (.slice (some ⟨pg2, 0, none⟩) P2.length pc2) P2 :: ll)) := Lib.hid (fun W ll hh => by
          have := rmatch_calls hh (Below.refl _ _) (by omega) (k ++ key)
          rw [HD2.out] at this
          exact this)
        have HOt : Hid (∀ (W : World) (ll : List Th), Hp w W (prefT T P2 N2 :: ll) → Calls Try.prog 20 #[.pointer (some ⟨T, 0, none⟩), .int .i64 n] W fun e w' => ∃ v, e = .returned v ∧ Hp w w' (rowS v R :: prefT T P2 N2 :: ll)) := Lib.hid (fun W ll hh => by
          have := pof_calls hh (Below.refl _ _) (by omega) n HN1.out
          rw [HR.out] at this
          exact this)
        have HRo : Hid (∀ (W : World) (ll : List Th), Hp w W (rowP (.slice (some ⟨pg2, 0, none⟩) P2.length pc2) P2 :: ll) → Calls Try.prog 21 #[.slice (some ⟨pg2, 0, none⟩) P2.length pc2, .int .i64 n] W fun e w' => ∃ v, e = .returned v ∧ Hp w w' (rowS v R :: rowP (.slice (some ⟨pg2, 0, none⟩) P2.length pc2) P2 :: ll)) := Lib.hid (fun W ll hh => by
          have := rof_calls hh (Below.refl _ _) (by omega) n
          rw [HR.out] at this
          exact this)
        have S1 : Hid (w7.drew.cell? ⟨BX, 1, none⟩ = some (.int .i64 n) ∧ w7.drew.cell? ⟨BX, 2, none⟩ = some (.string k)) := Lib.hid ⟨HD.out.cell 1 rfl, HD.out.cell 2 rfl⟩
        have hcs : k.size + key.size ≤ 9223372036854775807 := by omega
        have hcs2 : ¬ 9223372036854775807 < k.size + key.size := by omega
        have hq1 : ((Q.length : Int) != (Q.length : Int)) = false := by simp
        have hq2 : ((Q.length : Int) == (Q.length : Int)) = true := by simp
        have hx1 : ((X.length : Int) != (X.length : Int)) = false := by simp
        have hx2 : ((X.length : Int) == (X.length : Int)) = true := by simp
        clear h7 hAll hQn hQk hln hnd hLs hsz hQs hX HT HTr HD1 HD2 HR hkk hqc hqm hbb hbb2
        unfold ptr at *
        go_wp2_with fail
        go_region_held3 (fun W : World => W.cell? ⟨BX, 1, none⟩ = some (.int .i64 n) ∧ W.cell? ⟨BX, 2, none⟩ = some (.string k))
          (first | exact S1.out | exact S3.out | exact S4.out | exact S5.out | exact S6.out | exact S7.out | exact S8.out | exact S9.out | exact Sa.out | exact Sb.out | exact Sc.out)
          (first
            | (go_at_call 13; (with_reducible refine HLn.out.mono ?_); rintro en8 w8 ⟨rfl, rfl⟩; skip)
            | (go_at_call 14; (with_reducible refine HNd.out.mono ?_); rintro en8 w8 ⟨rfl, rfl⟩; skip)
            | (go_at_call 15; (with_reducible refine HRN.out.mono ?_); rintro en8 w8 ⟨⟨X2, hX2, rfl⟩, hb8⟩; rw [← HXX.out X2 hX2]; have h8 := HD.out.bel hb8; have h8 : Hp w w8 [cellsT BX [.int .i64 kd, .int .i64 n, .string k], prefT T P2 N2, rowP (.slice (some ⟨pg2, 0, none⟩) P2.length pc2) P2, rowT 63 2 (.slice a13 Q.length c13) Q.length (Pa.cellsM Q)] := h8; have S3 : Hid (w8.cell? ⟨BX, 1, none⟩ = some (.int .i64 n) ∧ w8.cell? ⟨BX, 2, none⟩ = some (.string k)) := Lib.hid ⟨h8.cell 1 rfl, h8.cell 2 rfl⟩; have HM1 := Lib.hid (HMt.out _ _ (h8.pull 1 rfl)); clear h8 hb8 hX2)
            | (go_at_call 17; (with_reducible refine HM1.out.mono ?_); rintro en9 w9 ⟨v9, rfl, h9⟩; obtain ⟨a9, c9, rfl, -, -⟩ := rowI_slice h9; have h9 : Hp w w9 [rowI (.slice a9 D1.length c9) D1, prefT T P2 N2, cellsT BX [.int .i64 kd, .int .i64 n, .string k], rowP (.slice (some ⟨pg2, 0, none⟩) P2.length pc2) P2, rowT 63 2 (.slice a13 Q.length c13) Q.length (Pa.cellsM Q)] := h9; have S4 : Hid (w9.cell? ⟨BX, 1, none⟩ = some (.int .i64 n) ∧ w9.cell? ⟨BX, 2, none⟩ = some (.string k)) := Lib.hid ⟨(h9.pull 2 rfl).cell 1 rfl, (h9.pull 2 rfl).cell 2 rfl⟩; have HR1 := Lib.hid (HRt.out _ _ (h9.pull 3 rfl)); clear h9)
            | (go_at_call 18; (with_reducible refine HR1.out.mono ?_); rintro en10 w10 ⟨v10, rfl, h10⟩; obtain ⟨a10, c10, rfl, -, -⟩ := rowI_slice h10; have h10 : Hp w w10 [rowI (.slice a10 D1.length c10) D1, rowP (.slice (some ⟨pg2, 0, none⟩) P2.length pc2) P2, rowI (.slice a9 D1.length c9) D1, prefT T P2 N2, cellsT BX [.int .i64 kd, .int .i64 n, .string k], rowT 63 2 (.slice a13 Q.length c13) Q.length (Pa.cellsM Q)] := h10; have S5 : Hid (w10.cell? ⟨BX, 1, none⟩ = some (.int .i64 n) ∧ w10.cell? ⟨BX, 2, none⟩ = some (.string k)) := Lib.hid ⟨(h10.pull 4 rfl).cell 1 rfl, (h10.pull 4 rfl).cell 2 rfl⟩; have HS1 := Lib.hid (sameI_calls w10 a9 a10 c9 c10 D1 HDl.out.1 (rowI_atI (h10.pull 2 rfl)) (rowI_atI h10)); have H10 := Lib.hid h10; clear h10)
            | (go_at_call 16; (with_reducible refine HS1.out.mono ?_); rintro en11 w11 ⟨rfl, hb11⟩; have h11 := H10.out.bel hb11; have h11 : Hp w w11 [rowI (.slice a10 D1.length c10) D1, rowP (.slice (some ⟨pg2, 0, none⟩) P2.length pc2) P2, rowI (.slice a9 D1.length c9) D1, prefT T P2 N2, cellsT BX [.int .i64 kd, .int .i64 n, .string k], rowT 63 2 (.slice a13 Q.length c13) Q.length (Pa.cellsM Q)] := h11; have S6 : Hid (w11.cell? ⟨BX, 1, none⟩ = some (.int .i64 n) ∧ w11.cell? ⟨BX, 2, none⟩ = some (.string k)) := Lib.hid ⟨(h11.pull 4 rfl).cell 1 rfl, (h11.pull 4 rfl).cell 2 rfl⟩; have HO1 := Lib.hid (HOt.out _ _ (h11.pull 3 rfl)); clear h11 hb11)
            | (go_at_call 20; (with_reducible refine HO1.out.mono ?_); rintro en12 w12 ⟨v12, rfl, h12⟩; obtain ⟨a12, c12, rfl, -, -, -⟩ := rowS_form h12; have h12 : Hp w w12 [rowS (.slice a12 R.length c12) R, prefT T P2 N2, rowI (.slice a10 D1.length c10) D1, rowP (.slice (some ⟨pg2, 0, none⟩) P2.length pc2) P2, rowI (.slice a9 D1.length c9) D1, cellsT BX [.int .i64 kd, .int .i64 n, .string k], rowT 63 2 (.slice a13 Q.length c13) Q.length (Pa.cellsM Q)] := h12; have S7 : Hid (w12.cell? ⟨BX, 1, none⟩ = some (.int .i64 n) ∧ w12.cell? ⟨BX, 2, none⟩ = some (.string k)) := Lib.hid ⟨(h12.pull 5 rfl).cell 1 rfl, (h12.pull 5 rfl).cell 2 rfl⟩; have HO2 := Lib.hid (HRo.out _ _ (h12.pull 3 rfl)); clear h12)
            | (go_at_call 21; (with_reducible refine HO2.out.mono ?_); rintro en13 w13 ⟨v13, rfl, h13⟩; obtain ⟨a13b, c13b, rfl, -, -, -⟩ := rowS_form h13; have h13 : Hp w w13 [rowS (.slice a13b R.length c13b) R, rowP (.slice (some ⟨pg2, 0, none⟩) P2.length pc2) P2, rowS (.slice a12 R.length c12) R, prefT T P2 N2, rowI (.slice a10 D1.length c10) D1, rowI (.slice a9 D1.length c9) D1, cellsT BX [.int .i64 kd, .int .i64 n, .string k], rowT 63 2 (.slice a13 Q.length c13) Q.length (Pa.cellsM Q)] := h13; have S8 : Hid (w13.cell? ⟨BX, 1, none⟩ = some (.int .i64 n) ∧ w13.cell? ⟨BX, 2, none⟩ = some (.string k)) := Lib.hid ⟨(h13.pull 6 rfl).cell 1 rfl, (h13.pull 6 rfl).cell 2 rfl⟩; have HSS := Lib.hid (sameS_calls w13 a12 a13b c12 c13b R HDl.out.2.2 (rowS_atS (h13.pull 2 rfl)) (rowS_atS h13)); have H13 := Lib.hid h13; clear h13)
            | (go_at_call 19; (with_reducible refine HSS.out.mono ?_); rintro en14 w14 ⟨rfl, hb14⟩; have h14 := H13.out.bel hb14; have h14 : Hp w w14 [rowS (.slice a13b R.length c13b) R, rowP (.slice (some ⟨pg2, 0, none⟩) P2.length pc2) P2, rowS (.slice a12 R.length c12) R, prefT T P2 N2, rowI (.slice a10 D1.length c10) D1, rowI (.slice a9 D1.length c9) D1, cellsT BX [.int .i64 kd, .int .i64 n, .string k], rowT 63 2 (.slice a13 Q.length c13) Q.length (Pa.cellsM Q)] := h14; have S9 : Hid (w14.cell? ⟨BX, 1, none⟩ = some (.int .i64 n) ∧ w14.cell? ⟨BX, 2, none⟩ = some (.string k)) := Lib.hid ⟨(h14.pull 6 rfl).cell 1 rfl, (h14.pull 6 rfl).cell 2 rfl⟩; have HM2 := Lib.hid (HMu.out _ _ (h14.pull 3 rfl)); clear h14 hb14)
            | (go_at_call 17; (with_reducible refine HM2.out.mono ?_); rintro en15 w15 ⟨v15, rfl, h15⟩; obtain ⟨a15, c15, rfl, -, -⟩ := rowI_slice h15; have h15 : Hp w w15 [rowI (.slice a15 D2.length c15) D2, prefT T P2 N2, rowS (.slice a13b R.length c13b) R, rowP (.slice (some ⟨pg2, 0, none⟩) P2.length pc2) P2, rowS (.slice a12 R.length c12) R, rowI (.slice a10 D1.length c10) D1, rowI (.slice a9 D1.length c9) D1, cellsT BX [.int .i64 kd, .int .i64 n, .string k], rowT 63 2 (.slice a13 Q.length c13) Q.length (Pa.cellsM Q)] := h15; have Sa : Hid (w15.cell? ⟨BX, 1, none⟩ = some (.int .i64 n) ∧ w15.cell? ⟨BX, 2, none⟩ = some (.string k)) := Lib.hid ⟨(h15.pull 7 rfl).cell 1 rfl, (h15.pull 7 rfl).cell 2 rfl⟩; have HR2 := Lib.hid (HRu.out _ _ (h15.pull 3 rfl)); clear h15)
            | (go_at_call 18; (with_reducible refine HR2.out.mono ?_); rintro en16 w16 ⟨v16, rfl, h16⟩; obtain ⟨a16, c16, rfl, -, -⟩ := rowI_slice h16; have h16 : Hp w w16 [rowI (.slice a16 D2.length c16) D2, rowP (.slice (some ⟨pg2, 0, none⟩) P2.length pc2) P2, rowI (.slice a15 D2.length c15) D2, prefT T P2 N2, rowS (.slice a13b R.length c13b) R, rowS (.slice a12 R.length c12) R, rowI (.slice a10 D1.length c10) D1, rowI (.slice a9 D1.length c9) D1, cellsT BX [.int .i64 kd, .int .i64 n, .string k], rowT 63 2 (.slice a13 Q.length c13) Q.length (Pa.cellsM Q)] := h16; have Sb : Hid (w16.cell? ⟨BX, 1, none⟩ = some (.int .i64 n) ∧ w16.cell? ⟨BX, 2, none⟩ = some (.string k)) := Lib.hid ⟨(h16.pull 8 rfl).cell 1 rfl, (h16.pull 8 rfl).cell 2 rfl⟩; have HS2 := Lib.hid (sameI_calls w16 a15 a16 c15 c16 D2 HDl.out.2.1 (rowI_atI (h16.pull 2 rfl)) (rowI_atI h16)); have H16 := Lib.hid h16; clear h16)
            | (go_at_call 16; (with_reducible refine HS2.out.mono ?_); rintro en17 w17 ⟨rfl, hb17⟩; have h17 := H16.out.bel hb17; have h17 : Hp w w17 [rowI (.slice a16 D2.length c16) D2, rowP (.slice (some ⟨pg2, 0, none⟩) P2.length pc2) P2, rowI (.slice a15 D2.length c15) D2, prefT T P2 N2, rowS (.slice a13b R.length c13b) R, rowS (.slice a12 R.length c12) R, rowI (.slice a10 D1.length c10) D1, rowI (.slice a9 D1.length c9) D1, cellsT BX [.int .i64 kd, .int .i64 n, .string k], rowT 63 2 (.slice a13 Q.length c13) Q.length (Pa.cellsM Q)] := h17; have Sc : Hid (w17.cell? ⟨BX, 1, none⟩ = some (.int .i64 n) ∧ w17.cell? ⟨BX, 2, none⟩ = some (.string k)) := Lib.hid ⟨(h17.pull 8 rfl).cell 1 rfl, (h17.pull 8 rfl).cell 2 rfl⟩; have H17 := Lib.hid (hp_take h17 [3, 1] 2 rfl); clear h17 hb17))
        all_goals (
          clear HD S1 S3 S4 S5 S6 S7 S8 S9 Sa Sb Sc HLn HNd HRN HXX HMt HMu HRt HRu HOt HRo HDl HM1 HR1 HS1 HO1 HO2 HSS HM2 HR2 HS2 H10 H13 H16
          go_wp2_with fail
          go_roundg (gk - 1)
          case measure => omega
          case rel => exact ⟨i + 1, N2, P2, pg2, pc2, _, by go_num, by omega, by omega, HN2.out, rfl, Lib.hid rfl, HP2, H17⟩)
      · have z0 : (kd == 0) = false := by rw [beq_eq_false_iff_ne]; exact hk0
        clear hk0
        have HC := Lib.hid (rdropP_calls (HX.out.pull 2 rfl) (Below.refl _ _) (by omega) n)
        have HP2 : Hid ((dropP n P).length ≤ i + 1) := Lib.hid (by have := dropP_le n P; have := HPl.out; omega)
        have HPA : Hid (∀ (W : World) (ll : List Th), Hp w W (prefT T P N :: ll) → Calls Try.prog 11 #[.pointer (some ⟨T, 0, none⟩), .int .i64 n] W fun e w' => e = .returned (.int .i64 ((P.length - (dropP n P).length : Nat) : Int)) ∧ Hp w w' (prefT T (dropP n P) (N + 1000) :: ll)) := Lib.hid (fun W ll hh => pdrop_calls hh (Below.refl _ _) (by omega) (by omega) n HN1.out)
        have HN2 : Hid (N + 1000 ≤ 1000 * (i + 1)) := Lib.hid (by omega)
        generalize P.length - (dropP n P).length = dn at *
        generalize dropP n P = P2 at *
        generalize N + 1000 = N2 at *
        go_wp2_with fail
        refine HC.out.mono ?_; rintro en w5 ⟨pg2, pc2, rfl, h5⟩
        have h5 : Hp w w5 [rowP (.slice (some ⟨pg2, 0, none⟩) P2.length pc2) P2, cellsT BX [.int .i64 kd, .int .i64 n, .string k], prefT T P N] := h5
        have HC2 := Lib.hid (HPA.out _ _ (h5.pull 2 rfl))
        have d1 := (h5.pull 1 rfl).cell 1 rfl
        have hbb : ((dn : Int) != (dn : Int)) = false := by simp
        have hbb2 : ((dn : Int) == (dn : Int)) = true := by simp
        clear h5 HC HPA HX b0 b1 b2 HPl
        go_wp2_with fail
        refine HC2.out.mono ?_; rintro en w6 ⟨rfl, h6⟩
        have HT : Hid (Hp w w6 [prefT T P2 N2, rowP (.slice (some ⟨pg2, 0, none⟩) P2.length pc2) P2, cellsT BX [.int .i64 kd, .int .i64 n, .string k]]) := Lib.hid h6
        clear h6 HC2 d1
        -- all answers held against each other
        have hP2 : P2.length ≤ 60 := by have := HP2.out; omega
        have HTr := Lib.hid (rtree_calls (HT.out.pull 1 rfl) (Below.refl _ _) (by omega))
        go_wp2_with fail
        refine HTr.out.mono ?_; rintro en w7 ⟨a13, c13, Q, rfl, hqc, hqm, hAll, h7⟩
        obtain ⟨hQn, hQk⟩ := all_keys hAll
        have hQl : Q.length ≤ 60 := by have := all_len hAll; rw [List.length_map] at this; omega
        have HD : Hid (Hp w w7.drew [cellsT BX [.int .i64 kd, .int .i64 n, .string k], prefT T P2 N2, rowP (.slice (some ⟨pg2, 0, none⟩) P2.length pc2) P2, rowT 63 2 (.slice a13 Q.length c13) Q.length (Pa.cellsM Q)]) := Lib.hid ((h7.bel (Below.refl _ _).drew).sel [3, 2, 1, 0] rfl)
        have hln := plen_calls (HD.out.pull 1 rfl) (Below.refl _ _) hQn fun x => by
          rw [hQk, List.mem_map]
          exact ⟨fun ⟨p, hp, e⟩ => ⟨p.2, by rw [← e]; exact hp⟩, fun ⟨m, hm⟩ => ⟨(x, m), hm, rfl⟩⟩
        rw [List.length_map] at hln
        have HLn := Lib.hid hln
        obtain ⟨X, hX, hnd⟩ := pnodes_calls (HD.out.pull 1 rfl) (Below.refl _ _)
        have HNd := Lib.hid hnd
        have hLs := row_lies (HD.out.pull 3 rfl)
        have hsz := (pref_nd (HD.out.pull 1 rfl)).2
        have hQs : ∀ i (h : i < Q.length), Q[i].1.size ≤ 140737488351232 := fun i h => by
          have hm := (hQk Q[i].1).1 (List.mem_map.2 ⟨Q[i], List.getElem_mem h, rfl⟩)
          obtain ⟨p, hp, e⟩ := List.mem_map.1 hm
          rw [← e]
          exact hsz p hp
        have HRN := Lib.hid (Pb.refNodes_calls w7.drew a13 c13 Q (by omega) hqc hqm hQs hLs)
        have HXX : Hid (∀ X2, SX X2 (Sn (kyM Q) Q.length) → X.length = X2.length) := Lib.hid (fun X2 h2 => by
          have := hX.len (h2.txe hAll (D := dat (P2.map (·.1))) fun K => by
            unfold zL
            by_cases hh : K ∈ dat (P2.map (·.1))
            · rw [if_pos hh]; simp [hh]
            · rw [if_neg hh]; simp [hh]) (fun _ => Iff.rfl)
          rwa [List.length_map] at this)
        have hkk : (k ++ key).size ≤ 140737488351232 := by rw [ByteArray.size_append]; omega
        obtain ⟨D1, HD1⟩ : ∃ D1, Hid (matP key P2 = D1) := ⟨_, Lib.hid rfl⟩
        obtain ⟨D2, HD2⟩ : ∃ D2, Hid (matP (k ++ key) P2 = D2) := ⟨_, Lib.hid rfl⟩
        obtain ⟨R, HR⟩ : ∃ R, Hid (srt (ofP n P2) = R) := ⟨_, Lib.hid rfl⟩
        have HDl : Hid (D1.length ≤ 1000000 ∧ D2.length ≤ 1000000 ∧ R.length ≤ 1000000) := Lib.hid ⟨by rw [← HD1.out]; have := mat_len key P2; omega, by rw [← HD2.out]; have := mat_len (k ++ key) P2; omega, by rw [← HR.out, Ma.srt_len]; have := ofP_le n P2; omega⟩
        have HMt : Hid (∀ (W : World) (ll : List Th), Hp w W (prefT T P2 N2 :: ll) → Calls Try.prog 17 #[.pointer (some ⟨T, 0, none⟩), .string key] W fun e w' => ∃ v, e = .returned v ∧ Hp w w' (rowI v D1 :: prefT T P2 N2 :: ll)) := Lib.hid (fun W ll hh => by
          have := pmatch_calls hh (Below.refl _ _) (by omega) key (by omega)
          rw [HD1.out] at this
          exact this)
        have HMu : Hid (∀ (W : World) (ll : List Th), Hp w W (prefT T P2 N2 :: ll) → Calls Try.prog 17 #[.pointer (some ⟨T, 0, none⟩), .string (k ++ key)] W fun e w' => ∃ v, e = .returned v ∧ Hp w w' (rowI v D2 :: prefT T P2 N2 :: ll)) := Lib.hid (fun W ll hh => by
          have := pmatch_calls hh (Below.refl _ _) (by omega) (k ++ key) hkk
          rw [HD2.out] at this
          exact this)
        have HRt : Hid (∀ (W : World) (ll : List Th), Hp w W (rowP (.slice (some ⟨pg2, 0, none⟩) P2.length pc2) P2 :: ll) → Calls Try.prog 18 #[.slice (some ⟨pg2, 0, none⟩) P2.length pc2, .string key] W fun e w' => ∃ v, e = .returned v ∧ Hp w w' (rowI v D1 :: rowP (.slice (some ⟨pg2, 0, none⟩) P2.length pc2) P2 :: ll)) := Lib.hid (fun W ll hh => by
          have := rmatch_calls hh (Below.refl _ _) (by omega) key
          rw [HD1.out] at this
          exact this)
        have HRu : Hid (∀ (W : World) (ll : List Th), Hp w W (rowP (.slice (some ⟨pg2, 0, none⟩) P2.length pc2) P2 :: ll) → Calls Try.prog 18 #[.slice (some ⟨pg2, 0, none⟩) P2.length pc2, .string (k ++ key)] W fun e w' => ∃ v, e = .returned v ∧ Hp w w' (rowI v D2 :: rowP (.slice (some ⟨pg2, 0, none⟩) P2.length pc2) P2 :: ll)) := Lib.hid (fun W ll hh => by
          have := rmatch_calls hh (Below.refl _ _) (by omega) (k ++ key)
          rw [HD2.out] at this
          exact this)
        have HOt : Hid (∀ (W : World) (ll : List Th), Hp w W (prefT T P2 N2 :: ll) → Calls Try.prog 20 #[.pointer (some ⟨T, 0, none⟩), .int .i64 n] W fun e w' => ∃ v, e = .returned v ∧ Hp w w' (rowS v R :: prefT T P2 N2 :: ll)) := Lib.hid (fun W ll hh => by
          have := pof_calls hh (Below.refl _ _) (by omega) n HN1.out
          rw [HR.out] at this
          exact this)
        have HRo : Hid (∀ (W : World) (ll : List Th), Hp w W (rowP (.slice (some ⟨pg2, 0, none⟩) P2.length pc2) P2 :: ll) → Calls Try.prog 21 #[.slice (some ⟨pg2, 0, none⟩) P2.length pc2, .int .i64 n] W fun e w' => ∃ v, e = .returned v ∧ Hp w w' (rowS v R :: rowP (.slice (some ⟨pg2, 0, none⟩) P2.length pc2) P2 :: ll)) := Lib.hid (fun W ll hh => by
          have := rof_calls hh (Below.refl _ _) (by omega) n
          rw [HR.out] at this
          exact this)
        have S1 : Hid (w7.drew.cell? ⟨BX, 1, none⟩ = some (.int .i64 n) ∧ w7.drew.cell? ⟨BX, 2, none⟩ = some (.string k)) := Lib.hid ⟨HD.out.cell 1 rfl, HD.out.cell 2 rfl⟩
        have hcs : k.size + key.size ≤ 9223372036854775807 := by omega
        have hcs2 : ¬ 9223372036854775807 < k.size + key.size := by omega
        have hq1 : ((Q.length : Int) != (Q.length : Int)) = false := by simp
        have hq2 : ((Q.length : Int) == (Q.length : Int)) = true := by simp
        have hx1 : ((X.length : Int) != (X.length : Int)) = false := by simp
        have hx2 : ((X.length : Int) == (X.length : Int)) = true := by simp
        clear h7 hAll hQn hQk hln hnd hLs hsz hQs hX HT HTr HD1 HD2 HR hkk hqc hqm hbb hbb2
        unfold ptr at *
        go_wp2_with fail
        go_region_held3 (fun W : World => W.cell? ⟨BX, 1, none⟩ = some (.int .i64 n) ∧ W.cell? ⟨BX, 2, none⟩ = some (.string k))
          (first | exact S1.out | exact S3.out | exact S4.out | exact S5.out | exact S6.out | exact S7.out | exact S8.out | exact S9.out | exact Sa.out | exact Sb.out | exact Sc.out)
          (first
            | (go_at_call 13; (with_reducible refine HLn.out.mono ?_); rintro en8 w8 ⟨rfl, rfl⟩; skip)
            | (go_at_call 14; (with_reducible refine HNd.out.mono ?_); rintro en8 w8 ⟨rfl, rfl⟩; skip)
            | (go_at_call 15; (with_reducible refine HRN.out.mono ?_); rintro en8 w8 ⟨⟨X2, hX2, rfl⟩, hb8⟩; rw [← HXX.out X2 hX2]; have h8 := HD.out.bel hb8; have h8 : Hp w w8 [cellsT BX [.int .i64 kd, .int .i64 n, .string k], prefT T P2 N2, rowP (.slice (some ⟨pg2, 0, none⟩) P2.length pc2) P2, rowT 63 2 (.slice a13 Q.length c13) Q.length (Pa.cellsM Q)] := h8; have S3 : Hid (w8.cell? ⟨BX, 1, none⟩ = some (.int .i64 n) ∧ w8.cell? ⟨BX, 2, none⟩ = some (.string k)) := Lib.hid ⟨h8.cell 1 rfl, h8.cell 2 rfl⟩; have HM1 := Lib.hid (HMt.out _ _ (h8.pull 1 rfl)); clear h8 hb8 hX2)
            | (go_at_call 17; (with_reducible refine HM1.out.mono ?_); rintro en9 w9 ⟨v9, rfl, h9⟩; obtain ⟨a9, c9, rfl, -, -⟩ := rowI_slice h9; have h9 : Hp w w9 [rowI (.slice a9 D1.length c9) D1, prefT T P2 N2, cellsT BX [.int .i64 kd, .int .i64 n, .string k], rowP (.slice (some ⟨pg2, 0, none⟩) P2.length pc2) P2, rowT 63 2 (.slice a13 Q.length c13) Q.length (Pa.cellsM Q)] := h9; have S4 : Hid (w9.cell? ⟨BX, 1, none⟩ = some (.int .i64 n) ∧ w9.cell? ⟨BX, 2, none⟩ = some (.string k)) := Lib.hid ⟨(h9.pull 2 rfl).cell 1 rfl, (h9.pull 2 rfl).cell 2 rfl⟩; have HR1 := Lib.hid (HRt.out _ _ (h9.pull 3 rfl)); clear h9)
            | (go_at_call 18; (with_reducible refine HR1.out.mono ?_); rintro en10 w10 ⟨v10, rfl, h10⟩; obtain ⟨a10, c10, rfl, -, -⟩ := rowI_slice h10; have h10 : Hp w w10 [rowI (.slice a10 D1.length c10) D1, rowP (.slice (some ⟨pg2, 0, none⟩) P2.length pc2) P2, rowI (.slice a9 D1.length c9) D1, prefT T P2 N2, cellsT BX [.int .i64 kd, .int .i64 n, .string k], rowT 63 2 (.slice a13 Q.length c13) Q.length (Pa.cellsM Q)] := h10; have S5 : Hid (w10.cell? ⟨BX, 1, none⟩ = some (.int .i64 n) ∧ w10.cell? ⟨BX, 2, none⟩ = some (.string k)) := Lib.hid ⟨(h10.pull 4 rfl).cell 1 rfl, (h10.pull 4 rfl).cell 2 rfl⟩; have HS1 := Lib.hid (sameI_calls w10 a9 a10 c9 c10 D1 HDl.out.1 (rowI_atI (h10.pull 2 rfl)) (rowI_atI h10)); have H10 := Lib.hid h10; clear h10)
            | (go_at_call 16; (with_reducible refine HS1.out.mono ?_); rintro en11 w11 ⟨rfl, hb11⟩; have h11 := H10.out.bel hb11; have h11 : Hp w w11 [rowI (.slice a10 D1.length c10) D1, rowP (.slice (some ⟨pg2, 0, none⟩) P2.length pc2) P2, rowI (.slice a9 D1.length c9) D1, prefT T P2 N2, cellsT BX [.int .i64 kd, .int .i64 n, .string k], rowT 63 2 (.slice a13 Q.length c13) Q.length (Pa.cellsM Q)] := h11; have S6 : Hid (w11.cell? ⟨BX, 1, none⟩ = some (.int .i64 n) ∧ w11.cell? ⟨BX, 2, none⟩ = some (.string k)) := Lib.hid ⟨(h11.pull 4 rfl).cell 1 rfl, (h11.pull 4 rfl).cell 2 rfl⟩; have HO1 := Lib.hid (HOt.out _ _ (h11.pull 3 rfl)); clear h11 hb11)
            | (go_at_call 20; (with_reducible refine HO1.out.mono ?_); rintro en12 w12 ⟨v12, rfl, h12⟩; obtain ⟨a12, c12, rfl, -, -, -⟩ := rowS_form h12; have h12 : Hp w w12 [rowS (.slice a12 R.length c12) R, prefT T P2 N2, rowI (.slice a10 D1.length c10) D1, rowP (.slice (some ⟨pg2, 0, none⟩) P2.length pc2) P2, rowI (.slice a9 D1.length c9) D1, cellsT BX [.int .i64 kd, .int .i64 n, .string k], rowT 63 2 (.slice a13 Q.length c13) Q.length (Pa.cellsM Q)] := h12; have S7 : Hid (w12.cell? ⟨BX, 1, none⟩ = some (.int .i64 n) ∧ w12.cell? ⟨BX, 2, none⟩ = some (.string k)) := Lib.hid ⟨(h12.pull 5 rfl).cell 1 rfl, (h12.pull 5 rfl).cell 2 rfl⟩; have HO2 := Lib.hid (HRo.out _ _ (h12.pull 3 rfl)); clear h12)
            | (go_at_call 21; (with_reducible refine HO2.out.mono ?_); rintro en13 w13 ⟨v13, rfl, h13⟩; obtain ⟨a13b, c13b, rfl, -, -, -⟩ := rowS_form h13; have h13 : Hp w w13 [rowS (.slice a13b R.length c13b) R, rowP (.slice (some ⟨pg2, 0, none⟩) P2.length pc2) P2, rowS (.slice a12 R.length c12) R, prefT T P2 N2, rowI (.slice a10 D1.length c10) D1, rowI (.slice a9 D1.length c9) D1, cellsT BX [.int .i64 kd, .int .i64 n, .string k], rowT 63 2 (.slice a13 Q.length c13) Q.length (Pa.cellsM Q)] := h13; have S8 : Hid (w13.cell? ⟨BX, 1, none⟩ = some (.int .i64 n) ∧ w13.cell? ⟨BX, 2, none⟩ = some (.string k)) := Lib.hid ⟨(h13.pull 6 rfl).cell 1 rfl, (h13.pull 6 rfl).cell 2 rfl⟩; have HSS := Lib.hid (sameS_calls w13 a12 a13b c12 c13b R HDl.out.2.2 (rowS_atS (h13.pull 2 rfl)) (rowS_atS h13)); have H13 := Lib.hid h13; clear h13)
            | (go_at_call 19; (with_reducible refine HSS.out.mono ?_); rintro en14 w14 ⟨rfl, hb14⟩; have h14 := H13.out.bel hb14; have h14 : Hp w w14 [rowS (.slice a13b R.length c13b) R, rowP (.slice (some ⟨pg2, 0, none⟩) P2.length pc2) P2, rowS (.slice a12 R.length c12) R, prefT T P2 N2, rowI (.slice a10 D1.length c10) D1, rowI (.slice a9 D1.length c9) D1, cellsT BX [.int .i64 kd, .int .i64 n, .string k], rowT 63 2 (.slice a13 Q.length c13) Q.length (Pa.cellsM Q)] := h14; have S9 : Hid (w14.cell? ⟨BX, 1, none⟩ = some (.int .i64 n) ∧ w14.cell? ⟨BX, 2, none⟩ = some (.string k)) := Lib.hid ⟨(h14.pull 6 rfl).cell 1 rfl, (h14.pull 6 rfl).cell 2 rfl⟩; have HM2 := Lib.hid (HMu.out _ _ (h14.pull 3 rfl)); clear h14 hb14)
            | (go_at_call 17; (with_reducible refine HM2.out.mono ?_); rintro en15 w15 ⟨v15, rfl, h15⟩; obtain ⟨a15, c15, rfl, -, -⟩ := rowI_slice h15; have h15 : Hp w w15 [rowI (.slice a15 D2.length c15) D2, prefT T P2 N2, rowS (.slice a13b R.length c13b) R, rowP (.slice (some ⟨pg2, 0, none⟩) P2.length pc2) P2, rowS (.slice a12 R.length c12) R, rowI (.slice a10 D1.length c10) D1, rowI (.slice a9 D1.length c9) D1, cellsT BX [.int .i64 kd, .int .i64 n, .string k], rowT 63 2 (.slice a13 Q.length c13) Q.length (Pa.cellsM Q)] := h15; have Sa : Hid (w15.cell? ⟨BX, 1, none⟩ = some (.int .i64 n) ∧ w15.cell? ⟨BX, 2, none⟩ = some (.string k)) := Lib.hid ⟨(h15.pull 7 rfl).cell 1 rfl, (h15.pull 7 rfl).cell 2 rfl⟩; have HR2 := Lib.hid (HRu.out _ _ (h15.pull 3 rfl)); clear h15)
            | (go_at_call 18; (with_reducible refine HR2.out.mono ?_); rintro en16 w16 ⟨v16, rfl, h16⟩; obtain ⟨a16, c16, rfl, -, -⟩ := rowI_slice h16; have h16 : Hp w w16 [rowI (.slice a16 D2.length c16) D2, rowP (.slice (some ⟨pg2, 0, none⟩) P2.length pc2) P2, rowI (.slice a15 D2.length c15) D2, prefT T P2 N2, rowS (.slice a13b R.length c13b) R, rowS (.slice a12 R.length c12) R, rowI (.slice a10 D1.length c10) D1, rowI (.slice a9 D1.length c9) D1, cellsT BX [.int .i64 kd, .int .i64 n, .string k], rowT 63 2 (.slice a13 Q.length c13) Q.length (Pa.cellsM Q)] := h16; have Sb : Hid (w16.cell? ⟨BX, 1, none⟩ = some (.int .i64 n) ∧ w16.cell? ⟨BX, 2, none⟩ = some (.string k)) := Lib.hid ⟨(h16.pull 8 rfl).cell 1 rfl, (h16.pull 8 rfl).cell 2 rfl⟩; have HS2 := Lib.hid (sameI_calls w16 a15 a16 c15 c16 D2 HDl.out.2.1 (rowI_atI (h16.pull 2 rfl)) (rowI_atI h16)); have H16 := Lib.hid h16; clear h16)
            | (go_at_call 16; (with_reducible refine HS2.out.mono ?_); rintro en17 w17 ⟨rfl, hb17⟩; have h17 := H16.out.bel hb17; have h17 : Hp w w17 [rowI (.slice a16 D2.length c16) D2, rowP (.slice (some ⟨pg2, 0, none⟩) P2.length pc2) P2, rowI (.slice a15 D2.length c15) D2, prefT T P2 N2, rowS (.slice a13b R.length c13b) R, rowS (.slice a12 R.length c12) R, rowI (.slice a10 D1.length c10) D1, rowI (.slice a9 D1.length c9) D1, cellsT BX [.int .i64 kd, .int .i64 n, .string k], rowT 63 2 (.slice a13 Q.length c13) Q.length (Pa.cellsM Q)] := h17; have Sc : Hid (w17.cell? ⟨BX, 1, none⟩ = some (.int .i64 n) ∧ w17.cell? ⟨BX, 2, none⟩ = some (.string k)) := Lib.hid ⟨(h17.pull 8 rfl).cell 1 rfl, (h17.pull 8 rfl).cell 2 rfl⟩; have H17 := Lib.hid (hp_take h17 [3, 1] 2 rfl); clear h17 hb17))
        all_goals (
          clear HD S1 S3 S4 S5 S6 S7 S8 S9 Sa Sb Sc HLn HNd HRN HXX HMt HMu HRt HRu HOt HRo HDl HM1 HR1 HS1 HO1 HO2 HSS HM2 HR2 HS2 H10 H13 H16
          go_wp2_with fail
          go_roundg (gk - 1)
          case measure => omega
          case rel => exact ⟨i + 1, N2, P2, pg2, pc2, _, by go_num, by omega, by omega, HN2.out, rfl, Lib.hid rfl, HP2, H17⟩)
end Go.Proofs.Ytnmncjeplfkdpaa.Qa
