/- KeysRuns. No condition. (Written by gen_ks3.py.) -/
import Derived.Test.YtkpcobaklbfpcaaKs2
namespace Go.Proofs.Ytkpcobaklbfpcaa.Ka
set_option linter.unusedVariables false
set_option linter.unusedSimpArgs false
open Go.ChangeShapes Go.WideShapes Go.ChangeAt Go.RowKit
open Sp (Th Hp Stays All Ro roT cellsT rowT exT puT star)
open Ca (inK inK_iff)
set_option maxHeartbeats 64000000 in
set_option maxRecDepth 100000 in
theorem keysRuns (x0 : Int) (xa : Option Addr) (xc : Nat) (L : List Ac) (w : World) (hI : InA w xa L) (hS : ∀ i (h : i < L.length), okAc L[i]) :
    Calls Try.prog 3 #[.int .i64 x0, .slice xa L.length xc] w fun e w' => e = .returned (.bool true) ∧ Below w.heap.size w w' := by
  have HI := Lib.hid hI
  have HSZ := Lib.hid hS
  clear hI hS
  have HA := Lib.hid (keysAlive w)
  obtain ⟨m, hm⟩ : ∃ m : Nat, max x0 1 = (m : Int) ∧ 1 ≤ m := ⟨(max x0 1).toNat, by omega, by omega⟩
  have HM := Lib.hid hm
  clear hm
  go_enter Try.func3, Try.ntmps3
  go_wp2_with fail
  refine HA.out.mono ?_; rintro en w2 ⟨rfl, hb2⟩
  have HB2 := Lib.hid hb2
  clear hb2 HA
  by_cases hl : 80 < L.length
  · have hlc : (80 : Int) < (L.length : Int) := by omega
    go_wp2_with fail
    go_ret
    exact ⟨rfl, HB2.out⟩
  have hlc : ¬ (80 : Int) < (L.length : Int) := by omega
  have HN := Lib.hid (new_calls (Hp.nil HB2.out) (Below.refl _ _) x0)
  rw [HM.out.1] at HN
  unfold ptr at HN
  go_wp2_with fail
  refine HN.out.mono ?_; rintro en w3 ⟨T, rfl, h3⟩
  have HR := Lib.hid (rnew_calls h3 (Below.refl _ _) x0)
  rw [HM.out.1] at HR
  unfold ptr at HR
  clear h3 HN
  go_wp2_with fail
  refine HR.out.mono ?_; rintro en w4 ⟨B, rfl, h4⟩
  have H4 := Lib.hid h4.swap
  clear h4 HR
  go_wp2_with fail
  go_loopg [26] (L.length + 1) (fun g vi wr => ∃ (i N : Nat) (S : Rows), vi = .int .i64 i ∧ i ≤ L.length ∧ L.length - i ≤ g ∧ N ≤ 100 * i ∧ Hid (Few i S) ∧ Hid (Hp w wr [keysT T (m : Int) S N, refT B (m : Int) S]))
  case atStart => exact ⟨0, 0, [], rfl, by omega, by omega, by omega, Lib.hid (Few.nil 0), H4⟩
  case round =>
    obtain ⟨i, N, S, rfl, hi, hg, hN, HF, HH⟩ := hrel
    clear H4
    by_cases hil : i < L.length
    case neg =>
      have hic : ¬ ((i : Int) < (L.length : Int)) := by omega
      go_wp2_with fail
      go_ret
      exact ⟨rfl, HH.out.below⟩
    case pos =>
      have hic : (i : Int) < (L.length : Int) := by omega
      have hi80 : i ≤ 79 := by omega
      obtain ⟨b, o, rfl, hlt, hcs⟩ := HI.out (by omega)
      obtain ⟨c0, c1, c2⟩ := hcs i hil
      have e : ∀ j, wr.cell? ⟨b, j, none⟩ = w.cell? ⟨b, j, none⟩ := fun j => HH.out.below.cell (p := ⟨b, j, none⟩) hlt
      rw [← e] at c0 c1 c2
      obtain ⟨hk, hn⟩ := HSZ.out i hil
      have HKN := Lib.hid (And.intro hk hn)
      have HOK := Lib.hid (keys_ok HH.out)
      clear hcs hlt e hk hn
      generalize L[i] = q at *
      obtain ⟨kd, n, k⟩ := q
      simp only at c0 c1 c2 HKN
      have HX : Hid (Hp w (wr.alloc (.cells #[.int .i64 kd, .int .i64 n, .string k] 29)) (cellsT wr.heap.size [.int .i64 kd, .int .i64 n, .string k] :: keysT T (m : Int) S N :: refT B (m : Int) S :: [])) := Lib.hid (HH.out.cellsNew [.int .i64 kd, .int .i64 n, .string k] 29)
      have HFs : Hid (S.length ≤ 80 ∧ (∀ r ∈ S, r.2.length ≤ 80)) := Lib.hid ⟨by have := HF.out.s; omega, fun r hr => by have := HF.out.r r hr; omega⟩
      go_upto_region 9 with fail
      generalize wr.alloc (.cells #[.int .i64 kd, .int .i64 n, .string k] 29) = W0 at *
      generalize wr.heap.size = BX at *
      clear c0 c1 c2 HH
      have b0 := HX.out.cell 0 rfl
      have b1 := HX.out.cell 1 rfl
      have b2 := HX.out.cell 2 rfl
      by_cases hk0 : kd = 0
      · have z0 : (kd == 0) = true := by rw [beq_iff_eq]; exact hk0
        clear hk0
        have HA1 := Lib.hid (add_calls (HX.out.pull 1 rfl) (Below.refl _ _) HKN.out.1 HM.out.2 (by have := HFs.out.1; omega) (fun r hr => Nat.le_trans (HFs.out.2 r hr) (by decide)) (by omega) n HKN.out.2)
        have HF2 : Hid (Few (i + 1) (addR k n (roomR m k S))) := Lib.hid ((HF.out.sub (room_sub m k S)).add (fun r hr => HOK.out.up r ((room_sub m k S).subset hr)) k n)
        have HRf : Hid (∀ (W : World) (ll : List Th), Hp w W (refT B (m : Int) S :: ll) → Calls Try.prog 10 #[ptr B, .string k, .int .i64 n] W fun e w' => ∃ a c, e = .returned (.tuple #[.string (goneR m k S).1, .slice a (goneR m k S).2.length c, .bool (fullR m k S)]) ∧ Hp w w' (roT (atRo a (goneR m k S).2) :: refT B (m : Int) (addR k n (roomR m k S)) :: ll)) := Lib.hid (fun W ll hh => radd_calls hh (Below.refl _ _) HKN.out.1 HM.out.2 (by have := HFs.out.1; omega) (fun r hr => Nat.le_trans (HFs.out.2 r hr) (by decide)) n HKN.out.2)
        have HGi : Hid ((goneR m k S).2.length ≤ 1000000) := Lib.hid (by
          unfold goneR
          split
          · cases hS : S with
            | nil => exact Nat.zero_le _
            | cons r S' => have := HFs.out.2 r (by rw [hS]; exact List.mem_cons_self ..); show r.2.length ≤ _; omega
          · exact Nat.zero_le _)
        obtain ⟨N2, HN2⟩ : ∃ N2, Hid (N + 1 = N2) := ⟨_, Lib.hid rfl⟩
        have hN2 : N2 ≤ 100 * (i + 1) := by have := HN2.out; omega
        rw [HN2.out] at HA1
        generalize addR k n (roomR m k S) = S2 at *
        generalize (goneR m k S).1 = gq at *
        generalize (goneR m k S).2 = gi at *
        generalize fullR m k S = fb at *
        unfold ptr at HA1 HRf
        clear HFs HF HOK
        go_wp2_with fail
        refine HA1.out.mono ?_; rintro en w5 ⟨v5, rfl, h5⟩
        obtain ⟨a5, c5, rfl, -, -⟩ := rowI_slice h5
        have h5 : Hp w w5 (rowI (.slice a5 gi.length c5) gi :: keysT T (m : Int) S2 N2 :: cellsT BX [.int .i64 kd, .int .i64 n, .string k] :: refT B (m : Int) S :: []) := h5
        have HA2 := Lib.hid (HRf.out _ _ (h5.pull 3 rfl))
        have d1 := (h5.pull 2 rfl).cell 1 rfl
        have d2 := (h5.pull 2 rfl).cell 2 rfl
        clear h5 HA1 HX b0 b1 b2 HRf
        go_wp2_with fail
        refine HA2.out.mono ?_; rintro en w6 ⟨a6, c6, rfl, h6⟩
        have h6 : Hp w w6 (roT (atRo a6 gi) :: refT B (m : Int) S2 :: rowI (.slice a5 gi.length c5) gi :: keysT T (m : Int) S2 N2 :: cellsT BX [.int .i64 kd, .int .i64 n, .string k] :: []) := h6
        have HSa := Lib.hid (sameI_calls w6 a5 a6 c5 c6 gi HGi.out (rowI_atI (h6.pull 2 rfl)) (at_ro h6))
        have H6 := Lib.hid h6
        have hqq : (gq.toList == gq.toList) = true := beq_self_eq_true _
        have hfb : (fb == fb) = true := beq_self_eq_true _
        clear h6 HA2 d1 d2
        go_wp2_with fail
        refine HSa.out.mono ?_; rintro en WT ⟨rfl, hb7⟩
        have HT : Hid (Hp w WT (cellsT BX [.int .i64 kd, .int .i64 n, .string k] :: keysT T (m : Int) S2 N2 :: refT B (m : Int) S2 :: [])) := Lib.hid ((H6.out.bel hb7).sel [4, 3, 1] rfl |>.dropAt 3 rfl |>.dropAt 3 rfl)
        clear hb7 H6 HSa
        -- all rows held against each other
        have HFs2 : Hid ((keysL S2).length ≤ 1000000 ∧ S2.length ≤ 100000 ∧ (idsR k S2).length ≤ 1000000) := Lib.hid ⟨by rw [keys_len]; have := HF2.out.s; omega, by have := HF2.out.s; omega, by have := HF2.out.ids k; omega⟩
        obtain ⟨G, gv, hGp, hGok, hG⟩ := ref_open (HT.out.pull 2 rfl)
        have HGp := Lib.hid (And.intro hGp hGok)
        have hGl : G.length = S2.length := by rw [← hGp, plainG_len]
        obtain ⟨ra, rc, rfl, -, -, -⟩ := (hG.pull 1 rfl).rowForm
        rw [hGl] at hG
        have HD : Hid (Hp w WT.drew (cellsT BX [.int .i64 kd, .int .i64 n, .string k] :: keysT T (m : Int) S2 N2 :: cellsT B [.slice ra S2.length rc, .int .i64 m] :: rowG (.slice ra S2.length rc) G :: roT (allRo G) :: [])) := Lib.hid ((hG.bel (Below.refl _ _).drew).sel [3, 4] rfl)
        have HGl := Lib.hid hGl
        clear hG hGp hGok hGl HT
        go_wp2_with fail
        have S1 : Hid (WT.drew.cell? ⟨BX, 2, none⟩ = some (.string k) ∧ WT.drew.cell? ⟨B, 0, none⟩ = some (.slice ra S2.length rc)) := Lib.hid ⟨HD.out.cell 2 rfl, (HD.out.pull 2 rfl).cell 0 rfl⟩
        have HLn := Lib.hid (len_calls (HD.out.pull 1 rfl) (Below.refl _ _))
        have HAl := Lib.hid (all_calls (HD.out.pull 1 rfl) (Below.refl _ _) (by have := HFs2.out.2.1; omega))
        unfold ptr at HLn HAl
        have hneq : (((S2.length : Nat) : Int) == ((S2.length : Nat) : Int)) = true := beq_self_eq_true _
        have HrAll : Hid (∀ (W : World) (ll : List Th), Hp w W (cellsT B [.slice ra S2.length rc, .int .i64 m] :: rowG (.slice ra S2.length rc) G :: roT (allRo G) :: ll) → Calls Try.prog 20 #[.pointer (some ⟨B, 0, none⟩)] W fun e w' => ∃ v', e = .returned v' ∧ Hp w w' (rowS v' (keysL S2) :: cellsT B [.slice ra S2.length rc, .int .i64 m] :: rowG (.slice ra S2.length rc) G :: roT (allRo G) :: ll)) := Lib.hid (fun W ll hh => by
          have := rall_raw hh (Below.refl _ _) (by rw [HGl.out]; exact HFs2.out.2.1)
          rw [HGp.out.1] at this
          exact this)
        have HrIds : Hid (∀ (W : World) (ll : List Th), Hp w W (cellsT B [.slice ra S2.length rc, .int .i64 m] :: rowG (.slice ra S2.length rc) G :: roT (allRo G) :: ll) → Calls Try.prog 22 #[.pointer (some ⟨B, 0, none⟩), .string k] W fun e w' => ∃ a c, e = .returned (.slice a (idsR k S2).length c) ∧ Hp w w' (roT (atRo a (idsR k S2)) :: cellsT B [.slice ra S2.length rc, .int .i64 m] :: rowG (.slice ra S2.length rc) G :: roT (allRo G) :: ll)) := Lib.hid (fun W ll hh => by
          have := rids_raw hh (Below.refl _ _) (by rw [HGp.out.1]; exact HGp.out.2) (by rw [HGl.out]; exact HFs2.out.2.1) k
          rw [HGp.out.1] at this
          exact this)
        have HEnd : Hid (∀ W : World, Hp w W (keysT T (m : Int) S2 N2 :: cellsT B [.slice ra S2.length rc, .int .i64 m] :: rowG (.slice ra S2.length rc) G :: roT (allRo G) :: []) → Hp w W [keysT T (m : Int) S2 N2, refT B (m : Int) S2]) := Lib.hid (fun W hh => (ref_shut HGp.out.1 HGp.out.2 (hh.sel [1, 2, 3] rfl)).swap)
        obtain ⟨D, HDq⟩ : ∃ D, Hid (idsR k S2 = D) := ⟨_, Lib.hid rfl⟩
        obtain ⟨KK, HKq⟩ : ∃ KK, Hid (keysL S2 = KK) := ⟨_, Lib.hid rfl⟩
        have HFs3 : Hid (KK.length ≤ 1000000 ∧ D.length ≤ 1000000) := Lib.hid ⟨by rw [← HKq.out]; exact HFs2.out.1, by rw [← HDq.out]; exact HFs2.out.2.2⟩
        have HIdK : Hid (∀ (W : World) (ll : List Th), Hp w W (keysT T (m : Int) S2 N2 :: ll) → Calls Try.prog 21 #[.pointer (some ⟨T, 0, none⟩), .string k] W fun e w' => ∃ v, e = .returned v ∧ Hp w w' (rowI v D :: keysT T (m : Int) S2 N2 :: ll)) := Lib.hid (fun W ll hh => by
          have := ids_calls (k := k) hh (Below.refl _ _) HKN.out.1 HFs2.out.2.2
          rw [HDq.out] at this
          exact this)
        rw [HKq.out] at HAl HrAll
        rw [HDq.out] at HrIds
        go_region_held3 (fun W : World => W.cell? ⟨BX, 2, none⟩ = some (.string k) ∧ W.cell? ⟨B, 0, none⟩ = some (.slice ra S2.length rc))
          (first | exact S1.out | exact S3.out | exact S4.out | exact S5.out | exact S6.out | exact S7.out | exact S8.out)
          (first
            | (go_at_call 17; (with_reducible refine HLn.out.mono ?_); rintro en8 w8 ⟨rfl, rfl⟩)
            | (go_at_call 19; (with_reducible refine HAl.out.mono ?_); rintro en8 w8 ⟨v8, rfl, hR8⟩; have h8 := HD.out.rowAdd hR8.bel hR8.row (Nat.le_refl _); have h8 : Hp w w8 (rowS v8 KK :: cellsT BX [.int .i64 kd, .int .i64 n, .string k] :: keysT T (m : Int) S2 N2 :: cellsT B [.slice ra S2.length rc, .int .i64 m] :: rowG (.slice ra S2.length rc) G :: roT (allRo G) :: []) := h8; obtain ⟨a8, c8, rfl, -⟩ := rowS_slice h8; have S3 : Hid (w8.cell? ⟨BX, 2, none⟩ = some (.string k) ∧ w8.cell? ⟨B, 0, none⟩ = some (.slice ra S2.length rc)) := Lib.hid ⟨(h8.pull 1 rfl).cell 2 rfl, (h8.pull 3 rfl).cell 0 rfl⟩; have HrA := Lib.hid (HrAll.out _ _ (h8.sel [3, 4, 5] rfl)); clear h8 hR8)
            | (go_at_call 20; (with_reducible refine HrA.out.mono ?_); rintro en9 w9 ⟨v9, rfl, h9⟩; have h9 : Hp w w9 (rowS v9 KK :: cellsT B [.slice ra S2.length rc, .int .i64 m] :: rowG (.slice ra S2.length rc) G :: roT (allRo G) :: rowS (.slice a8 KK.length c8) KK :: cellsT BX [.int .i64 kd, .int .i64 n, .string k] :: keysT T (m : Int) S2 N2 :: []) := h9; obtain ⟨a9, c9, rfl, hI9⟩ := rowS_slice h9; have hI8 := rowS_inT (h9.pull 4 rfl); have S4 : Hid (w9.cell? ⟨BX, 2, none⟩ = some (.string k) ∧ w9.cell? ⟨B, 0, none⟩ = some (.slice ra S2.length rc)) := Lib.hid ⟨(h9.pull 5 rfl).cell 2 rfl, (h9.pull 1 rfl).cell 0 rfl⟩; have HSm := Lib.hid (Ca.same_calls w9 a8 a9 c8 c9 KK HFs3.out.1 hI8 hI9); have H9 := Lib.hid h9; clear h9 hI8 hI9)
            | (go_at_call 18; (with_reducible refine HSm.out.mono ?_); rintro en10 w10 ⟨rfl, hb10⟩; have h10 := H9.out.bel hb10; have S5 : Hid (w10.cell? ⟨BX, 2, none⟩ = some (.string k) ∧ w10.cell? ⟨B, 0, none⟩ = some (.slice ra S2.length rc)) := Lib.hid ⟨(h10.pull 5 rfl).cell 2 rfl, (h10.pull 1 rfl).cell 0 rfl⟩; have HId := Lib.hid (HIdK.out _ _ (h10.pull 6 rfl)); clear h10 hb10)
            | (go_at_call 21; (with_reducible refine HId.out.mono ?_); rintro en11 w11 ⟨v11, rfl, h11⟩; have h11 : Hp w w11 (rowI v11 D :: keysT T (m : Int) S2 N2 :: rowS (.slice a9 KK.length c9) KK :: cellsT B [.slice ra S2.length rc, .int .i64 m] :: rowG (.slice ra S2.length rc) G :: roT (allRo G) :: rowS (.slice a8 KK.length c8) KK :: cellsT BX [.int .i64 kd, .int .i64 n, .string k] :: []) := h11; obtain ⟨a11, c11, rfl, -, -⟩ := rowI_slice h11; have S6 : Hid (w11.cell? ⟨BX, 2, none⟩ = some (.string k) ∧ w11.cell? ⟨B, 0, none⟩ = some (.slice ra S2.length rc)) := Lib.hid ⟨(h11.pull 7 rfl).cell 2 rfl, (h11.pull 3 rfl).cell 0 rfl⟩; have HrI := Lib.hid (HrIds.out _ _ (h11.sel [3, 4, 5] rfl)); clear h11)
            | (go_at_call 22; (with_reducible refine HrI.out.mono ?_); rintro en12 w12 ⟨a12, c12, rfl, h12⟩; have h12 : Hp w w12 (roT (atRo a12 D) :: cellsT B [.slice ra S2.length rc, .int .i64 m] :: rowG (.slice ra S2.length rc) G :: roT (allRo G) :: rowI (.slice a11 D.length c11) D :: keysT T (m : Int) S2 N2 :: rowS (.slice a9 KK.length c9) KK :: rowS (.slice a8 KK.length c8) KK :: cellsT BX [.int .i64 kd, .int .i64 n, .string k] :: []) := h12; have S7 : Hid (w12.cell? ⟨BX, 2, none⟩ = some (.string k) ∧ w12.cell? ⟨B, 0, none⟩ = some (.slice ra S2.length rc)) := Lib.hid ⟨(h12.pull 8 rfl).cell 2 rfl, (h12.pull 1 rfl).cell 0 rfl⟩; have HSi := Lib.hid (sameI_calls w12 a11 a12 c11 c12 D HFs3.out.2 (rowI_atI (h12.pull 4 rfl)) (at_ro h12)); have H12 := Lib.hid h12; clear h12)
            | (go_at_call 11; (with_reducible refine HSi.out.mono ?_); rintro en13 w13 ⟨rfl, hb13⟩; have h13 := H12.out.bel hb13; have S8 : Hid (w13.cell? ⟨BX, 2, none⟩ = some (.string k) ∧ w13.cell? ⟨B, 0, none⟩ = some (.slice ra S2.length rc)) := Lib.hid ⟨(h13.pull 8 rfl).cell 2 rfl, (h13.pull 1 rfl).cell 0 rfl⟩; have H13 := Lib.hid (HEnd.out _ (h13.sel [5, 1, 2, 3] rfl |>.dropAt 4 rfl |>.dropAt 4 rfl |>.dropAt 4 rfl |>.dropAt 4 rfl |>.dropAt 4 rfl)); clear h13 hb13))
        all_goals (
          clear HD S1 S3 S4 S5 S6 S7 S8 HLn HAl HrAll HrIds HEnd HFs2 HFs3 HIdK HSm HSi HId HrI HrA H9 H12 HGp HGl HDq HKq
          go_wp2_with fail
          go_roundg (gk - 1)
          case measure => omega
          case rel => exact ⟨i + 1, N2, S2, by go_num, by omega, by omega, by omega, HF2, H13⟩)
      · have z0 : (kd == 0) = false := by rw [beq_eq_false_iff_ne]; exact hk0
        clear hk0
        by_cases hk1 : kd = 1
        · have z1 : (kd == 1) = true := by rw [beq_iff_eq]; exact hk1
          clear hk1
          have HTk := Lib.hid (ktake_calls (k := k) ((HX.out.bel (Below.refl _ _).drew).pull 1 rfl) (Below.refl _ _) HKN.out.1)
          have HF2 : Hid (Few (i + 1) (takeR k S)) := Lib.hid ((HF.out.sub List.filter_sublist).mono (Nat.le_succ i))
          have HRf : Hid (∀ (W : World) (ll : List Th), Hp w W (refT B (m : Int) S :: ll) → Calls Try.prog 13 #[ptr B, .string k] W fun e w' => ∃ a c, e = .returned (.slice a (idsR k S).length c) ∧ Hp w w' (roT (atRo a (idsR k S)) :: refT B (m : Int) (takeR k S) :: ll)) := Lib.hid (fun W ll hh => rtake_calls hh (Below.refl _ _) (by have := HFs.out.1; omega) k)
          have HGi : Hid ((idsR k S).length ≤ 1000000) := Lib.hid (by have := HF.out.ids k; omega)
          obtain ⟨N2, HN2⟩ : ∃ N2, Hid (N = N2) := ⟨_, Lib.hid rfl⟩
          have hN2 : N2 ≤ 100 * (i + 1) := by have := HN2.out; omega
          rw [HN2.out] at HTk
          generalize takeR k S = S2 at *
          generalize idsR k S = gi at *
          unfold ptr at HTk HRf
          clear HFs HF HOK
          go_wp2_with fail
          have R1 : Hid (W0.drew.cell? ⟨BX, 2, none⟩ = some (.string k)) := Lib.hid ((HX.out.bel (Below.refl _ _).drew).cell 2 rfl)
          clear HX b0 b1 b2
          go_region_held3 (fun W : World => W.cell? ⟨BX, 2, none⟩ = some (.string k))
            (first | exact R1.out | exact R2.out | exact R3.out | exact R4.out)
            (first
              | (go_at_call 12; (with_reducible refine HTk.out.mono ?_); rintro en5 w5 ⟨v5, rfl, h5⟩; obtain ⟨a5, c5, rfl, -, -⟩ := rowI_slice h5; have h5 : Hp w w5 (rowI (.slice a5 gi.length c5) gi :: keysT T (m : Int) S2 N2 :: cellsT BX [.int .i64 kd, .int .i64 n, .string k] :: refT B (m : Int) S :: []) := h5; have HA2 := Lib.hid (HRf.out _ _ (h5.pull 3 rfl)); have R2 : Hid (w5.cell? ⟨BX, 2, none⟩ = some (.string k)) := Lib.hid ((h5.pull 2 rfl).cell 2 rfl); clear h5)
              | (go_at_call 13; (with_reducible refine HA2.out.mono ?_); rintro en6 w6 ⟨a6, c6, rfl, h6⟩; have h6 : Hp w w6 (roT (atRo a6 gi) :: refT B (m : Int) S2 :: rowI (.slice a5 gi.length c5) gi :: keysT T (m : Int) S2 N2 :: cellsT BX [.int .i64 kd, .int .i64 n, .string k] :: []) := h6; have HSa := Lib.hid (sameI_calls w6 a5 a6 c5 c6 gi HGi.out (rowI_atI (h6.pull 2 rfl)) (at_ro h6)); have R3 : Hid (w6.cell? ⟨BX, 2, none⟩ = some (.string k)) := Lib.hid ((h6.pull 4 rfl).cell 2 rfl); have H6 := Lib.hid h6; clear h6)
              | (go_at_call 11; (with_reducible refine HSa.out.mono ?_); rintro en7 WT ⟨rfl, hb7⟩; have HT : Hid (Hp w WT (cellsT BX [.int .i64 kd, .int .i64 n, .string k] :: keysT T (m : Int) S2 N2 :: refT B (m : Int) S2 :: [])) := Lib.hid ((H6.out.bel hb7).sel [4, 3, 1] rfl |>.dropAt 3 rfl |>.dropAt 3 rfl); have R4 : Hid (WT.cell? ⟨BX, 2, none⟩ = some (.string k)) := Lib.hid (HT.out.cell 2 rfl); clear hb7))
          clear R1 R2 R3 R4 H6 HSa HA2 HTk HRf HGi
          -- all rows held against each other
          have HFs2 : Hid ((keysL S2).length ≤ 1000000 ∧ S2.length ≤ 100000 ∧ (idsR k S2).length ≤ 1000000) := Lib.hid ⟨by rw [keys_len]; have := HF2.out.s; omega, by have := HF2.out.s; omega, by have := HF2.out.ids k; omega⟩
          obtain ⟨G, gv, hGp, hGok, hG⟩ := ref_open (HT.out.pull 2 rfl)
          have HGp := Lib.hid (And.intro hGp hGok)
          have hGl : G.length = S2.length := by rw [← hGp, plainG_len]
          obtain ⟨ra, rc, rfl, -, -, -⟩ := (hG.pull 1 rfl).rowForm
          rw [hGl] at hG
          have HD : Hid (Hp w WT.drew (cellsT BX [.int .i64 kd, .int .i64 n, .string k] :: keysT T (m : Int) S2 N2 :: cellsT B [.slice ra S2.length rc, .int .i64 m] :: rowG (.slice ra S2.length rc) G :: roT (allRo G) :: [])) := Lib.hid ((hG.bel (Below.refl _ _).drew).sel [3, 4] rfl)
          have HGl := Lib.hid hGl
          clear hG hGp hGok hGl HT
          go_wp2_with fail
          have S1 : Hid (WT.drew.cell? ⟨BX, 2, none⟩ = some (.string k) ∧ WT.drew.cell? ⟨B, 0, none⟩ = some (.slice ra S2.length rc)) := Lib.hid ⟨HD.out.cell 2 rfl, (HD.out.pull 2 rfl).cell 0 rfl⟩
          have HLn := Lib.hid (len_calls (HD.out.pull 1 rfl) (Below.refl _ _))
          have HAl := Lib.hid (all_calls (HD.out.pull 1 rfl) (Below.refl _ _) (by have := HFs2.out.2.1; omega))
          unfold ptr at HLn HAl
          have hneq : (((S2.length : Nat) : Int) == ((S2.length : Nat) : Int)) = true := beq_self_eq_true _
          have HrAll : Hid (∀ (W : World) (ll : List Th), Hp w W (cellsT B [.slice ra S2.length rc, .int .i64 m] :: rowG (.slice ra S2.length rc) G :: roT (allRo G) :: ll) → Calls Try.prog 20 #[.pointer (some ⟨B, 0, none⟩)] W fun e w' => ∃ v', e = .returned v' ∧ Hp w w' (rowS v' (keysL S2) :: cellsT B [.slice ra S2.length rc, .int .i64 m] :: rowG (.slice ra S2.length rc) G :: roT (allRo G) :: ll)) := Lib.hid (fun W ll hh => by
            have := rall_raw hh (Below.refl _ _) (by rw [HGl.out]; exact HFs2.out.2.1)
            rw [HGp.out.1] at this
            exact this)
          have HrIds : Hid (∀ (W : World) (ll : List Th), Hp w W (cellsT B [.slice ra S2.length rc, .int .i64 m] :: rowG (.slice ra S2.length rc) G :: roT (allRo G) :: ll) → Calls Try.prog 22 #[.pointer (some ⟨B, 0, none⟩), .string k] W fun e w' => ∃ a c, e = .returned (.slice a (idsR k S2).length c) ∧ Hp w w' (roT (atRo a (idsR k S2)) :: cellsT B [.slice ra S2.length rc, .int .i64 m] :: rowG (.slice ra S2.length rc) G :: roT (allRo G) :: ll)) := Lib.hid (fun W ll hh => by
            have := rids_raw hh (Below.refl _ _) (by rw [HGp.out.1]; exact HGp.out.2) (by rw [HGl.out]; exact HFs2.out.2.1) k
            rw [HGp.out.1] at this
            exact this)
          have HEnd : Hid (∀ W : World, Hp w W (keysT T (m : Int) S2 N2 :: cellsT B [.slice ra S2.length rc, .int .i64 m] :: rowG (.slice ra S2.length rc) G :: roT (allRo G) :: []) → Hp w W [keysT T (m : Int) S2 N2, refT B (m : Int) S2]) := Lib.hid (fun W hh => (ref_shut HGp.out.1 HGp.out.2 (hh.sel [1, 2, 3] rfl)).swap)
          obtain ⟨D, HDq⟩ : ∃ D, Hid (idsR k S2 = D) := ⟨_, Lib.hid rfl⟩
          obtain ⟨KK, HKq⟩ : ∃ KK, Hid (keysL S2 = KK) := ⟨_, Lib.hid rfl⟩
          have HFs3 : Hid (KK.length ≤ 1000000 ∧ D.length ≤ 1000000) := Lib.hid ⟨by rw [← HKq.out]; exact HFs2.out.1, by rw [← HDq.out]; exact HFs2.out.2.2⟩
          have HIdK : Hid (∀ (W : World) (ll : List Th), Hp w W (keysT T (m : Int) S2 N2 :: ll) → Calls Try.prog 21 #[.pointer (some ⟨T, 0, none⟩), .string k] W fun e w' => ∃ v, e = .returned v ∧ Hp w w' (rowI v D :: keysT T (m : Int) S2 N2 :: ll)) := Lib.hid (fun W ll hh => by
            have := ids_calls (k := k) hh (Below.refl _ _) HKN.out.1 HFs2.out.2.2
            rw [HDq.out] at this
            exact this)
          rw [HKq.out] at HAl HrAll
          rw [HDq.out] at HrIds
          go_region_held3 (fun W : World => W.cell? ⟨BX, 2, none⟩ = some (.string k) ∧ W.cell? ⟨B, 0, none⟩ = some (.slice ra S2.length rc))
            (first | exact S1.out | exact S3.out | exact S4.out | exact S5.out | exact S6.out | exact S7.out | exact S8.out)
            (first
              | (go_at_call 17; (with_reducible refine HLn.out.mono ?_); rintro en8 w8 ⟨rfl, rfl⟩)
              | (go_at_call 19; (with_reducible refine HAl.out.mono ?_); rintro en8 w8 ⟨v8, rfl, hR8⟩; have h8 := HD.out.rowAdd hR8.bel hR8.row (Nat.le_refl _); have h8 : Hp w w8 (rowS v8 KK :: cellsT BX [.int .i64 kd, .int .i64 n, .string k] :: keysT T (m : Int) S2 N2 :: cellsT B [.slice ra S2.length rc, .int .i64 m] :: rowG (.slice ra S2.length rc) G :: roT (allRo G) :: []) := h8; obtain ⟨a8, c8, rfl, -⟩ := rowS_slice h8; have S3 : Hid (w8.cell? ⟨BX, 2, none⟩ = some (.string k) ∧ w8.cell? ⟨B, 0, none⟩ = some (.slice ra S2.length rc)) := Lib.hid ⟨(h8.pull 1 rfl).cell 2 rfl, (h8.pull 3 rfl).cell 0 rfl⟩; have HrA := Lib.hid (HrAll.out _ _ (h8.sel [3, 4, 5] rfl)); clear h8 hR8)
              | (go_at_call 20; (with_reducible refine HrA.out.mono ?_); rintro en9 w9 ⟨v9, rfl, h9⟩; have h9 : Hp w w9 (rowS v9 KK :: cellsT B [.slice ra S2.length rc, .int .i64 m] :: rowG (.slice ra S2.length rc) G :: roT (allRo G) :: rowS (.slice a8 KK.length c8) KK :: cellsT BX [.int .i64 kd, .int .i64 n, .string k] :: keysT T (m : Int) S2 N2 :: []) := h9; obtain ⟨a9, c9, rfl, hI9⟩ := rowS_slice h9; have hI8 := rowS_inT (h9.pull 4 rfl); have S4 : Hid (w9.cell? ⟨BX, 2, none⟩ = some (.string k) ∧ w9.cell? ⟨B, 0, none⟩ = some (.slice ra S2.length rc)) := Lib.hid ⟨(h9.pull 5 rfl).cell 2 rfl, (h9.pull 1 rfl).cell 0 rfl⟩; have HSm := Lib.hid (Ca.same_calls w9 a8 a9 c8 c9 KK HFs3.out.1 hI8 hI9); have H9 := Lib.hid h9; clear h9 hI8 hI9)
              | (go_at_call 18; (with_reducible refine HSm.out.mono ?_); rintro en10 w10 ⟨rfl, hb10⟩; have h10 := H9.out.bel hb10; have S5 : Hid (w10.cell? ⟨BX, 2, none⟩ = some (.string k) ∧ w10.cell? ⟨B, 0, none⟩ = some (.slice ra S2.length rc)) := Lib.hid ⟨(h10.pull 5 rfl).cell 2 rfl, (h10.pull 1 rfl).cell 0 rfl⟩; have HId := Lib.hid (HIdK.out _ _ (h10.pull 6 rfl)); clear h10 hb10)
              | (go_at_call 21; (with_reducible refine HId.out.mono ?_); rintro en11 w11 ⟨v11, rfl, h11⟩; have h11 : Hp w w11 (rowI v11 D :: keysT T (m : Int) S2 N2 :: rowS (.slice a9 KK.length c9) KK :: cellsT B [.slice ra S2.length rc, .int .i64 m] :: rowG (.slice ra S2.length rc) G :: roT (allRo G) :: rowS (.slice a8 KK.length c8) KK :: cellsT BX [.int .i64 kd, .int .i64 n, .string k] :: []) := h11; obtain ⟨a11, c11, rfl, -, -⟩ := rowI_slice h11; have S6 : Hid (w11.cell? ⟨BX, 2, none⟩ = some (.string k) ∧ w11.cell? ⟨B, 0, none⟩ = some (.slice ra S2.length rc)) := Lib.hid ⟨(h11.pull 7 rfl).cell 2 rfl, (h11.pull 3 rfl).cell 0 rfl⟩; have HrI := Lib.hid (HrIds.out _ _ (h11.sel [3, 4, 5] rfl)); clear h11)
              | (go_at_call 22; (with_reducible refine HrI.out.mono ?_); rintro en12 w12 ⟨a12, c12, rfl, h12⟩; have h12 : Hp w w12 (roT (atRo a12 D) :: cellsT B [.slice ra S2.length rc, .int .i64 m] :: rowG (.slice ra S2.length rc) G :: roT (allRo G) :: rowI (.slice a11 D.length c11) D :: keysT T (m : Int) S2 N2 :: rowS (.slice a9 KK.length c9) KK :: rowS (.slice a8 KK.length c8) KK :: cellsT BX [.int .i64 kd, .int .i64 n, .string k] :: []) := h12; have S7 : Hid (w12.cell? ⟨BX, 2, none⟩ = some (.string k) ∧ w12.cell? ⟨B, 0, none⟩ = some (.slice ra S2.length rc)) := Lib.hid ⟨(h12.pull 8 rfl).cell 2 rfl, (h12.pull 1 rfl).cell 0 rfl⟩; have HSi := Lib.hid (sameI_calls w12 a11 a12 c11 c12 D HFs3.out.2 (rowI_atI (h12.pull 4 rfl)) (at_ro h12)); have H12 := Lib.hid h12; clear h12)
              | (go_at_call 11; (with_reducible refine HSi.out.mono ?_); rintro en13 w13 ⟨rfl, hb13⟩; have h13 := H12.out.bel hb13; have S8 : Hid (w13.cell? ⟨BX, 2, none⟩ = some (.string k) ∧ w13.cell? ⟨B, 0, none⟩ = some (.slice ra S2.length rc)) := Lib.hid ⟨(h13.pull 8 rfl).cell 2 rfl, (h13.pull 1 rfl).cell 0 rfl⟩; have H13 := Lib.hid (HEnd.out _ (h13.sel [5, 1, 2, 3] rfl |>.dropAt 4 rfl |>.dropAt 4 rfl |>.dropAt 4 rfl |>.dropAt 4 rfl |>.dropAt 4 rfl)); clear h13 hb13))
          all_goals (
            clear HD S1 S3 S4 S5 S6 S7 S8 HLn HAl HrAll HrIds HEnd HFs2 HFs3 HIdK HSm HSi HId HrI HrA H9 H12 HGp HGl HDq HKq
            go_wp2_with fail
            go_roundg (gk - 1)
            case measure => omega
            case rel => exact ⟨i + 1, N2, S2, by go_num, by omega, by omega, by omega, HF2, H13⟩)
        · have z1 : (kd == 1) = false := by rw [beq_eq_false_iff_ne]; exact hk1
          clear hk1
          by_cases hk3 : kd = 3
          · have z3 : (kd == 3) = true := by rw [beq_iff_eq]; exact hk3
            clear hk3
            have HCl := Lib.hid (clear_calls (HX.out.pull 1 rfl) (Below.refl _ _))
            have HF2 : Hid (Few (i + 1) []) := Lib.hid (Few.nil _)
            obtain ⟨N2, HN2⟩ : ∃ N2, Hid (N = N2) := ⟨_, Lib.hid rfl⟩
            have hN2 : N2 ≤ 100 * (i + 1) := by have := HN2.out; omega
            rw [HN2.out] at HCl
            obtain ⟨S2, HS2⟩ : ∃ S2, Hid (([] : Rows) = S2) := ⟨_, Lib.hid rfl⟩
            rw [HS2.out] at HF2 HCl
            unfold ptr at HCl
            clear HFs HF HOK HX b1 b2
            go_wp2_with fail
            refine HCl.out.mono ?_; rintro en w5 ⟨rfl, h5⟩
            have h5 : Hp w w5 (keysT T (m : Int) S2 N2 :: cellsT BX [.int .i64 kd, .int .i64 n, .string k] :: refT B (m : Int) S :: []) := h5
            obtain ⟨⟨v0, d0⟩, f0, h6⟩ := ref_clear (h5.pull 2 rfl)
            rw [HS2.out] at h6
            have HT : Hid (Hp w (w5.setCell ⟨B, 0, none⟩ (.slice none 0 0)) (cellsT BX [.int .i64 kd, .int .i64 n, .string k] :: keysT T (m : Int) S2 N2 :: refT B (m : Int) S2 :: [])) := Lib.hid (h6.sel [2, 1] rfl)
            clear h5 h6 HCl b0
            go_upto_region 23 with fail
            clear d0 f0
            generalize w5.setCell ⟨B, 0, none⟩ (.slice none 0 0) = WT at *
            -- all rows held against each other
            have HFs2 : Hid ((keysL S2).length ≤ 1000000 ∧ S2.length ≤ 100000 ∧ (idsR k S2).length ≤ 1000000) := Lib.hid ⟨by rw [keys_len]; have := HF2.out.s; omega, by have := HF2.out.s; omega, by have := HF2.out.ids k; omega⟩
            obtain ⟨G, gv, hGp, hGok, hG⟩ := ref_open (HT.out.pull 2 rfl)
            have HGp := Lib.hid (And.intro hGp hGok)
            have hGl : G.length = S2.length := by rw [← hGp, plainG_len]
            obtain ⟨ra, rc, rfl, -, -, -⟩ := (hG.pull 1 rfl).rowForm
            rw [hGl] at hG
            have HD : Hid (Hp w WT.drew (cellsT BX [.int .i64 kd, .int .i64 n, .string k] :: keysT T (m : Int) S2 N2 :: cellsT B [.slice ra S2.length rc, .int .i64 m] :: rowG (.slice ra S2.length rc) G :: roT (allRo G) :: [])) := Lib.hid ((hG.bel (Below.refl _ _).drew).sel [3, 4] rfl)
            have HGl := Lib.hid hGl
            clear hG hGp hGok hGl HT
            go_wp2_with fail
            have S1 : Hid (WT.drew.cell? ⟨BX, 2, none⟩ = some (.string k) ∧ WT.drew.cell? ⟨B, 0, none⟩ = some (.slice ra S2.length rc)) := Lib.hid ⟨HD.out.cell 2 rfl, (HD.out.pull 2 rfl).cell 0 rfl⟩
            have HLn := Lib.hid (len_calls (HD.out.pull 1 rfl) (Below.refl _ _))
            have HAl := Lib.hid (all_calls (HD.out.pull 1 rfl) (Below.refl _ _) (by have := HFs2.out.2.1; omega))
            unfold ptr at HLn HAl
            have hneq : (((S2.length : Nat) : Int) == ((S2.length : Nat) : Int)) = true := beq_self_eq_true _
            have HrAll : Hid (∀ (W : World) (ll : List Th), Hp w W (cellsT B [.slice ra S2.length rc, .int .i64 m] :: rowG (.slice ra S2.length rc) G :: roT (allRo G) :: ll) → Calls Try.prog 20 #[.pointer (some ⟨B, 0, none⟩)] W fun e w' => ∃ v', e = .returned v' ∧ Hp w w' (rowS v' (keysL S2) :: cellsT B [.slice ra S2.length rc, .int .i64 m] :: rowG (.slice ra S2.length rc) G :: roT (allRo G) :: ll)) := Lib.hid (fun W ll hh => by
              have := rall_raw hh (Below.refl _ _) (by rw [HGl.out]; exact HFs2.out.2.1)
              rw [HGp.out.1] at this
              exact this)
            have HrIds : Hid (∀ (W : World) (ll : List Th), Hp w W (cellsT B [.slice ra S2.length rc, .int .i64 m] :: rowG (.slice ra S2.length rc) G :: roT (allRo G) :: ll) → Calls Try.prog 22 #[.pointer (some ⟨B, 0, none⟩), .string k] W fun e w' => ∃ a c, e = .returned (.slice a (idsR k S2).length c) ∧ Hp w w' (roT (atRo a (idsR k S2)) :: cellsT B [.slice ra S2.length rc, .int .i64 m] :: rowG (.slice ra S2.length rc) G :: roT (allRo G) :: ll)) := Lib.hid (fun W ll hh => by
              have := rids_raw hh (Below.refl _ _) (by rw [HGp.out.1]; exact HGp.out.2) (by rw [HGl.out]; exact HFs2.out.2.1) k
              rw [HGp.out.1] at this
              exact this)
            have HEnd : Hid (∀ W : World, Hp w W (keysT T (m : Int) S2 N2 :: cellsT B [.slice ra S2.length rc, .int .i64 m] :: rowG (.slice ra S2.length rc) G :: roT (allRo G) :: []) → Hp w W [keysT T (m : Int) S2 N2, refT B (m : Int) S2]) := Lib.hid (fun W hh => (ref_shut HGp.out.1 HGp.out.2 (hh.sel [1, 2, 3] rfl)).swap)
            obtain ⟨D, HDq⟩ : ∃ D, Hid (idsR k S2 = D) := ⟨_, Lib.hid rfl⟩
            obtain ⟨KK, HKq⟩ : ∃ KK, Hid (keysL S2 = KK) := ⟨_, Lib.hid rfl⟩
            have HFs3 : Hid (KK.length ≤ 1000000 ∧ D.length ≤ 1000000) := Lib.hid ⟨by rw [← HKq.out]; exact HFs2.out.1, by rw [← HDq.out]; exact HFs2.out.2.2⟩
            have HIdK : Hid (∀ (W : World) (ll : List Th), Hp w W (keysT T (m : Int) S2 N2 :: ll) → Calls Try.prog 21 #[.pointer (some ⟨T, 0, none⟩), .string k] W fun e w' => ∃ v, e = .returned v ∧ Hp w w' (rowI v D :: keysT T (m : Int) S2 N2 :: ll)) := Lib.hid (fun W ll hh => by
              have := ids_calls (k := k) hh (Below.refl _ _) HKN.out.1 HFs2.out.2.2
              rw [HDq.out] at this
              exact this)
            rw [HKq.out] at HAl HrAll
            rw [HDq.out] at HrIds
            go_region_held3 (fun W : World => W.cell? ⟨BX, 2, none⟩ = some (.string k) ∧ W.cell? ⟨B, 0, none⟩ = some (.slice ra S2.length rc))
              (first | exact S1.out | exact S3.out | exact S4.out | exact S5.out | exact S6.out | exact S7.out | exact S8.out)
              (first
                | (go_at_call 17; (with_reducible refine HLn.out.mono ?_); rintro en8 w8 ⟨rfl, rfl⟩)
                | (go_at_call 19; (with_reducible refine HAl.out.mono ?_); rintro en8 w8 ⟨v8, rfl, hR8⟩; have h8 := HD.out.rowAdd hR8.bel hR8.row (Nat.le_refl _); have h8 : Hp w w8 (rowS v8 KK :: cellsT BX [.int .i64 kd, .int .i64 n, .string k] :: keysT T (m : Int) S2 N2 :: cellsT B [.slice ra S2.length rc, .int .i64 m] :: rowG (.slice ra S2.length rc) G :: roT (allRo G) :: []) := h8; obtain ⟨a8, c8, rfl, -⟩ := rowS_slice h8; have S3 : Hid (w8.cell? ⟨BX, 2, none⟩ = some (.string k) ∧ w8.cell? ⟨B, 0, none⟩ = some (.slice ra S2.length rc)) := Lib.hid ⟨(h8.pull 1 rfl).cell 2 rfl, (h8.pull 3 rfl).cell 0 rfl⟩; have HrA := Lib.hid (HrAll.out _ _ (h8.sel [3, 4, 5] rfl)); clear h8 hR8)
                | (go_at_call 20; (with_reducible refine HrA.out.mono ?_); rintro en9 w9 ⟨v9, rfl, h9⟩; have h9 : Hp w w9 (rowS v9 KK :: cellsT B [.slice ra S2.length rc, .int .i64 m] :: rowG (.slice ra S2.length rc) G :: roT (allRo G) :: rowS (.slice a8 KK.length c8) KK :: cellsT BX [.int .i64 kd, .int .i64 n, .string k] :: keysT T (m : Int) S2 N2 :: []) := h9; obtain ⟨a9, c9, rfl, hI9⟩ := rowS_slice h9; have hI8 := rowS_inT (h9.pull 4 rfl); have S4 : Hid (w9.cell? ⟨BX, 2, none⟩ = some (.string k) ∧ w9.cell? ⟨B, 0, none⟩ = some (.slice ra S2.length rc)) := Lib.hid ⟨(h9.pull 5 rfl).cell 2 rfl, (h9.pull 1 rfl).cell 0 rfl⟩; have HSm := Lib.hid (Ca.same_calls w9 a8 a9 c8 c9 KK HFs3.out.1 hI8 hI9); have H9 := Lib.hid h9; clear h9 hI8 hI9)
                | (go_at_call 18; (with_reducible refine HSm.out.mono ?_); rintro en10 w10 ⟨rfl, hb10⟩; have h10 := H9.out.bel hb10; have S5 : Hid (w10.cell? ⟨BX, 2, none⟩ = some (.string k) ∧ w10.cell? ⟨B, 0, none⟩ = some (.slice ra S2.length rc)) := Lib.hid ⟨(h10.pull 5 rfl).cell 2 rfl, (h10.pull 1 rfl).cell 0 rfl⟩; have HId := Lib.hid (HIdK.out _ _ (h10.pull 6 rfl)); clear h10 hb10)
                | (go_at_call 21; (with_reducible refine HId.out.mono ?_); rintro en11 w11 ⟨v11, rfl, h11⟩; have h11 : Hp w w11 (rowI v11 D :: keysT T (m : Int) S2 N2 :: rowS (.slice a9 KK.length c9) KK :: cellsT B [.slice ra S2.length rc, .int .i64 m] :: rowG (.slice ra S2.length rc) G :: roT (allRo G) :: rowS (.slice a8 KK.length c8) KK :: cellsT BX [.int .i64 kd, .int .i64 n, .string k] :: []) := h11; obtain ⟨a11, c11, rfl, -, -⟩ := rowI_slice h11; have S6 : Hid (w11.cell? ⟨BX, 2, none⟩ = some (.string k) ∧ w11.cell? ⟨B, 0, none⟩ = some (.slice ra S2.length rc)) := Lib.hid ⟨(h11.pull 7 rfl).cell 2 rfl, (h11.pull 3 rfl).cell 0 rfl⟩; have HrI := Lib.hid (HrIds.out _ _ (h11.sel [3, 4, 5] rfl)); clear h11)
                | (go_at_call 22; (with_reducible refine HrI.out.mono ?_); rintro en12 w12 ⟨a12, c12, rfl, h12⟩; have h12 : Hp w w12 (roT (atRo a12 D) :: cellsT B [.slice ra S2.length rc, .int .i64 m] :: rowG (.slice ra S2.length rc) G :: roT (allRo G) :: rowI (.slice a11 D.length c11) D :: keysT T (m : Int) S2 N2 :: rowS (.slice a9 KK.length c9) KK :: rowS (.slice a8 KK.length c8) KK :: cellsT BX [.int .i64 kd, .int .i64 n, .string k] :: []) := h12; have S7 : Hid (w12.cell? ⟨BX, 2, none⟩ = some (.string k) ∧ w12.cell? ⟨B, 0, none⟩ = some (.slice ra S2.length rc)) := Lib.hid ⟨(h12.pull 8 rfl).cell 2 rfl, (h12.pull 1 rfl).cell 0 rfl⟩; have HSi := Lib.hid (sameI_calls w12 a11 a12 c11 c12 D HFs3.out.2 (rowI_atI (h12.pull 4 rfl)) (at_ro h12)); have H12 := Lib.hid h12; clear h12)
                | (go_at_call 11; (with_reducible refine HSi.out.mono ?_); rintro en13 w13 ⟨rfl, hb13⟩; have h13 := H12.out.bel hb13; have S8 : Hid (w13.cell? ⟨BX, 2, none⟩ = some (.string k) ∧ w13.cell? ⟨B, 0, none⟩ = some (.slice ra S2.length rc)) := Lib.hid ⟨(h13.pull 8 rfl).cell 2 rfl, (h13.pull 1 rfl).cell 0 rfl⟩; have H13 := Lib.hid (HEnd.out _ (h13.sel [5, 1, 2, 3] rfl |>.dropAt 4 rfl |>.dropAt 4 rfl |>.dropAt 4 rfl |>.dropAt 4 rfl |>.dropAt 4 rfl)); clear h13 hb13))
            all_goals (
              clear HD S1 S3 S4 S5 S6 S7 S8 HLn HAl HrAll HrIds HEnd HFs2 HFs3 HIdK HSm HSi HId HrI HrA H9 H12 HGp HGl HDq HKq
              go_wp2_with fail
              go_roundg (gk - 1)
              case measure => omega
              case rel => exact ⟨i + 1, N2, S2, by go_num, by omega, by omega, by omega, HF2, H13⟩)
          · have z3 : (kd == 3) = false := by rw [beq_eq_false_iff_ne]; exact hk3
            clear hk3
            have HTk := Lib.hid (drop_calls ((HX.out.bel (Below.refl _ _).drew).pull 1 rfl) (Below.refl _ _) (by have := HFs.out.1; omega) (fun r hr => Nat.le_trans (HFs.out.2 r hr) (by decide)) (by omega) n)
            have HF2 : Hid (Few (i + 1) (dropR n S)) := Lib.hid ((HF.out.drop n).mono (Nat.le_succ i))
            have HRf : Hid (∀ (W : World) (ll : List Th), Hp w W (refT B (m : Int) S :: ll) → Calls Try.prog 16 #[ptr B, .int .i64 n] W fun e w' => e = .returned (.int .i64 ((S.length : Int) - (dropR n S).length)) ∧ Hp w w' (refT B (m : Int) (dropR n S) :: ll)) := Lib.hid (fun W ll hh => rdrop_calls hh (Below.refl _ _) (by have := HFs.out.1; omega) (fun r hr => Nat.le_trans (HFs.out.2 r hr) (by decide)) n)
            obtain ⟨N2, HN2⟩ : ∃ N2, Hid (N + S.length = N2) := ⟨_, Lib.hid rfl⟩
            have hN2 : N2 ≤ 100 * (i + 1) := by have := HN2.out; have := HFs.out.1; omega
            rw [HN2.out] at HTk
            generalize ((S.length : Int) - (dropR n S).length) = dn at *
            generalize dropR n S = S2 at *
            unfold ptr at HTk HRf
            clear HFs HF HOK
            go_wp2_with fail
            have R1 : Hid (W0.drew.cell? ⟨BX, 1, none⟩ = some (.int .i64 n)) := Lib.hid ((HX.out.bel (Below.refl _ _).drew).cell 1 rfl)
            have hdn : (dn == dn) = true := beq_self_eq_true _
            clear HX b0 b1 b2
            go_region_held3 (fun W : World => W.cell? ⟨BX, 1, none⟩ = some (.int .i64 n))
              (first | exact R1.out | exact R2.out | exact R3.out)
              (first
                | (go_at_call 15; (with_reducible refine HTk.out.mono ?_); rintro en5 w5 ⟨rfl, h5⟩; have h5 : Hp w w5 (keysT T (m : Int) S2 N2 :: cellsT BX [.int .i64 kd, .int .i64 n, .string k] :: refT B (m : Int) S :: []) := h5; have HA2 := Lib.hid (HRf.out _ _ (h5.pull 2 rfl)); have R2 : Hid (w5.cell? ⟨BX, 1, none⟩ = some (.int .i64 n)) := Lib.hid ((h5.pull 1 rfl).cell 1 rfl); clear h5)
                | (go_at_call 16; (with_reducible refine HA2.out.mono ?_); rintro en6 WT ⟨rfl, h6⟩; have h6 : Hp w WT (refT B (m : Int) S2 :: keysT T (m : Int) S2 N2 :: cellsT BX [.int .i64 kd, .int .i64 n, .string k] :: []) := h6; have R3 : Hid (WT.cell? ⟨BX, 1, none⟩ = some (.int .i64 n)) := Lib.hid ((h6.pull 2 rfl).cell 1 rfl); have HT : Hid (Hp w WT (cellsT BX [.int .i64 kd, .int .i64 n, .string k] :: keysT T (m : Int) S2 N2 :: refT B (m : Int) S2 :: [])) := Lib.hid (h6.sel [2, 1] rfl); clear h6))
            clear R1 R2 R3 HA2 HTk HRf hdn
            -- all rows held against each other
            have HFs2 : Hid ((keysL S2).length ≤ 1000000 ∧ S2.length ≤ 100000 ∧ (idsR k S2).length ≤ 1000000) := Lib.hid ⟨by rw [keys_len]; have := HF2.out.s; omega, by have := HF2.out.s; omega, by have := HF2.out.ids k; omega⟩
            obtain ⟨G, gv, hGp, hGok, hG⟩ := ref_open (HT.out.pull 2 rfl)
            have HGp := Lib.hid (And.intro hGp hGok)
            have hGl : G.length = S2.length := by rw [← hGp, plainG_len]
            obtain ⟨ra, rc, rfl, -, -, -⟩ := (hG.pull 1 rfl).rowForm
            rw [hGl] at hG
            have HD : Hid (Hp w WT.drew (cellsT BX [.int .i64 kd, .int .i64 n, .string k] :: keysT T (m : Int) S2 N2 :: cellsT B [.slice ra S2.length rc, .int .i64 m] :: rowG (.slice ra S2.length rc) G :: roT (allRo G) :: [])) := Lib.hid ((hG.bel (Below.refl _ _).drew).sel [3, 4] rfl)
            have HGl := Lib.hid hGl
            clear hG hGp hGok hGl HT
            go_wp2_with fail
            have S1 : Hid (WT.drew.cell? ⟨BX, 2, none⟩ = some (.string k) ∧ WT.drew.cell? ⟨B, 0, none⟩ = some (.slice ra S2.length rc)) := Lib.hid ⟨HD.out.cell 2 rfl, (HD.out.pull 2 rfl).cell 0 rfl⟩
            have HLn := Lib.hid (len_calls (HD.out.pull 1 rfl) (Below.refl _ _))
            have HAl := Lib.hid (all_calls (HD.out.pull 1 rfl) (Below.refl _ _) (by have := HFs2.out.2.1; omega))
            unfold ptr at HLn HAl
            have hneq : (((S2.length : Nat) : Int) == ((S2.length : Nat) : Int)) = true := beq_self_eq_true _
            have HrAll : Hid (∀ (W : World) (ll : List Th), Hp w W (cellsT B [.slice ra S2.length rc, .int .i64 m] :: rowG (.slice ra S2.length rc) G :: roT (allRo G) :: ll) → Calls Try.prog 20 #[.pointer (some ⟨B, 0, none⟩)] W fun e w' => ∃ v', e = .returned v' ∧ Hp w w' (rowS v' (keysL S2) :: cellsT B [.slice ra S2.length rc, .int .i64 m] :: rowG (.slice ra S2.length rc) G :: roT (allRo G) :: ll)) := Lib.hid (fun W ll hh => by
              have := rall_raw hh (Below.refl _ _) (by rw [HGl.out]; exact HFs2.out.2.1)
              rw [HGp.out.1] at this
              exact this)
            have HrIds : Hid (∀ (W : World) (ll : List Th), Hp w W (cellsT B [.slice ra S2.length rc, .int .i64 m] :: rowG (.slice ra S2.length rc) G :: roT (allRo G) :: ll) → Calls Try.prog 22 #[.pointer (some ⟨B, 0, none⟩), .string k] W fun e w' => ∃ a c, e = .returned (.slice a (idsR k S2).length c) ∧ Hp w w' (roT (atRo a (idsR k S2)) :: cellsT B [.slice ra S2.length rc, .int .i64 m] :: rowG (.slice ra S2.length rc) G :: roT (allRo G) :: ll)) := Lib.hid (fun W ll hh => by
              have := rids_raw hh (Below.refl _ _) (by rw [HGp.out.1]; exact HGp.out.2) (by rw [HGl.out]; exact HFs2.out.2.1) k
              rw [HGp.out.1] at this
              exact this)
            have HEnd : Hid (∀ W : World, Hp w W (keysT T (m : Int) S2 N2 :: cellsT B [.slice ra S2.length rc, .int .i64 m] :: rowG (.slice ra S2.length rc) G :: roT (allRo G) :: []) → Hp w W [keysT T (m : Int) S2 N2, refT B (m : Int) S2]) := Lib.hid (fun W hh => (ref_shut HGp.out.1 HGp.out.2 (hh.sel [1, 2, 3] rfl)).swap)
            obtain ⟨D, HDq⟩ : ∃ D, Hid (idsR k S2 = D) := ⟨_, Lib.hid rfl⟩
            obtain ⟨KK, HKq⟩ : ∃ KK, Hid (keysL S2 = KK) := ⟨_, Lib.hid rfl⟩
            have HFs3 : Hid (KK.length ≤ 1000000 ∧ D.length ≤ 1000000) := Lib.hid ⟨by rw [← HKq.out]; exact HFs2.out.1, by rw [← HDq.out]; exact HFs2.out.2.2⟩
            have HIdK : Hid (∀ (W : World) (ll : List Th), Hp w W (keysT T (m : Int) S2 N2 :: ll) → Calls Try.prog 21 #[.pointer (some ⟨T, 0, none⟩), .string k] W fun e w' => ∃ v, e = .returned v ∧ Hp w w' (rowI v D :: keysT T (m : Int) S2 N2 :: ll)) := Lib.hid (fun W ll hh => by
              have := ids_calls (k := k) hh (Below.refl _ _) HKN.out.1 HFs2.out.2.2
              rw [HDq.out] at this
              exact this)
            rw [HKq.out] at HAl HrAll
            rw [HDq.out] at HrIds
            go_region_held3 (fun W : World => W.cell? ⟨BX, 2, none⟩ = some (.string k) ∧ W.cell? ⟨B, 0, none⟩ = some (.slice ra S2.length rc))
              (first | exact S1.out | exact S3.out | exact S4.out | exact S5.out | exact S6.out | exact S7.out | exact S8.out)
              (first
                | (go_at_call 17; (with_reducible refine HLn.out.mono ?_); rintro en8 w8 ⟨rfl, rfl⟩)
                | (go_at_call 19; (with_reducible refine HAl.out.mono ?_); rintro en8 w8 ⟨v8, rfl, hR8⟩; have h8 := HD.out.rowAdd hR8.bel hR8.row (Nat.le_refl _); have h8 : Hp w w8 (rowS v8 KK :: cellsT BX [.int .i64 kd, .int .i64 n, .string k] :: keysT T (m : Int) S2 N2 :: cellsT B [.slice ra S2.length rc, .int .i64 m] :: rowG (.slice ra S2.length rc) G :: roT (allRo G) :: []) := h8; obtain ⟨a8, c8, rfl, -⟩ := rowS_slice h8; have S3 : Hid (w8.cell? ⟨BX, 2, none⟩ = some (.string k) ∧ w8.cell? ⟨B, 0, none⟩ = some (.slice ra S2.length rc)) := Lib.hid ⟨(h8.pull 1 rfl).cell 2 rfl, (h8.pull 3 rfl).cell 0 rfl⟩; have HrA := Lib.hid (HrAll.out _ _ (h8.sel [3, 4, 5] rfl)); clear h8 hR8)
                | (go_at_call 20; (with_reducible refine HrA.out.mono ?_); rintro en9 w9 ⟨v9, rfl, h9⟩; have h9 : Hp w w9 (rowS v9 KK :: cellsT B [.slice ra S2.length rc, .int .i64 m] :: rowG (.slice ra S2.length rc) G :: roT (allRo G) :: rowS (.slice a8 KK.length c8) KK :: cellsT BX [.int .i64 kd, .int .i64 n, .string k] :: keysT T (m : Int) S2 N2 :: []) := h9; obtain ⟨a9, c9, rfl, hI9⟩ := rowS_slice h9; have hI8 := rowS_inT (h9.pull 4 rfl); have S4 : Hid (w9.cell? ⟨BX, 2, none⟩ = some (.string k) ∧ w9.cell? ⟨B, 0, none⟩ = some (.slice ra S2.length rc)) := Lib.hid ⟨(h9.pull 5 rfl).cell 2 rfl, (h9.pull 1 rfl).cell 0 rfl⟩; have HSm := Lib.hid (Ca.same_calls w9 a8 a9 c8 c9 KK HFs3.out.1 hI8 hI9); have H9 := Lib.hid h9; clear h9 hI8 hI9)
                | (go_at_call 18; (with_reducible refine HSm.out.mono ?_); rintro en10 w10 ⟨rfl, hb10⟩; have h10 := H9.out.bel hb10; have S5 : Hid (w10.cell? ⟨BX, 2, none⟩ = some (.string k) ∧ w10.cell? ⟨B, 0, none⟩ = some (.slice ra S2.length rc)) := Lib.hid ⟨(h10.pull 5 rfl).cell 2 rfl, (h10.pull 1 rfl).cell 0 rfl⟩; have HId := Lib.hid (HIdK.out _ _ (h10.pull 6 rfl)); clear h10 hb10)
                | (go_at_call 21; (with_reducible refine HId.out.mono ?_); rintro en11 w11 ⟨v11, rfl, h11⟩; have h11 : Hp w w11 (rowI v11 D :: keysT T (m : Int) S2 N2 :: rowS (.slice a9 KK.length c9) KK :: cellsT B [.slice ra S2.length rc, .int .i64 m] :: rowG (.slice ra S2.length rc) G :: roT (allRo G) :: rowS (.slice a8 KK.length c8) KK :: cellsT BX [.int .i64 kd, .int .i64 n, .string k] :: []) := h11; obtain ⟨a11, c11, rfl, -, -⟩ := rowI_slice h11; have S6 : Hid (w11.cell? ⟨BX, 2, none⟩ = some (.string k) ∧ w11.cell? ⟨B, 0, none⟩ = some (.slice ra S2.length rc)) := Lib.hid ⟨(h11.pull 7 rfl).cell 2 rfl, (h11.pull 3 rfl).cell 0 rfl⟩; have HrI := Lib.hid (HrIds.out _ _ (h11.sel [3, 4, 5] rfl)); clear h11)
                | (go_at_call 22; (with_reducible refine HrI.out.mono ?_); rintro en12 w12 ⟨a12, c12, rfl, h12⟩; have h12 : Hp w w12 (roT (atRo a12 D) :: cellsT B [.slice ra S2.length rc, .int .i64 m] :: rowG (.slice ra S2.length rc) G :: roT (allRo G) :: rowI (.slice a11 D.length c11) D :: keysT T (m : Int) S2 N2 :: rowS (.slice a9 KK.length c9) KK :: rowS (.slice a8 KK.length c8) KK :: cellsT BX [.int .i64 kd, .int .i64 n, .string k] :: []) := h12; have S7 : Hid (w12.cell? ⟨BX, 2, none⟩ = some (.string k) ∧ w12.cell? ⟨B, 0, none⟩ = some (.slice ra S2.length rc)) := Lib.hid ⟨(h12.pull 8 rfl).cell 2 rfl, (h12.pull 1 rfl).cell 0 rfl⟩; have HSi := Lib.hid (sameI_calls w12 a11 a12 c11 c12 D HFs3.out.2 (rowI_atI (h12.pull 4 rfl)) (at_ro h12)); have H12 := Lib.hid h12; clear h12)
                | (go_at_call 11; (with_reducible refine HSi.out.mono ?_); rintro en13 w13 ⟨rfl, hb13⟩; have h13 := H12.out.bel hb13; have S8 : Hid (w13.cell? ⟨BX, 2, none⟩ = some (.string k) ∧ w13.cell? ⟨B, 0, none⟩ = some (.slice ra S2.length rc)) := Lib.hid ⟨(h13.pull 8 rfl).cell 2 rfl, (h13.pull 1 rfl).cell 0 rfl⟩; have H13 := Lib.hid (HEnd.out _ (h13.sel [5, 1, 2, 3] rfl |>.dropAt 4 rfl |>.dropAt 4 rfl |>.dropAt 4 rfl |>.dropAt 4 rfl |>.dropAt 4 rfl)); clear h13 hb13))
            all_goals (
              clear HD S1 S3 S4 S5 S6 S7 S8 HLn HAl HrAll HrIds HEnd HFs2 HFs3 HIdK HSm HSi HId HrI HrA H9 H12 HGp HGl HDq HKq
              go_wp2_with fail
              go_roundg (gk - 1)
              case measure => omega
              case rel => exact ⟨i + 1, N2, S2, by go_num, by omega, by omega, by omega, HF2, H13⟩)
end Go.Proofs.Ytkpcobaklbfpcaa.Ka
