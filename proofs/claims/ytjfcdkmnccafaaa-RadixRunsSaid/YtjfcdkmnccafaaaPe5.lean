/- RadixRuns. No condition. -/
import Derived.Test.YtjfcdkmnccafaaaPeB
import Derived.Test.YtjfcdkmnccafaaaPc2
import Derived.Test.YtjfcdkmnccafaaaPa5
namespace Go.Proofs.Ytjfcdkmnccafaaa.Pb
set_option linter.unusedVariables false
set_option linter.unusedSimpArgs false
open Go.ChangeShapes Go.WideShapes Go.ChangeAt Go.RowKit
open Sp (Th Hp Stays roT rowT cellsT Mvd mvd1)
set_option maxHeartbeats 32000000 in
set_option maxRecDepth 100000 in
theorem radixRuns (w : World) (xa : Option Addr) (xc : Nat) (l : List Ac) (hI : InA w xa l) (s : ByteArray) :
    Calls Try.prog 3 #[.slice xa l.length xc, .string s] w fun e w' => e = .returned (.bool true) ∧ Below w.heap.size w w' := by
  have HA := Lib.hid (radixAlive w)
  have HI := Lib.hid hI
  clear hI
  go_enter Try.func3, Try.ntmps3
  go_wp2_with fail
  refine HA.out.mono ?_; rintro en w1 ⟨rfl, hb1⟩
  have HB1 := Lib.hid hb1
  have HG := Lib.hid (great_calls w1 xa xc l (HI.out.below (Nat.le_refl _) hb1))
  clear HA hb1
  go_wp2_with fail
  refine HG.out.mono ?_; rintro en w2 ⟨hx, hb2⟩
  have HB2 := Lib.hid (Sp.bstep HB1.out hb2)
  clear HG HB1 hb2
  rcases hx with rfl | ⟨rfl, hok⟩
  · go_wp2_with fail
    go_ret
    exact ⟨rfl, HB2.out⟩
  by_cases hs : 100 < s.size
  · have hsc : (100 : Int) < (s.size : Int) := by omega
    go_wp2_with fail
    go_ret
    exact ⟨rfl, HB2.out⟩
  have hsc : ¬ (100 : Int) < (s.size : Int) := by omega
  obtain ⟨hl60, hk⟩ := hok
  have HK := Lib.hid hk
  clear hk
  have HN := Lib.hid (rnew (Hp.nil HB2.out) (Below.refl _ _))
  go_wp2_with fail
  refine HN.out.mono ?_; rintro en w3 ⟨A, rfl, h3⟩
  have hr3 := Pa.rowM_made w3
  have H3 := Lib.hid (h3.rowAdd hr3.bel hr3.row (Nat.le_refl _))
  clear h3 hr3 HN HB2
  go_wp2_with fail
  go_loopg [6, 8, 9, 10, 30] (l.length + 1) (fun g vq _ _ _ vi wr => ∃ (i : Nat) (D : List T) (L : T → Option Int) (Q : List Pa.Mk) (qa : Option Addr) (qc : Nat), vi = .int .i64 i ∧ vq = .slice qa Q.length qc ∧ Q.length ≤ qc ∧ qc ≤ 9223372036854775807 ∧ i ≤ l.length ∧ l.length - i ≤ g ∧ D.length ≤ i ∧ Hid (All Q L) ∧ Hid (Hp w wr [rowT 45 2 (.slice qa Q.length qc) Q.length (Pa.cellsM Q), radT A D L]))
  case atStart => exact ⟨0, [], fun _ => none, [], _, _, rfl, rfl, by simp, by simp, by omega, by omega, by simp, Lib.hid all_nil, H3⟩
  case round =>
    obtain ⟨i, D, L, Q, qa, qc, rfl, rfl, hqc, hqm, hi, hg, hD, HQ, HH⟩ := hrel
    clear H3
    obtain ⟨hQD, hDl, -⟩ := HQ.out.rad HH.out.drop
    have hQ60 : Q.length ≤ 60 := by omega
    clear hQD hDl
    by_cases hil : i < l.length
    case pos =>
      have hic : (i : Int) < (l.length : Int) := by omega
      obtain ⟨b, ob, rfl, hlt, hcs⟩ := HI.out (by omega)
      obtain ⟨c0, c1, c2⟩ := hcs i hil
      have e : ∀ j, wr.cell? ⟨b, j, none⟩ = w.cell? ⟨b, j, none⟩ := fun j => HH.out.below.cell (p := ⟨b, j, none⟩) hlt
      rw [← e] at c0 c1 c2
      have hki := HK.out i hil
      clear hcs e hlt
      generalize l[i] = q at *
      obtain ⟨kd, k, n⟩ := q
      simp only at c0 c1 c2 hki
      have h4 := HH.out.cellsNew [.int .i64 kd, .string k, .int .i64 n] 29
      obtain ⟨w4, hw4⟩ : ∃ w4, w4 = wr.alloc (.cells #[.int .i64 kd, .string k, .int .i64 n] 29) := ⟨_, rfl⟩
      rw [← hw4] at h4
      have HW := Lib.hid hw4
      have H4 := Lib.hid h4
      have x0 := h4.cell 0 rfl
      have x1 := h4.cell 1 rfl
      have x2 := h4.cell 2 rfl
      clear h4 hw4 HH
      go_upto_region 11 with fail
      rw [← HW.out]
      clear c0 c1 c2 HW
      generalize wr.heap.size = bx at *
      obtain ⟨bb, hbb⟩ : ∃ bb, (L k.data.toList) = bb := ⟨_, rfl⟩
      by_cases hk0 : kd = 0
      case pos =>
        subst hk0
        have HP := Lib.hid (rput (H4.out.pull' 2 rfl rfl) (Below.refl _ _) k n (by omega) (by omega))
        rw [hbb] at HP
        go_wp2_with fail
        refine HP.out.mono ?_; rintro en w5 ⟨rfl, h5⟩
        have H5 := Lib.hid h5
        have h5r := h5.pull' 2 rfl rfl
        have y1 := (h5.pull' 1 rfl rfl).cell 1 rfl
        have y2 := (h5.pull' 1 rfl rfl).cell 2 rfl
        have HC := Lib.hid (Pa.refPut_calls w5 qa qc Q (by omega) (row_lies h5r) k n)
        have hpn := HQ.out.put_new k n
        rw [hbb] at hpn
        rw [hpn] at HC
        have HQ6 := Lib.hid (HQ.out.put k n)
        have hD6 : (insT k.data.toList D).length ≤ i + 1 := by have := insT_len k.data.toList D; omega
        clear h5 h5r HP H4 hpn x0 x1 x2
        generalize bb.isNone = ans at *
        generalize insT k.data.toList D = D6 at *
        generalize updL k.data.toList n L = L6 at *
        generalize Pa.putM k n Q = Q6 at *
        go_wp2_with fail
        refine HC.out.mono ?_; rintro en w6 ⟨v6, rfl, hR6⟩
        have h6 : Hp w w6 [rowT 45 2 v6 Q6.length (Pa.cellsM Q6), radT A D6 L6] := ((H5.out.rowAdd hR6.bel hR6.row (Nat.le_refl _)).dropAt 3 rfl).dropAt 2 rfl
        obtain ⟨a6, c6, rfl, hlc6, hc6, -⟩ := hR6.slice
        obtain ⟨hQD6, hDl6, hks6⟩ := HQ6.out.rad h6.drop
        have hrd := h6.pull' 1 rfl rfl
        have hln := rlen hrd (Below.refl _ _)
        rw [← hQD6] at hln
        have HLn := Lib.hid hln
        obtain ⟨X, hX, n1⟩ := rnodesE hrd (Below.refl _ _)
        have HN1 := Lib.hid n1
        have HN2 := Lib.hid (refNodes_calls w6 a6 c6 Q6 (by omega) hlc6 hc6 hks6 (row_lies h6))
        have HXX : Hid (∀ X2, SX X2 (Sn (kyM Q6) Q6.length) → X.length = X2.length) := Lib.hid (fun X2 h2 => by have := hX.len (h2.txe HQ6.out hDl6) (fun _ => Iff.rfl); rwa [List.length_map] at this)
        have H6 := Lib.hid h6
        clear h6 hR6 HC H5 HQ hrd hln n1 hX hks6 hDl6 hQD6 y1
        go_wp2_with fail
        refine HLn.out.mono ?_; rintro en w7 ⟨rfl, rfl⟩
        go_wp2_with fail
        refine HN1.out.mono ?_; rintro en w7 ⟨rfl, rfl⟩
        go_wp2_with fail
        refine HN2.out.mono ?_; rintro en w7 ⟨⟨X2, hX2, rfl⟩, hb7⟩
        rw [← HXX.out X2 hX2]
        have H7 := Lib.hid (H6.out.bel hb7)
        clear H6 hb7 hX2 HXX HN1 HN2 HLn
        go_wp2_with fail
        go_roundg (gk - 1)
        case measure => omega
        case rel => exact ⟨i + 1, D6, L6, Q6, a6, c6, by go_num, rfl, hlc6, hc6, by omega, by omega, hD6, HQ6, H7⟩
      case neg =>
        have hk0c : ((kd == (0 : Int))) = false := by rw [beq_eq_false_iff_ne]; exact hk0
        have HP := Lib.hid (rdrop (H4.out.pull' 2 rfl rfl) (Below.refl _ _) k (by omega) (by omega))
        rw [hbb] at HP
        go_wp2_with fail
        refine HP.out.mono ?_; rintro en w5 ⟨rfl, h5⟩
        have H5 := Lib.hid h5
        have h5r := h5.pull' 2 rfl rfl
        have y1 := (h5.pull' 1 rfl rfl).cell 1 rfl
        have HC := Lib.hid (Pa.refDrop_calls w5 qa qc Q (by omega) (row_lies h5r) k)
        have hpn := HQ.out.drop_was k
        rw [hbb] at hpn
        rw [hpn] at HC
        have HQ6 := Lib.hid (HQ.out.drop k)
        have hD6 : (delT k.data.toList D).length ≤ i + 1 := by have : (delT k.data.toList D).length ≤ D.length := List.length_filter_le _ _; omega
        clear h5 h5r HP H4 hpn x0 x1 x2
        generalize bb.isSome = ans at *
        generalize delT k.data.toList D = D6 at *
        generalize dropL k.data.toList L = L6 at *
        generalize Pa.dropM Q k = Q6 at *
        go_wp2_with fail
        refine HC.out.mono ?_; rintro en w6 ⟨v6, rfl, hR6⟩
        have h6 : Hp w w6 [rowT 45 2 v6 Q6.length (Pa.cellsM Q6), radT A D6 L6] := ((H5.out.rowAdd hR6.bel hR6.row (Nat.le_refl _)).dropAt 3 rfl).dropAt 2 rfl
        obtain ⟨a6, c6, rfl, hlc6, hc6, -⟩ := hR6.slice
        obtain ⟨hQD6, hDl6, hks6⟩ := HQ6.out.rad h6.drop
        have hrd := h6.pull' 1 rfl rfl
        have hln := rlen hrd (Below.refl _ _)
        rw [← hQD6] at hln
        have HLn := Lib.hid hln
        obtain ⟨X, hX, n1⟩ := rnodesE hrd (Below.refl _ _)
        have HN1 := Lib.hid n1
        have HN2 := Lib.hid (refNodes_calls w6 a6 c6 Q6 (by omega) hlc6 hc6 hks6 (row_lies h6))
        have HXX : Hid (∀ X2, SX X2 (Sn (kyM Q6) Q6.length) → X.length = X2.length) := Lib.hid (fun X2 h2 => by have := hX.len (h2.txe HQ6.out hDl6) (fun _ => Iff.rfl); rwa [List.length_map] at this)
        have H6 := Lib.hid h6
        clear h6 hR6 HC H5 HQ hrd hln n1 hX hks6 hDl6 hQD6 y1
        go_wp2_with fail
        refine HLn.out.mono ?_; rintro en w7 ⟨rfl, rfl⟩
        go_wp2_with fail
        refine HN1.out.mono ?_; rintro en w7 ⟨rfl, rfl⟩
        go_wp2_with fail
        refine HN2.out.mono ?_; rintro en w7 ⟨⟨X2, hX2, rfl⟩, hb7⟩
        rw [← HXX.out X2 hX2]
        have H7 := Lib.hid (H6.out.bel hb7)
        clear H6 hb7 hX2 HXX HN1 HN2 HLn
        go_wp2_with fail
        go_roundg (gk - 1)
        case measure => omega
        case rel => exact ⟨i + 1, D6, L6, Q6, a6, c6, by go_num, rfl, hlc6, hc6, by omega, by omega, hD6, HQ6, H7⟩
    case neg =>
      have hic : ¬ (i : Int) < (l.length : Int) := by omega
      obtain rfl : i = l.length := by omega
      have hrd := HH.out.pull' 1 rfl rfl
      have hg1 := rget hrd (Below.refl _ _) s (by omega)
      obtain ⟨gv, hgv⟩ : ∃ gv, (L s.data.toList).getD 0 = gv := ⟨_, rfl⟩
      obtain ⟨gb, hgb⟩ : ∃ gb, (L s.data.toList).isSome = gb := ⟨_, rfl⟩
      have HGet : Hid (Pa.getM Q s = L s.data.toList) := Lib.hid (HQ.out.get s)
      have HGV := Lib.hid hgv
      have HGB := Lib.hid hgb
      rw [hgv, hgb] at hg1
      have HG1 := Lib.hid hg1
      clear hrd hg1 hgv hgb
      go_wp2_with fail
      refine HG1.out.mono ?_; rintro en w7 ⟨rfl, hb7⟩
      have h7 := HH.out.bel hb7
      have hg2 := Pa.refGet_calls w7 qa qc Q hqc hqm (row_lies h7) s
      rw [HGet.out, HGV.out, HGB.out] at hg2
      have HG2 := Lib.hid hg2
      have H7 := Lib.hid h7
      clear hb7 h7 hg2 HG1 HH HGet HGV HGB
      go_wp2_with fail
      refine HG2.out.mono ?_; rintro en w8 ⟨rfl, hb8⟩
      have h8 := H7.out.bel hb8
      obtain ⟨QA, hQA⟩ : ∃ QA, (Q.filter fun m => Pa.begM s m.1) = QA := ⟨_, rfl⟩
      obtain ⟨QW, hQW⟩ : ∃ QW, (Q.filter fun m => Pa.begM m.1 s) = QW := ⟨_, rfl⟩
      have hA60 : QA.length ≤ 60 := by rw [← hQA]; exact Nat.le_trans (List.length_filter_le _ _) hQ60
      have hW60 : QW.length ≤ 60 := by rw [← hQW]; exact Nat.le_trans (List.length_filter_le _ _) hQ60
      have HMA : Hid (MkI QA L (fun K => K <+: s.data.toList)) := Lib.hid (by rw [← hQA]; exact HQ.out.above s)
      have HMW : Hid (MkI QW L (fun K => s.data.toList <+: K)) := Lib.hid (by rw [← hQW]; exact HQ.out.walk s)
      have hc1 := Pa.refAbove_calls w8 qa qc Q (by omega) (row_lies h8) s
      rw [hQA] at hc1
      have HC1 := Lib.hid hc1
      have H8 := Lib.hid h8
      have HQW := Lib.hid hQW
      clear hb8 h8 hc1 HG2 H7 hQA hQW
      go_wp2_with fail
      refine HC1.out.mono ?_; rintro en w9 ⟨va, rfl, hRa⟩
      have h9 := H8.out.rowAdd hRa.bel hRa.row (Nat.le_refl _)
      obtain ⟨aa, ac, rfl, -, -, -⟩ := hRa.slice
      have hc2 := Pa.refWalk_calls w9 qa qc Q (by omega) (row_lies (h9.pull' 1 rfl rfl)) s
      rw [HQW.out] at hc2
      have HC2 := Lib.hid hc2
      have H9 := Lib.hid h9
      clear hRa h9 hc2 HC1 H8 HQW
      go_wp2_with fail
      refine HC2.out.mono ?_; rintro en w10 ⟨vw, rfl, hRw⟩
      have h10 := H9.out.rowAdd hRw.bel hRw.row (Nat.le_refl _)
      obtain ⟨aw, aw2, rfl, -, -, -⟩ := hRw.slice
      have HAb := Lib.hid (rabove (h10.pull' 3 rfl rfl) (Below.refl _ _) s (by omega) (by omega))
      clear hRw h10 HC2 H9
      go_wp2_with fail
      refine HAb.out.mono ?_; rintro en w11 ⟨v1, Q1, rfl, hM1, -, h11⟩
      obtain ⟨a1, c1, rfl, -, -, -⟩ := h11.rowForm
      obtain rfl : Q1 = QA := hM1.ext HMA.out fun _ => rfl
      have hS1 := Pa.refSame_calls w11 a1 aa c1 ac _ _ Q1 Q1 rfl rfl (by omega) (by omega) (row_lies h11) (row_lies (h11.pull' 3 rfl rfl))
      rw [decide_eq_true (rfl : Q1 = Q1)] at hS1
      have HS1 := Lib.hid hS1
      have H11 := Lib.hid h11.drop
      clear h11 hS1 hM1 HAb
      go_wp2_with fail
      refine HS1.out.mono ?_; rintro en w12 ⟨rfl, hb12⟩
      have h12 := H11.out.bel hb12
      have HWk := Lib.hid (rwalk h12 (Below.refl _ _) s (by omega) (by omega))
      clear h12 hb12 H11 HS1
      go_wp2_with fail
      refine HWk.out.mono ?_; rintro en w13 ⟨v2, Q2, rfl, hM2, h13⟩
      obtain ⟨a2, c2, rfl, -, -, -⟩ := h13.rowForm
      obtain rfl : Q2 = QW := hM2.ext HMW.out fun _ => rfl
      have hS2 := Pa.refSame_calls w13 a2 aw c2 aw2 _ _ Q2 Q2 rfl rfl (by omega) (by omega) (row_lies h13) (row_lies (h13.pull' 2 rfl rfl))
      rw [decide_eq_true (rfl : Q2 = Q2)] at hS2
      have HS2 := Lib.hid hS2
      have H13 := Lib.hid h13.drop
      clear h13 hS2 hM2 HWk
      go_wp2_with fail
      refine HS2.out.mono ?_; rintro en w14 ⟨rfl, hb14⟩
      have h14 := H13.out.bel hb14
      have HWl := Lib.hid (rwalk h14 (Below.refl _ _) ⟨#[]⟩ (by decide) (by omega))
      clear h14 hb14 H13 HS2
      go_wp2_with fail
      refine HWl.out.mono ?_; rintro en w15 ⟨v3, Q3, rfl, hM3, h15⟩
      obtain ⟨a3, c3, rfl, -, -, -⟩ := h15.rowForm
      have hM3 : MkI Q3 L (fun K => [] <+: K) := hM3
      obtain rfl : Q3 = Q := HQ.out.whole hM3
      have hS3 := Pa.refSame_calls w15 a3 qa c3 qc _ _ Q3 Q3 rfl rfl (by omega) (by omega) (row_lies h15) (row_lies (h15.pull' 4 rfl rfl))
      rw [decide_eq_true (rfl : Q3 = Q3)] at hS3
      have HS3 := Lib.hid hS3
      have H15 := Lib.hid h15.drop
      clear h15 hS3 hM3 HWl
      go_wp2_with fail
      refine HS3.out.mono ?_; rintro en w16 ⟨rfl, hb16⟩
      have h16 := H15.out.bel hb16
      have hov := rover2 h16 (Below.refl _ _) s (by omega) HMA.out HMW.out
      have H16 := Lib.hid h16
      obtain ⟨z, hz⟩ : ∃ z : Int, IntKind.i64.wrap ((Q1.length : Int) + (Q2.length : Int)) = z := ⟨_, rfl⟩
      have hzv : z = (Q1.length : Int) + (Q2.length : Int) := by rw [← hz, IntKind.wrap_i64]; omega
      by_cases hp : 0 < Q1.length + Q2.length
      · rw [decide_eq_true hp] at hov
        have HOv := Lib.hid hov
        have hzp : (0 : Int) < z := by omega
        clear h16 hov hb16 H15 HS3 hzv hp
        go_wp2_with fail
        refine HOv.out.mono ?_; rintro en w17 ⟨rfl, hb17⟩
        have HB17 := Lib.hid (H16.out.bel hb17).below
        clear HOv H16 hb17
        go_wp2_with fail
        go_ret
        exact ⟨rfl, HB17.out⟩
      · rw [decide_eq_false hp] at hov
        have HOv := Lib.hid hov
        have hzp : ¬ (0 : Int) < z := by omega
        clear h16 hov hb16 H15 HS3 hzv hp
        go_wp2_with fail
        refine HOv.out.mono ?_; rintro en w17 ⟨rfl, hb17⟩
        have HB17 := Lib.hid (H16.out.bel hb17).below
        clear HOv H16 hb17
        go_wp2_with fail
        go_ret
        exact ⟨by rw [decide_eq_false (show ¬ (0 : Int) < z by omega)]; rfl, HB17.out⟩
end Go.Proofs.Ytjfcdkmnccafaaa.Pb
