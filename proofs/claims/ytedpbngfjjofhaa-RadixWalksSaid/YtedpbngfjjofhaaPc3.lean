/- RadixParts. No condition. -/
import Derived.Test.YtedpbngfjjofhaaPc2
namespace Go.Proofs.Ytedpbngfjjofhaa.Pb
set_option linter.unusedVariables false
set_option linter.unusedSimpArgs false
open Go.ChangeShapes Go.WideShapes Go.ChangeAt Go.RowKit
open Sp (Th Hp Stays roT rowT cellsT Mvd mvd1)
def InO (W : World) (a : Option Addr) (l : List ByteArray) : Prop := 0 < l.length → ∃ b o, a = some ⟨b, o, none⟩ ∧ b < W.heap.size ∧ ∀ i (h : i < l.length), W.cell? ⟨b, o + i, none⟩ = some (.string l[i])
theorem cut_pre2 (k : ByteArray) (n : Nat) : (k.extract 0 n).data.toList <+: k.data.toList ∧ (k.extract 0 n).size ≤ k.size := by
  have h : (k.extract 0 n).data.toList = k.data.toList.take n := by simp
  refine ⟨by rw [h]; exact List.take_prefix _ _, ?_⟩
  have h2 := congrArg List.length h
  rw [List.length_take] at h2
  have h3 : (k.extract 0 n).data.toList.length = (k.extract 0 n).size := rfl
  have h4 : k.data.toList.length = k.size := rfl
  omega
def fnd (Q : List Pa.Mk) (k : ByteArray) : Bool := Q.any fun q => q.1.toList == k.toList
theorem fnd_take {Q : List Pa.Mk} {k : ByteArray} {j : Nat} (hj : j < Q.length) : fnd (Q.take (j + 1)) k = (fnd (Q.take j) k || (Q[j].1.toList == k.toList)) := by
  unfold fnd
  rw [← List.take_append_getElem hj, List.any_append]
  simp
theorem fnd_in {Q : List Pa.Mk} {k : ByteArray} {n : Int} (h : (k, n) ∈ Q) : fnd Q k = true := by
  unfold fnd
  exact List.any_eq_true.2 ⟨_, h, beq_self_eq_true _⟩
set_option maxHeartbeats 16000000 in
set_option maxRecDepth 100000 in
theorem radixParts (w : World) (xa : Option Addr) (xc : Nat) (l : List ByteArray) (hI : InO w xa l) :
    Calls Try.prog 5 #[.slice xa l.length xc] w fun e w' => e = .returned (.bool true) ∧ Below w.heap.size w w' := by
  have HA := Lib.hid (radixAlive w)
  have HI := Lib.hid hI
  clear hI
  go_enter Try.func5, Try.ntmps5
  go_wp2_with fail
  refine HA.out.mono ?_; rintro en w1 ⟨rfl, hb1⟩
  have HB1 := Lib.hid hb1
  clear HA hb1
  by_cases h30 : 30 < l.length
  · have h30c : (30 : Int) < (l.length : Int) := by omega
    go_wp2_with fail
    go_ret
    exact ⟨rfl, HB1.out⟩
  have h30c : ¬ (30 : Int) < (l.length : Int) := by omega
  have HN := Lib.hid (rnew (Hp.nil HB1.out) (Below.refl _ _))
  go_wp2_with fail
  refine HN.out.mono ?_; rintro en w2 ⟨A, rfl, h2⟩
  have H2 := Lib.hid h2
  clear h2 HN
  go_wp2_with fail
  go_loopg [4, 5, 21] (l.length + 1) (fun g _ _ vi wr => ∃ (i : Nat) (D : List T) (L : T → Option Int), vi = .int .i64 i ∧ i ≤ l.length ∧ l.length - i ≤ g ∧ D.length ≤ i ∧ Hid (∀ j (hj : j < l.length), j < i → l[j].data.toList ∈ D ∧ l[j].size ≤ 30) ∧ Hid (∀ K, L K ≠ none ↔ K ∈ D) ∧ Hid (Hp w wr [radT A D L]))
  case atStart => exact ⟨0, [], fun _ => none, rfl, by omega, by omega, by simp, Lib.hid (fun j hj h => by omega), Lib.hid (fun K => by simp), H2⟩
  case round =>
    obtain ⟨i, D, L, rfl, hi, hg, hD, HK, HLD, HH⟩ := hrel
    clear H2
    by_cases hil : i < l.length
    case pos =>
      have hic : (i : Int) < (l.length : Int) := by omega
      obtain ⟨b, ob, rfl, hlt, hcs⟩ := HI.out (by omega)
      have c0 := hcs i hil
      have e : ∀ j, wr.cell? ⟨b, j, none⟩ = w.cell? ⟨b, j, none⟩ := fun j => HH.out.below.cell (p := ⟨b, j, none⟩) hlt
      rw [← e] at c0
      have HKn : Hid (∀ D' : List T, (∀ X, X ∈ D' ↔ X = l[i].data.toList ∨ X ∈ D) → l[i].size ≤ 30 → ∀ j (hj : j < l.length), j < i + 1 → l[j].data.toList ∈ D' ∧ l[j].size ≤ 30) := Lib.hid (fun D' hD' hs j hj hji => by
        by_cases ej : j = i
        · subst ej; exact ⟨(hD' _).2 (.inl rfl), hs⟩
        · exact ⟨(hD' _).2 (.inr (HK.out j hj (by omega)).1), (HK.out j hj (by omega)).2⟩)
      clear hcs e hlt
      generalize l[i] = k at *
      by_cases hks : 30 < k.size
      · have hkc : (30 : Int) < (k.size : Int) := by omega
        go_wp2_with fail
        go_ret
        exact ⟨rfl, HH.out.below⟩
      have hkc : ¬ (30 : Int) < (k.size : Int) := by omega
      have HP := Lib.hid (rput HH.out (Below.refl _ _) k (i : Int) (by omega) (by omega))
      have hD2 := insT_len k.data.toList D
      have HK2 := Lib.hid (HKn.out _ (fun X => mem_insT) (by omega))
      have HLD2 : Hid (∀ K, updL k.data.toList (i : Int) L K ≠ none ↔ K ∈ insT k.data.toList D) := Lib.hid (fun K => by
        unfold updL
        rw [mem_insT]
        by_cases e : K = k.data.toList
        · rw [if_pos e]; simp [e]
        · rw [if_neg e, HLD.out]; simp [e])
      clear HKn
      go_wp2_with fail
      refine HP.out.mono ?_; rintro en w3 ⟨rfl, h3⟩
      have H3 := Lib.hid h3
      clear h3 HP HH c0
      go_wp2_with fail
      go_roundg (gk - 1)
      case measure => omega
      case rel => exact ⟨i + 1, _, _, by go_num, by omega, by omega, by omega, HK2, HLD2, H3⟩
    case neg =>
      have hic : ¬ ((i : Int) < (l.length : Int)) := by omega
      obtain rfl : i = l.length := by omega
      go_wp2_with fail
      go_loopg [7, 8, 9, 11, 12, 36] (l.length + 1) (fun g _ _ _ _ _ vi wr => ∃ i : Nat, vi = .int .i64 i ∧ i ≤ l.length ∧ l.length - i ≤ g ∧ Hid (Hp w wr [radT A D L]))
      case atStart => exact ⟨0, rfl, by omega, by omega, HH⟩
      case round =>
        obtain ⟨i, rfl, hi, hg2, H4⟩ := hrel
        clear HH
        by_cases hil : i < l.length
        case neg =>
          have hic : ¬ ((i : Int) < (l.length : Int)) := by omega
          obtain ⟨X, hX, hnd⟩ := rnodes H4.out (Below.refl _ _)
          have HNd := Lib.hid hnd
          have hxl := hX.le
          have hxi : (X.length : Int) ≤ 2 * (D.length : Int) + 1 := by omega
          have HLn := Lib.hid (rlen H4.out (Below.refl _ _))
          clear hnd hX
          go_wp2_with fail
          refine HNd.out.mono ?_; rintro en w6 ⟨rfl, rfl⟩
          go_wp2_with fail
          refine HLn.out.mono ?_; rintro en w6 ⟨rfl, rfl⟩
          go_wp2_with fail
          go_ret
          exact ⟨rfl, H4.out.below⟩
        case pos =>
          have hic : (i : Int) < (l.length : Int) := by omega
          obtain ⟨b, ob, rfl, hlt, hcs⟩ := HI.out (by omega)
          have c0 := hcs i hil
          have e : ∀ j, wr.cell? ⟨b, j, none⟩ = w.cell? ⟨b, j, none⟩ := fun j => H4.out.below.cell (p := ⟨b, j, none⟩) hlt
          rw [← e] at c0
          obtain ⟨hkD, hk30⟩ := HK.out i hil hil
          have HkD := Lib.hid hkD
          clear hcs e hlt hkD
          generalize l[i] = k at *
          obtain ⟨gO, rfl⟩ : ∃ gO : Nat, gO = gk := ⟨_, rfl⟩
          go_wp2_with fail
          clear c0
          go_loopg [8, 9, 11] (k.size + 2) (fun g vn _ _ wr => ∃ n : Nat, vn = .int .i64 n ∧ n ≤ k.size + 1 ∧ k.size + 1 - n ≤ g ∧ Hid (Hp w wr [radT A D L]))
          case atStart => exact ⟨0, rfl, by omega, by omega, H4⟩
          case round =>
            obtain ⟨n, rfl, hn, hg3, H5⟩ := hrel
            clear H4
            by_cases hnk : n ≤ k.size
            case pos =>
              have hnc : (n : Int) ≤ (k.size : Int) := by omega
              have hn0 : (0 : Int) ≤ (n : Int) := by omega
              go_upto_region 20 with fail
              obtain ⟨hpre, hps⟩ := cut_pre2 k n
              have hpk : (k.extract 0 n).size ≤ 1000 := by omega
              have HWk := Lib.hid (rwalk H5.out (Below.refl _ _) (k.extract 0 n) (by omega) (by omega))
              have HIn : Hid (∀ Q, MkI Q L (fun K => (k.extract 0 n).data.toList <+: K) → fnd Q k = true) := Lib.hid (fun Q hQ => by
                obtain ⟨z, hz⟩ := Option.ne_none_iff_exists'.1 ((HLD.out _).2 HkD.out)
                exact fnd_in ((hQ.mem (k, z)).2 ⟨hz, hpre⟩))
              have HOv : Hid (∀ o wX wY (l' : List Th), Hp o wX (radT A D L :: l') → Below wX.heap.size wX wY → Calls Try.prog 24 #[.pointer (some ⟨A, 0, none⟩), .string (k.extract 0 n)] wY fun e w' => e = .returned (.bool true) ∧ Below wY.heap.size wY w') := Lib.hid (fun o wX wY l' h hb => rover h hb (k.extract 0 n) (by omega) ⟨_, HkD.out, hpre⟩)
              clear hpre hps
              obtain ⟨kn, hkn⟩ : ∃ kn, k.extract 0 n = kn := ⟨_, rfl⟩
              rw [hkn] at HWk HIn HOv hpk
              go_wp2_with fail
              refine HWk.out.mono ?_; rintro en w4 ⟨v, Q, rfl, hQ, h6⟩
              obtain ⟨a, c, rfl, hqc, hc, ha⟩ := h6.rowForm
              have HF := Lib.hid (HIn.out Q hQ)
              have H6 := Lib.hid h6
              clear h6 HWk H5 hQ HIn
              go_wp2_with fail
              obtain ⟨g2O, rfl⟩ : ∃ g2O : Nat, g2O = gk := ⟨_, rfl⟩
              go_loopg [9, 11, 52] (Q.length + 1) (fun g vf _ vj wr => ∃ j : Nat, vj = .int .i64 j ∧ j ≤ Q.length ∧ Q.length - j ≤ g ∧ vf = .bool (fnd (Q.take j) k) ∧ Hid (Hp w wr (rowT 47 2 (.slice a Q.length c) Q.length (Pa.cellsM Q) :: [radT A D L])))
              case atStart => exact ⟨0, rfl, by omega, by omega, rfl, H6⟩
              case round =>
                obtain ⟨j, rfl, hj, hgj, rfl, H7⟩ := hrel
                clear H6
                by_cases hjl : j < Q.length
                case pos =>
                  have hjc : (j : Int) < (Q.length : Int) := by omega
                  obtain ⟨gb, rfl⟩ := ha (by omega)
                  obtain ⟨d0, d1⟩ := mk_cell H7.out hjl
                  have HX := Lib.hid (H7.out.bel (Sp.bbox (w := wr) (.cells #[.string Q[j].1, .int .i64 Q[j].2] 47)))
                  have HFk := Lib.hid (fnd_take (k := k) hjl)
                  obtain ⟨fb, hfb⟩ : ∃ fb, fnd (Q.take j) k = fb := ⟨_, rfl⟩
                  rw [hfb] at HFk ⊢
                  clear hfb H7
                  generalize Q[j].1 = q1 at *
                  generalize Q[j].2 = q2 at *
                  cases fb with
                  | true =>
                    have HF1 : Hid (fnd (Q.take (j + 1)) k = true) := Lib.hid (by rw [HFk.out]; rfl)
                    go_wp2_with fail
                    go_roundg (gk - 1)
                    case measure => omega
                    case rel => exact ⟨j + 1, by go_num, by omega, by omega, by rw [HF1.out], HX⟩
                  | false =>
                    have HF1 : Hid (fnd (Q.take (j + 1)) k = (q1.toList == k.toList)) := Lib.hid (by rw [HFk.out]; rfl)
                    go_wp2_with fail
                    go_roundg (gk - 1)
                    case measure => omega
                    case rel => exact ⟨j + 1, by go_num, by omega, by omega, by rw [HF1.out], HX⟩
                case neg =>
                  have hjc : ¬ ((j : Int) < (Q.length : Int)) := by omega
                  obtain rfl : j = Q.length := by omega
                  rw [List.take_length, HF.out]
                  have HO := Lib.hid (HOv.out _ _ _ _ H7.out.drop (Below.refl _ _))
                  have H8 := Lib.hid H7.out.drop
                  clear H7 HOv
                  go_wp2_with fail
                  refine HO.out.mono ?_; rintro en w8 ⟨rfl, hb8⟩
                  have H9 := Lib.hid (H8.out.bel hb8)
                  clear hb8 HO H8
                  go_wp2_with fail
                  go_roundg (g2O - 1)
                  case measure => omega
                  case rel => exact ⟨n + 1, by go_num, by omega, by omega, H9⟩
            case neg =>
              have hnc : ¬ (n : Int) ≤ (k.size : Int) := by omega
              obtain ⟨z, hz⟩ := Option.ne_none_iff_exists'.1 ((HLD.out _).2 HkD.out)
              have HAb := Lib.hid (rabove H5.out (Below.refl _ _) k (by omega) (by omega))
              have HZ := Lib.hid hz
              clear hz
              go_wp2_with fail
              refine HAb.out.mono ?_; rintro en w4 ⟨v, Q, rfl, -, hlast, h6⟩
              obtain ⟨a, c, rfl, hqc, hc, ha⟩ := h6.rowForm
              have hl := hlast z HZ.out
              have hpos : 0 < Q.length := by
                cases Q with
                | nil => cases hl
                | cons => simp
              obtain ⟨gb, rfl⟩ := ha hpos
              obtain ⟨d0, -⟩ := mk_cell h6 (j := Q.length - 1) (by omega)
              have hq : Q[Q.length - 1].1 = k := by
                rw [List.getLast?_eq_getElem?, List.getElem?_eq_getElem (by omega)] at hl
                rw [Option.some.inj hl]
              rw [hq] at d0
              have H6 := Lib.hid h6.drop
              have hz0 : ((Q.length : Int) == 0) = false := by rw [beq_eq_false_iff_ne]; omega
              have hw1 : IntKind.i64.wrap ((Q.length : Int) - 1) = ((Q.length - 1 : Nat) : Int) := by rw [IntKind.wrap_i64]; omega
              obtain ⟨p, hp⟩ : ∃ p, Q.length - 1 = p := ⟨_, rfl⟩
              rw [hp] at d0 hw1
              have hp1 : (p : Int) < (Q.length : Int) := by omega
              have hkk : (k.toList == k.toList) = true := beq_self_eq_true _
              clear h6 HAb hlast hl hq H5 ha hp
              go_wp2_with fail
              go_roundg (gO - 1)
              case measure => omega
              case rel => exact ⟨i + 1, by go_num, by omega, by omega, H6⟩
end Go.Proofs.Ytedpbngfjjofhaa.Pb
