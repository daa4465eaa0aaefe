/- PrefixLeaves. No condition. (Written by gen_qu1.py.) -/
import Derived.Test.YtnmncjeplfkdpaaQrB
namespace Go.Proofs.Ytnmncjeplfkdpaa.Qa
set_option linter.unusedVariables false
set_option linter.unusedSimpArgs false
open Go.ChangeShapes Go.WideShapes Go.ChangeAt Go.RowKit
open Ka
open Sp (Th Hp Stays All Ro roT cellsT rowT exT puT star)
open Pb (TxE dat)
open Ma (srt)
/-- Each pair's client is one of those to come. -/
def FromA (L : List Ac) (i : Nat) (P : Pl) : Prop := ∀ p ∈ P, ∃ j, i ≤ j ∧ ∃ h : j < L.length, L[j].n = p.2
theorem FromA.add {L : List Ac} {P : Pl} {i : Nat} (h : FromA L 0 P) (hi : i < L.length) (k : ByteArray) : FromA L 0 (addP k L[i].n P) := fun p hp => by
  rcases mem_addP.1 hp with hp | e
  · exact h p hp
  · exact ⟨i, Nat.zero_le _, hi, by rw [e]⟩
theorem FromA.drop {L : List Ac} {P : Pl} {i : Nat} (h : FromA L i P) (hi : i < L.length) : FromA L (i + 1) (dropP L[i].n P) := fun p hp => by
  obtain ⟨h1, h2⟩ := mem_dropP.1 hp
  obtain ⟨j, hj, hl, e⟩ := h p h1
  refine ⟨j, ?_, hl, e⟩
  rcases Nat.lt_or_eq_of_le hj with h | h
  · exact h
  · subst h; exact absurd e.symm h2
theorem FromA.nil {L : List Ac} {P : Pl} {i : Nat} (h : FromA L i P) (hi : L.length ≤ i) : P = [] := by
  cases P with
  | nil => rfl
  | cons p P =>
    obtain ⟨j, hj, hl, -⟩ := h p (List.mem_cons_self ..)
    omega
theorem of_drop (n : Int) (P : Pl) : srt (ofP n (dropP n P)) = [] := by
  have e : ofP n (dropP n P) = [] := by
    refine List.eq_nil_iff_forall_not_mem.2 fun k hk => ?_
    exact (mem_dropP.1 (mem_ofP.1 hk)).2 rfl
  rw [e]; rfl
theorem mat_drop (key : ByteArray) (n : Int) (P : Pl) : n ∉ matP key (dropP n P) := fun h => by
  obtain ⟨k, h1, -⟩ := (mat_mem _ _ _).1 h
  exact (mem_dropP.1 h1).2 rfl
theorem nodes_nil {X : List Pb.T} (h : TxE X (dat (([] : Pl).map (·.1)))) : X.length = 1 := by
  have hm : ∀ p, p ∈ X ↔ p = [] := fun p => by
    rw [h.mem]
    constructor
    · rintro (e | e | ⟨K, hK, -⟩)
      · exact e
      · exact (nomatch e)
      · exact (nomatch hK)
    · exact .inl
  have h1 := Pb.nd_leT h.nd (r := [[]]) fun p hp => by rw [(hm p).1 hp]; exact List.mem_singleton.2 rfl
  have h2 := List.length_pos_of_mem ((hm []).2 rfl)
  simp only [List.length_cons, List.length_nil] at h1
  omega
theorem take_dec {D : List Int} {n : Int} {j : Nat} (hj : j < D.length) : decide (n ∈ D.take (j + 1)) = (decide (n ∈ D.take j) || (D.getD j 0 == n)) := by
  have e : D.getD j 0 = D[j] := by simp [List.getD, hj]
  rw [e, ← List.take_append_getElem hj]
  by_cases h1 : n ∈ D.take j
  · rw [decide_eq_true h1, decide_eq_true (List.mem_append.2 (.inl h1))]; rfl
  · rw [decide_eq_false h1]
    by_cases h2 : D[j] = n
    · rw [decide_eq_true (List.mem_append.2 (.inr (by rw [h2]; exact List.mem_singleton.2 rfl)))]
      simp [h2]
    · have : n ∉ D.take j ++ [D[j]] := fun h => (List.mem_append.1 h).elim h1 fun h => h2 (List.mem_singleton.1 h).symm
      rw [decide_eq_false this]
      simp [h2]
set_option maxHeartbeats 64000000 in
set_option maxRecDepth 100000 in
theorem prefixLeaves (xa : Option Addr) (xc : Nat) (L : List Ac) (key : ByteArray) (w : World) (hI : InA w xa L) (hS : ∀ i (h : i < L.length), okAc L[i]) :
    Calls Try.prog 4 #[.slice xa L.length xc, .string key] w fun e w' => e = .returned (.bool true) ∧ Below w.heap.size w w' := by
  have HI := Lib.hid hI
  have HSZ := Lib.hid hS
  clear hI hS
  have HA := Lib.hid (prefixAlive w)
  go_enter Try.func4, Try.ntmps4
  go_wp2_with fail
  refine HA.out.mono ?_; rintro en w2 ⟨rfl, hb2⟩
  have HB2 := Lib.hid hb2
  clear hb2 HA
  by_cases hl : 60 < L.length
  · have hlc : (60 : Int) < (L.length : Int) := by omega
    go_wp2_with fail
    go_ret
    exact ⟨rfl, HB2.out⟩
  have hlc : ¬ (60 : Int) < (L.length : Int) := by omega
  by_cases hs : 100 < key.size
  · have hsc : (100 : Int) < (key.size : Int) := by omega
    go_wp2_with fail
    go_ret
    exact ⟨rfl, HB2.out⟩
  have hsc : ¬ (100 : Int) < (key.size : Int) := by omega
  have hks : key.size ≤ 100 := by omega
  have HN := Lib.hid (pnew_calls (Hp.nil HB2.out) (Below.refl _ _))
  unfold ptr at HN
  go_wp2_with fail
  refine HN.out.mono ?_; rintro en w3 ⟨T, rfl, h3⟩
  have H4 := Lib.hid h3
  clear h3 HN
  go_wp2_with fail
  go_loopg [29] (L.length + 1) (fun g vi wr => ∃ (i N : Nat) (P : Pl), vi = .int .i64 i ∧ i ≤ L.length ∧ L.length - i ≤ g ∧ N ≤ 1000 * i ∧ Hid (P.length ≤ i) ∧ Hid (FromA L 0 P) ∧ Hid (Hp w wr [prefT T P N]))
  case atStart => exact ⟨0, 0, [], rfl, by omega, by omega, by omega, Lib.hid (Nat.le_refl _), Lib.hid (fun p hp => (nomatch hp)), H4⟩
  case round =>
    obtain ⟨i, N, P, rfl, hi, hg, hN, HPl, HFr, HH⟩ := hrel
    clear H4
    obtain ⟨gO, hgO⟩ : ∃ g, gk = g := ⟨_, rfl⟩
    by_cases hil : i < L.length
    case pos =>
      have hic : (i : Int) < (L.length : Int) := by omega
      have hi60 : i ≤ 59 := by omega
      obtain ⟨b, o, rfl, hlt, hcs⟩ := HI.out (by omega)
      obtain ⟨c0, c1, c2⟩ := hcs i hil
      have e : ∀ j, wr.cell? ⟨b, j, none⟩ = w.cell? ⟨b, j, none⟩ := fun j => HH.out.below.cell (p := ⟨b, j, none⟩) hlt
      rw [← e] at c0 c1 c2
      obtain ⟨-, hn⟩ := HSZ.out i hil
      have HN1 := Lib.hid hn
      have HFr2 : Hid (FromA L 0 (addP L[i].k L[i].n P)) := Lib.hid (HFr.out.add hil L[i].k)
      clear hcs hlt e hn
      generalize L[i] = q at *
      obtain ⟨kd, n, k⟩ := q
      simp only at c0 c1 c2 HN1 HFr2
      have HX : Hid (Hp w (wr.alloc (.cells #[.int .i64 kd, .int .i64 n, .string k] 28)) [cellsT wr.heap.size [.int .i64 kd, .int .i64 n, .string k], prefT T P N]) := Lib.hid (HH.out.cellsNew [.int .i64 kd, .int .i64 n, .string k] 28)
      have hP60 : P.length ≤ 60 := by have := HPl.out; omega
      go_upto_region 9 with fail
      generalize wr.alloc (.cells #[.int .i64 kd, .int .i64 n, .string k] 28) = W0 at *
      generalize wr.heap.size = BX at *
      clear c0 c1 c2 HH
      have b0 := HX.out.cell 0 rfl
      have b1 := HX.out.cell 1 rfl
      have b2 := HX.out.cell 2 rfl
      by_cases hk : 100 < k.size
      · have hkc : (100 : Int) < (k.size : Int) := by omega
        go_wp2_with fail
        go_ret
        exact ⟨rfl, HX.out.below⟩
      have hkc : ¬ (100 : Int) < (k.size : Int) := by omega
      have hk1 : k.size ≤ 100 := by omega
      have HC := Lib.hid (padd_calls (HX.out.pull 1 rfl) (Below.refl _ _) (k := k) (by omega) (by omega) (by omega) n HN1.out)
      have HP2 : Hid ((addP k n P).length ≤ i + 1) := Lib.hid (by have := addP_len k n P; have := HPl.out; omega)
      have HIn : Hid (Pa.begM key k = true → n ∈ matP key (addP k n P)) := Lib.hid (fun hb => (mat_mem _ _ _).2 ⟨k, mem_addP.2 (.inr rfl), (Pb.begM_pre _ _).1 hb⟩)
      have HM : Hid (∀ (W : World) (ll : List Th), Hp w W (prefT T (addP k n P) (N + 1) :: ll) → Calls Try.prog 17 #[.pointer (some ⟨T, 0, none⟩), .string key] W fun e w' => ∃ v, e = .returned v ∧ Hp w w' (rowI v (matP key (addP k n P)) :: prefT T (addP k n P) (N + 1) :: ll)) := Lib.hid (fun W ll hh => pmatch_calls hh (Below.refl _ _) (by have := HP2.out; omega) key (by omega))
      have HDl : Hid ((matP key (addP k n P)).length ≤ 61) := Lib.hid (by have := mat_len key (addP k n P); have := HP2.out; omega)
      have HN2 : Hid (N + 1 ≤ 1000 * (i + 1)) := Lib.hid (by omega)
      generalize matP key (addP k n P) = D at *
      generalize addP k n P = P2 at *
      generalize (!decide ((k, n) ∈ P)) = bb at *
      generalize N + 1 = N2 at *
      unfold ptr at HC
      go_wp2_with fail
      refine HC.out.mono ?_; rintro en w5 ⟨rfl, h5⟩
      have H5 : Hid (Hp w w5 [prefT T P2 N2, cellsT BX [.int .i64 kd, .int .i64 n, .string k]]) := Lib.hid h5
      clear h5 HC HX b0 b1 b2 HPl
      have d1 := (H5.out.pull 1 rfl).cell 1 rfl
      have d2 := (H5.out.pull 1 rfl).cell 2 rfl
      obtain ⟨bg, hbg⟩ : ∃ bg, Pa.begM key k = bg := ⟨_, rfl⟩
      rw [hbg] at HIn
      have HBe := Lib.hid hbg
      clear hbg
      by_cases hsz : k.size ≤ key.size
      · have hg0 : (k.size : Int) ≤ (key.size : Int) := by omega
        have hg1 : decide ((k.size : Int) ≤ (key.size : Int)) = true := decide_eq_true hg0
        have he : ((key.extract 0 k.size).toList == k.toList) = bg := by rw [← HBe.out]; unfold Pa.begM; rw [decide_eq_true hsz]; rfl
        clear hsz HBe
        cases hb : bg
        case true =>
          rw [hb] at he HIn
          have HIn2 : Hid (n ∈ D) := Lib.hid (HIn.out rfl)
          clear hb HIn
          go_wp2_with fail
          go_big_quiet (fail)
          go_wp2_with fail
          refine (HM.out _ _ (H5.out.bel (drewN_below w5 _))).mono ?_; rintro en w7 ⟨v7, rfl, h7⟩
          obtain ⟨a7, c7, rfl, -, -⟩ := rowI_slice h7
          have HI7 := Lib.hid (rowI_atI h7)
          have H7 : Hid (Hp w w7 [rowI (.slice a7 D.length c7) D, prefT T P2 N2, cellsT BX [.int .i64 kd, .int .i64 n, .string k]]) := Lib.hid h7
          clear h7 HM H5 d1 d2
          have hD61 := HDl.out
          go_wp2_with fail
          go_loopg [9, 63] (D.length + 1) (fun g v9 vi wr => ∃ (j : Nat) (tb : Bool), vi = .int .i64 j ∧ j ≤ D.length ∧ D.length - j ≤ g ∧ v9 = .bool tb ∧ Hid (tb = decide (n ∈ D.take j)) ∧ Hid (Hp w wr [rowI (.slice a7 D.length c7) D, prefT T P2 N2, cellsT BX [.int .i64 kd, .int .i64 n, .string k]]))
          case atStart => exact ⟨0, false, rfl, by omega, by omega, rfl, Lib.hid (by simp), H7⟩
          case round =>
            obtain ⟨j, tb, rfl, hj, hg2, rfl, HTb, HH⟩ := hrel
            by_cases hjl : j < D.length
            case pos =>
              have hjc : (j : Int) < (D.length : Int) := by omega
              have HI8 := rowI_atI HH.out
              obtain ⟨g7, rfl, hc7⟩ := HI8 (by omega)
              have e0 := hc7 j hjl
              have e1 := (HH.out.pull 2 rfl).cell 1 rfl
              have HT := Lib.hid (take_dec (n := n) hjl)
              rw [← HTb.out] at HT
              clear hc7 HI8
              generalize D.getD j 0 = x at *
              obtain ⟨xb, hxb⟩ : ∃ xb, (x == n) = xb := ⟨_, rfl⟩
              rw [hxb] at HT
              cases tb
              case true =>
                go_wp2_with fail
                go_roundg (gk - 1)
                case measure => omega
                case rel => exact ⟨j + 1, true, by go_num, by omega, by omega, rfl, Lib.hid (by rw [HT.out]; rfl), HH⟩
              case false =>
                go_wp2_with fail
                go_roundg (gk - 1)
                case measure => omega
                case rel => exact ⟨j + 1, xb, by go_num, by omega, by omega, rfl, Lib.hid (by rw [HT.out]; rfl), HH⟩
            case neg =>
              have hjc : ¬ (j : Int) < (D.length : Int) := by omega
              obtain rfl : j = D.length := by omega
              rw [List.take_length] at HTb
              have H8 := Lib.hid (hp_take HH.out [1] 1 rfl)
              clear HH H7 HI7
              obtain rfl : tb = true := by rw [HTb.out]; exact decide_eq_true HIn2.out
              go_wp2_with fail
              go_roundg (gO - 1)
              case measure => omega
              case rel => exact ⟨i + 1, N2, P2, by go_num, by omega, by omega, HN2.out, HP2, HFr2, H8⟩
        case false =>
          rw [hb] at he HIn
          clear hb
          go_wp2_with fail
          go_big_quiet (fail)
          go_wp2_with fail
          refine (HM.out _ _ (H5.out.bel (drewN_below w5 _))).mono ?_; rintro en w7 ⟨v7, rfl, h7⟩
          obtain ⟨a7, c7, rfl, -, -⟩ := rowI_slice h7
          have HI7 := Lib.hid (rowI_atI h7)
          have H7 : Hid (Hp w w7 [rowI (.slice a7 D.length c7) D, prefT T P2 N2, cellsT BX [.int .i64 kd, .int .i64 n, .string k]]) := Lib.hid h7
          clear h7 HM H5 d1 d2
          have hD61 := HDl.out
          go_wp2_with fail
          go_loopg [9, 63] (D.length + 1) (fun g v9 vi wr => ∃ (j : Nat) (tb : Bool), vi = .int .i64 j ∧ j ≤ D.length ∧ D.length - j ≤ g ∧ v9 = .bool tb ∧ Hid (tb = decide (n ∈ D.take j)) ∧ Hid (Hp w wr [rowI (.slice a7 D.length c7) D, prefT T P2 N2, cellsT BX [.int .i64 kd, .int .i64 n, .string k]]))
          case atStart => exact ⟨0, false, rfl, by omega, by omega, rfl, Lib.hid (by simp), H7⟩
          case round =>
            obtain ⟨j, tb, rfl, hj, hg2, rfl, HTb, HH⟩ := hrel
            by_cases hjl : j < D.length
            case pos =>
              have hjc : (j : Int) < (D.length : Int) := by omega
              have HI8 := rowI_atI HH.out
              obtain ⟨g7, rfl, hc7⟩ := HI8 (by omega)
              have e0 := hc7 j hjl
              have e1 := (HH.out.pull 2 rfl).cell 1 rfl
              have HT := Lib.hid (take_dec (n := n) hjl)
              rw [← HTb.out] at HT
              clear hc7 HI8
              generalize D.getD j 0 = x at *
              obtain ⟨xb, hxb⟩ : ∃ xb, (x == n) = xb := ⟨_, rfl⟩
              rw [hxb] at HT
              cases tb
              case true =>
                go_wp2_with fail
                go_roundg (gk - 1)
                case measure => omega
                case rel => exact ⟨j + 1, true, by go_num, by omega, by omega, rfl, Lib.hid (by rw [HT.out]; rfl), HH⟩
              case false =>
                go_wp2_with fail
                go_roundg (gk - 1)
                case measure => omega
                case rel => exact ⟨j + 1, xb, by go_num, by omega, by omega, rfl, Lib.hid (by rw [HT.out]; rfl), HH⟩
            case neg =>
              have hjc : ¬ (j : Int) < (D.length : Int) := by omega
              obtain rfl : j = D.length := by omega
              rw [List.take_length] at HTb
              have H8 := Lib.hid (hp_take HH.out [1] 1 rfl)
              clear HH H7 HI7
              go_wp2_with fail
              go_roundg (gO - 1)
              case measure => omega
              case rel => exact ⟨i + 1, N2, P2, by go_num, by omega, by omega, HN2.out, HP2, HFr2, H8⟩
      · have hg0 : ¬ (k.size : Int) ≤ (key.size : Int) := by omega
        have hg1 : decide ((k.size : Int) ≤ (key.size : Int)) = false := decide_eq_false hg0
        have hg2 : decide (k.size ≤ key.size) = false := decide_eq_false hsz
        have he : bg = false := by rw [← HBe.out]; unfold Pa.begM; rw [decide_eq_false hsz]; rfl
        rw [he] at HIn
        clear hsz HBe he
        go_wp2_with fail
        go_big_quiet (fail)
        go_wp2_with fail
        refine (HM.out _ _ (H5.out.bel (drewN_below w5 _))).mono ?_; rintro en w7 ⟨v7, rfl, h7⟩
        obtain ⟨a7, c7, rfl, -, -⟩ := rowI_slice h7
        have HI7 := Lib.hid (rowI_atI h7)
        have H7 : Hid (Hp w w7 [rowI (.slice a7 D.length c7) D, prefT T P2 N2, cellsT BX [.int .i64 kd, .int .i64 n, .string k]]) := Lib.hid h7
        clear h7 HM H5 d1 d2
        have hD61 := HDl.out
        go_wp2_with fail
        go_loopg [9, 63] (D.length + 1) (fun g v9 vi wr => ∃ (j : Nat) (tb : Bool), vi = .int .i64 j ∧ j ≤ D.length ∧ D.length - j ≤ g ∧ v9 = .bool tb ∧ Hid (tb = decide (n ∈ D.take j)) ∧ Hid (Hp w wr [rowI (.slice a7 D.length c7) D, prefT T P2 N2, cellsT BX [.int .i64 kd, .int .i64 n, .string k]]))
        case atStart => exact ⟨0, false, rfl, by omega, by omega, rfl, Lib.hid (by simp), H7⟩
        case round =>
          obtain ⟨j, tb, rfl, hj, hg2, rfl, HTb, HH⟩ := hrel
          by_cases hjl : j < D.length
          case pos =>
            have hjc : (j : Int) < (D.length : Int) := by omega
            have HI8 := rowI_atI HH.out
            obtain ⟨g7, rfl, hc7⟩ := HI8 (by omega)
            have e0 := hc7 j hjl
            have e1 := (HH.out.pull 2 rfl).cell 1 rfl
            have HT := Lib.hid (take_dec (n := n) hjl)
            rw [← HTb.out] at HT
            clear hc7 HI8
            generalize D.getD j 0 = x at *
            obtain ⟨xb, hxb⟩ : ∃ xb, (x == n) = xb := ⟨_, rfl⟩
            rw [hxb] at HT
            cases tb
            case true =>
              go_wp2_with fail
              go_roundg (gk - 1)
              case measure => omega
              case rel => exact ⟨j + 1, true, by go_num, by omega, by omega, rfl, Lib.hid (by rw [HT.out]; rfl), HH⟩
            case false =>
              go_wp2_with fail
              go_roundg (gk - 1)
              case measure => omega
              case rel => exact ⟨j + 1, xb, by go_num, by omega, by omega, rfl, Lib.hid (by rw [HT.out]; rfl), HH⟩
          case neg =>
            have hjc : ¬ (j : Int) < (D.length : Int) := by omega
            obtain rfl : j = D.length := by omega
            rw [List.take_length] at HTb
            have H8 := Lib.hid (hp_take HH.out [1] 1 rfl)
            clear HH H7 HI7
            go_wp2_with fail
            go_roundg (gO - 1)
            case measure => omega
            case rel => exact ⟨i + 1, N2, P2, by go_num, by omega, by omega, HN2.out, HP2, HFr2, H8⟩
    case neg =>
      have hic : ¬ ((i : Int) < (L.length : Int)) := by omega
      have H4 : Hid (Hp w wr [prefT T P 60000]) := Lib.hid (pref_more HH.out (by omega))
      clear HH
      go_wp2_with fail
      go_loopg [83] (L.length + 1) (fun g vi wr => ∃ (i N : Nat) (P : Pl), vi = .int .i64 i ∧ i ≤ L.length ∧ L.length - i ≤ g ∧ N ≤ 60000 + 1000 * i ∧ Hid (P.length ≤ 60) ∧ Hid (FromA L i P) ∧ Hid (Hp w wr [prefT T P N]))
      case atStart => exact ⟨0, 60000, P, rfl, by omega, by omega, by omega, Lib.hid (by have := HPl.out; omega), HFr, H4⟩
      case round =>
        clear HPl HFr H4
        clear hi hg hN hil hic
        clear N P
        obtain ⟨i, N, P, rfl, hi, hg, hN, HPl, HFr, HH⟩ := hrel
        obtain ⟨gO, hgO⟩ : ∃ g, gk = g := ⟨_, rfl⟩
        by_cases hil : i < L.length
        case pos =>
          have hic : (i : Int) < (L.length : Int) := by omega
          have hi60 : i ≤ 59 := by omega
          obtain ⟨b, o, rfl, hlt, hcs⟩ := HI.out (by omega)
          obtain ⟨c0, c1, c2⟩ := hcs i hil
          have e : ∀ j, wr.cell? ⟨b, j, none⟩ = w.cell? ⟨b, j, none⟩ := fun j => HH.out.below.cell (p := ⟨b, j, none⟩) hlt
          rw [← e] at c0 c1 c2
          obtain ⟨-, hn⟩ := HSZ.out i hil
          have HN1 := Lib.hid hn
          have HFr2 : Hid (FromA L (i + 1) (dropP L[i].n P)) := Lib.hid (HFr.out.drop hil)
          clear hcs hlt e hn
          generalize L[i] = q at *
          obtain ⟨kd, n, k⟩ := q
          simp only at c0 c1 c2 HN1 HFr2
          have HX : Hid (Hp w (wr.alloc (.cells #[.int .i64 kd, .int .i64 n, .string k] 28)) [cellsT wr.heap.size [.int .i64 kd, .int .i64 n, .string k], prefT T P N]) := Lib.hid (HH.out.cellsNew [.int .i64 kd, .int .i64 n, .string k] 28)
          have hP60 : P.length ≤ 60 := by have := HPl.out; omega
          go_upto_region 25 with fail
          generalize wr.alloc (.cells #[.int .i64 kd, .int .i64 n, .string k] 28) = W0 at *
          generalize wr.heap.size = BX at *
          clear c0 c1 c2 HH
          have b0 := HX.out.cell 0 rfl
          have b1 := HX.out.cell 1 rfl
          have b2 := HX.out.cell 2 rfl
          have HC := Lib.hid (pdrop_calls (HX.out.pull 1 rfl) (Below.refl _ _) (by have := HPl.out; omega) (by omega) n HN1.out)
          have HP2 : Hid ((dropP n P).length ≤ 60) := Lib.hid (by have := dropP_le n P; have := HPl.out; omega)
          have HNo := Lib.hid (mat_drop key n P)
          have HO : Hid (∀ (W : World) (ll : List Th), Hp w W (prefT T (dropP n P) (N + 1000) :: ll) → Calls Try.prog 20 #[.pointer (some ⟨T, 0, none⟩), .int .i64 n] W fun e w' => ∃ v, e = .returned v ∧ Hp w w' (rowS v [] :: prefT T (dropP n P) (N + 1000) :: ll)) := Lib.hid (fun W ll hh => by
            have := pof_calls hh (Below.refl _ _) (by have := HP2.out; omega) n HN1.out
            rw [of_drop] at this
            exact this)
          have HM : Hid (∀ (W : World) (ll : List Th), Hp w W (prefT T (dropP n P) (N + 1000) :: ll) → Calls Try.prog 17 #[.pointer (some ⟨T, 0, none⟩), .string key] W fun e w' => ∃ v, e = .returned v ∧ Hp w w' (rowI v (matP key (dropP n P)) :: prefT T (dropP n P) (N + 1000) :: ll)) := Lib.hid (fun W ll hh => pmatch_calls hh (Below.refl _ _) (by have := HP2.out; omega) key (by omega))
          have HDl : Hid ((matP key (dropP n P)).length ≤ 61) := Lib.hid (by have := mat_len key (dropP n P); have := HP2.out; omega)
          have HN2 : Hid (N + 1000 ≤ 60000 + 1000 * (i + 1)) := Lib.hid (by omega)
          generalize matP key (dropP n P) = D at *
          generalize P.length - (dropP n P).length = dn at *
          generalize dropP n P = P2 at *
          generalize N + 1000 = N2 at *
          unfold ptr at HC
          go_wp2_with fail
          refine HC.out.mono ?_; rintro en w5 ⟨rfl, h5⟩
          have h5 : Hp w w5 [prefT T P2 N2, cellsT BX [.int .i64 kd, .int .i64 n, .string k]] := h5
          have d1 := (h5.pull 1 rfl).cell 1 rfl
          have HO1 := Lib.hid (HO.out _ _ h5)
          clear h5 HC HX b0 b1 b2 HPl HO
          go_wp2_with fail
          refine HO1.out.mono ?_; rintro en w6 ⟨v6, rfl, h6⟩
          obtain ⟨a6, c6, rfl, -, -, -⟩ := rowS_form h6
          have HM1 := Lib.hid (HM.out _ _ (h6.pull 1 rfl))
          have h00 : ([] : List ByteArray).length = 0 := rfl
          clear h6 HO1 HM d1
          go_wp2_with fail
          refine HM1.out.mono ?_; rintro en w7 ⟨v7, rfl, h7⟩
          obtain ⟨a7, c7, rfl, -, -⟩ := rowI_slice h7
          have HI7 := Lib.hid (rowI_atI h7)
          have H7 : Hid (Hp w w7 [rowI (.slice a7 D.length c7) D, prefT T P2 N2, rowS (.slice a6 ([] : List ByteArray).length c6) [], cellsT BX [.int .i64 kd, .int .i64 n, .string k]]) := Lib.hid h7
          clear h7 HM1
          have hD61 := HDl.out
          go_wp2_with fail
          go_loopg [101] (D.length + 1) (fun g vi wr => ∃ (j : Nat), vi = .int .i64 j ∧ j ≤ D.length ∧ D.length - j ≤ g ∧ wr = w7)
          case atStart => exact ⟨0, rfl, by omega, by omega, rfl⟩
          case round =>
            obtain ⟨j, rfl, hj, hg2, rfl⟩ := hrel
            by_cases hjl : j < D.length
            case pos =>
              have hjc : (j : Int) < (D.length : Int) := by omega
              obtain ⟨g7, rfl, hc7⟩ := HI7.out (by omega)
              have e0 := hc7 j hjl
              have e1 := (H7.out.pull 3 rfl).cell 1 rfl
              have hne : D.getD j 0 ≠ n := fun e => HNo.out (by
                have e2 : D.getD j 0 = D[j] := by simp [List.getD, hjl]
                rw [← e, e2]; exact List.getElem_mem hjl)
              have hneb : (D.getD j 0 == n) = false := by rw [beq_eq_false_iff_ne]; exact hne
              clear hc7
              generalize D.getD j 0 = x at *
              go_wp2_with fail
              go_roundg (gk - 1)
              case measure => omega
              case rel => exact ⟨j + 1, by go_num, by omega, by omega, rfl⟩
            case neg =>
              have hjc : ¬ (j : Int) < (D.length : Int) := by omega
              have H8 := Lib.hid (hp_take H7.out [1] 1 rfl)
              clear H7 HI7
              go_wp2_with fail
              go_roundg (gO - 1)
              case measure => omega
              case rel => exact ⟨i + 1, N2, P2, by go_num, by omega, by omega, HN2.out, HP2, HFr2, H8⟩
        case neg =>
          have hic : ¬ ((i : Int) < (L.length : Int)) := by omega
          obtain rfl := HFr.out.nil (by omega)
          have HL := Lib.hid (plen_calls (K := []) HH.out (Below.refl _ _) List.nodup_nil fun k => ⟨fun h => (nomatch h), fun ⟨n, h⟩ => (nomatch h)⟩)
          obtain ⟨X, hX, hnd⟩ := pnodes_calls HH.out (Below.refl _ _)
          rw [nodes_nil hX] at hnd
          have HNd := Lib.hid hnd
          have hM := pmatch_calls HH.out (Below.refl _ _) (by decide) key (by omega)
          rw [mat_nil] at hM
          have HM := Lib.hid hM
          unfold ptr at HL HNd HM
          clear hX hnd hM HFr HPl
          go_wp2_with fail
          refine HL.out.mono ?_; rintro en w5 ⟨rfl, rfl⟩
          go_wp2_with fail
          refine HNd.out.mono ?_; rintro en w5 ⟨rfl, rfl⟩
          go_wp2_with fail
          refine HM.out.mono ?_; rintro en w6 ⟨v6, rfl, h6⟩
          obtain ⟨a6, c6, rfl, -, -⟩ := rowI_slice h6
          have HB := Lib.hid h6.below
          clear h6 HM HL HNd HH
          go_wp2_with fail
          go_ret
          exact ⟨rfl, HB.out⟩
end Go.Proofs.Ytnmncjeplfkdpaa.Qa
