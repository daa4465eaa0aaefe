/- RadixOrders. No condition. -/
import Derived.Test.YtimkgfigidlanaaPc3
import Derived.Test.YtimkgfigidlanaaPc6
import Derived.Test.YtimkgfigidlanaaPa5
namespace Go.Proofs.Ytimkgfigidlanaa.Pb
set_option linter.unusedVariables false
set_option linter.unusedSimpArgs false
open Go.ChangeShapes Go.WideShapes Go.ChangeAt Go.RowKit
open Sp (Th Hp Stays roT rowT cellsT Mvd mvd1)
theorem MkI.len {Q : List Pa.Mk} {L : T → Option Int} {P : T → Prop} {D : List T} (h : MkI Q L P) (hD : ∀ K, L K ≠ none → K ∈ D) : Q.length ≤ D.length := by
  have h1 : (Q.map fun p => p.1.data.toList).Nodup := List.pairwise_map.2 (h.up.imp fun {a b} (hab : Lt a.1.data.toList b.1.data.toList) (e : a.1.data.toList = b.1.data.toList) => Lt.irr (p := b.1.data.toList) (by rw [e] at hab; exact hab))
  have h2 := nd_leT h1 (r := D) fun K hK => by
    obtain ⟨p, hp, rfl⟩ := List.mem_map.1 hK
    exact hD _ (by rw [((h.mem p).1 hp).1]; simp)
  rwa [List.length_map] at h2
theorem row_inM {o w : World} {ts : List Th} {a : Option Addr} {c : Nat} {Q : List Pa.Mk} (h : Hp o w (rowT 47 2 (.slice a Q.length c) Q.length (Pa.cellsM Q) :: ts)) : Pa.InM w a Q := fun i hi => by
  obtain ⟨a', c', e, -, -, hg⟩ := h.rowForm
  injection e with e1 _ e3
  subst e1 e3
  obtain ⟨g, rfl⟩ := hg (by omega)
  obtain ⟨m1, m2⟩ := cellsM_at Q i hi
  exact ⟨g, rfl, (h.rowCell (by omega)).trans m1, (h.rowCell (by omega)).trans m2⟩
set_option maxHeartbeats 16000000 in
set_option maxRecDepth 100000 in
theorem radixOrders (w : World) (xa : Option Addr) (xc : Nat) (l : List ByteArray) (hI : InO w xa l) (ya : Option Addr) (yc : Nat) (r : List ByteArray) (hJ : InO w ya r) :
    Calls Try.prog 4 #[.slice xa l.length xc, .slice ya r.length yc] w fun e w' => e = .returned (.bool true) ∧ Below w.heap.size w w' := by
  have HA := Lib.hid (radixAlive w)
  have HI := Lib.hid hI
  have HJ := Lib.hid hJ
  clear hI hJ
  go_enter Try.func4, Try.ntmps4
  go_wp2_with fail
  refine HA.out.mono ?_; rintro en w1 ⟨rfl, hb1⟩
  have HB1 := Lib.hid hb1
  clear HA hb1
  by_cases h40 : 40 < l.length
  · have h40c : (40 : Int) < (l.length : Int) := by omega
    go_wp2_with fail
    go_ret
    exact ⟨rfl, HB1.out⟩
  have h40c : ¬ (40 : Int) < (l.length : Int) := by omega
  by_cases k40 : 40 < r.length
  · have k40c : (40 : Int) < (r.length : Int) := by omega
    go_wp2_with fail
    go_ret
    exact ⟨rfl, HB1.out⟩
  have k40c : ¬ (40 : Int) < (r.length : Int) := by omega
  have HN := Lib.hid (rnew (Hp.nil HB1.out) (Below.refl _ _))
  go_wp2_with fail
  refine HN.out.mono ?_; rintro en w2 ⟨A, rfl, h2⟩
  have HN2 := Lib.hid (rnew h2 (Below.refl _ _))
  clear h2 HN
  go_wp2_with fail
  refine HN2.out.mono ?_; rintro en w3 ⟨B, rfl, h3⟩
  have H3 : Hid (Hp w w3 [radT A [] (fun _ => none), radT B [] (fun _ => none)]) := Lib.hid (h3.pull' 1 rfl rfl)
  clear h3 HN2
  go_wp2_with fail
  go_loopg [7, 8, 9, 10, 11, 26] (l.length + 1) (fun g _ _ _ _ _ vi wr => ∃ (i : Nat) (Da Db : List T) (La Lb : T → Option Int), vi = .int .i64 i ∧ i ≤ l.length ∧ l.length - i ≤ g ∧ Da.length ≤ 3 * i ∧ Db.length ≤ i ∧ Hid (∀ K, La K = kvL (dat (l.take i)) K) ∧ Hid (∀ K, Lb K = kvL (dat (l.drop (l.length - i))) K) ∧ Hid (Hp w wr [radT A Da La, radT B Db Lb]))
  case atStart => exact ⟨0, [], [], fun _ => none, fun _ => none, rfl, by omega, by omega, by simp, by simp, Lib.hid (fun K => by simp [kvL, dat]), Lib.hid (fun K => by simp [kvL, dat]), H3⟩
  case round =>
    obtain ⟨i, Da, Db, La, Lb, rfl, hi, hg, hDa, hDb, HLa, HLb, HH⟩ := hrel
    clear H3
    by_cases hil : i < l.length
    case pos =>
      have hic : (i : Int) < (l.length : Int) := by omega
      obtain ⟨j, hj⟩ : ∃ j, j + 1 + i = l.length := ⟨l.length - i - 1, by omega⟩
      have hjl : j < l.length := by omega
      have hjc : (j : Int) < (l.length : Int) := by omega
      have hwa : IntKind.i64.wrap ((l.length : Int) - 1) = (l.length : Int) - 1 := by rw [IntKind.wrap_i64]; omega
      have hwb : IntKind.i64.wrap ((l.length : Int) - 1 - (i : Int)) = (j : Int) := by rw [IntKind.wrap_i64]; omega
      obtain ⟨b, ob, rfl, hlt, hcs⟩ := HI.out (by omega)
      have c0 := hcs i hil
      have d0 := hcs j hjl
      have e0 : ∀ W, Below w.heap.size w W → ∀ j, W.cell? ⟨b, j, none⟩ = w.cell? ⟨b, j, none⟩ := fun W hW j => hW.cell (p := ⟨b, j, none⟩) hlt
      have HC := Lib.hid (fun W (hW : Below w.heap.size w W) => (⟨(e0 W hW _).trans c0, (e0 W hW _).trans d0⟩ : W.cell? ⟨b, ob + i, none⟩ = some (.string l[i]) ∧ W.cell? ⟨b, ob + j, none⟩ = some (.string l[j])))
      have HS1 := Lib.hid (dat_take hil)
      have HS2 : Hid (∀ X, X ∈ dat (l.drop (l.length - (i + 1))) ↔ X = l[j].data.toList ∨ X ∈ dat (l.drop (l.length - i))) := Lib.hid (by
        rw [show l.length - (i + 1) = j by omega]
        exact dat_drop hjl (by omega))
      clear c0 d0 e0 hcs hlt
      generalize l[i] = k at *
      generalize l[j] = k2 at *
      obtain ⟨c0, -⟩ := HC.out wr HH.out.below
      by_cases hks : 100 < k.size
      · have hkc : (100 : Int) < (k.size : Int) := by omega
        go_wp2_with fail
        go_ret
        exact ⟨rfl, HH.out.below⟩
      have hkc : ¬ (100 : Int) < (k.size : Int) := by omega
      have HP := Lib.hid (rput HH.out (Below.refl _ _) k (k.size : Int) (by omega) (by omega))
      have hD2 := insT_len k.data.toList Da
      have HLa2 : Hid (∀ K, updL k.data.toList (k.size : Int) La K = kvL (dat (l.take (i + 1))) K) := Lib.hid (kv_put HLa.out HS1.out)
      go_wp2_with fail
      refine HP.out.mono ?_; rintro en w4 ⟨rfl, h4⟩
      have H4 := Lib.hid h4
      obtain ⟨-, d4⟩ := HC.out w4 h4.below
      clear h4 HP HH c0 HLa HS1
      by_cases hks2 : 100 < k2.size
      · have hkc2 : (100 : Int) < (k2.size : Int) := by omega
        go_wp2_with fail
        go_ret
        exact ⟨rfl, H4.out.below⟩
      have hkc2 : ¬ (100 : Int) < (k2.size : Int) := by omega
      have HP := Lib.hid (rput (H4.out.pull' 1 rfl rfl) (Below.refl _ _) k2 (k2.size : Int) (by omega) (by omega))
      have hD3 := insT_len k2.data.toList Db
      have HLb2 : Hid (∀ K, updL k2.data.toList (k2.size : Int) Lb K = kvL (dat (l.drop (l.length - (i + 1)))) K) := Lib.hid (kv_put HLb.out HS2.out)
      go_wp2_with fail
      refine HP.out.mono ?_; rintro en w5 ⟨rfl, h5⟩
      have H5 := Lib.hid (h5.pull' 1 rfl rfl)
      clear h5 HP H4 d4 HLb HS2 HC
      by_cases hir : i < r.length
      case neg =>
        have hirc : ¬ (i : Int) < (r.length : Int) := by omega
        go_wp2_with fail
        go_roundg (gk - 1)
        case measure => omega
        case rel => exact ⟨i + 1, _, _, _, _, by go_num, by omega, by omega, by omega, by omega, HLa2, HLb2, H5⟩
      case pos =>
        have hirc : (i : Int) < (r.length : Int) := by omega
        obtain ⟨b2, ob2, rfl, hlt2, hcs2⟩ := HJ.out (by omega)
        have c0 := hcs2 i hir
        have HC := Lib.hid (fun W (hW : Below w.heap.size w W) => (hW.cell (p := ⟨b2, ob2 + i, none⟩) hlt2).trans c0)
        clear hcs2 hlt2 c0
        generalize r[i] = q at *
        generalize updL k.data.toList (k.size : Int) La = La2 at *
        generalize updL k2.data.toList (k2.size : Int) Lb = Lb2 at *
        generalize insT k.data.toList Da = Da2 at *
        generalize insT k2.data.toList Db = Db2 at *
        have c5 := HC.out w5 H5.out.below
        by_cases hq : 100 < q.size
        · have hqc : (100 : Int) < (q.size : Int) := by omega
          go_wp2_with fail
          go_ret
          exact ⟨rfl, H5.out.below⟩
        have hqc : ¬ (100 : Int) < (q.size : Int) := by omega
        have ht := kv_there HLa2.out q.data.toList
        have HGe := Lib.hid (rget H5.out (Below.refl _ _) q (by omega))
        have HD1 : Hid ((insT q.data.toList Da2).length ≤ 3 * i + 2) := Lib.hid (by have := insT_len q.data.toList Da2; omega)
        have HD2' : Hid ((delT q.data.toList (insT q.data.toList Da2)).length ≤ 3 * i + 2) := Lib.hid (Nat.le_trans (List.length_filter_le _ _) HD1.out)
        have HD3 : Hid ((insT q.data.toList (delT q.data.toList (insT q.data.toList Da2))).length ≤ 3 * i + 3) := Lib.hid (by have := insT_len q.data.toList (delT q.data.toList (insT q.data.toList Da2)); have := HD2'.out; omega)
        generalize (La2 q.data.toList).isSome = th at *
        go_wp2_with fail
        refine HGe.out.mono ?_; rintro en w6 ⟨rfl, hb6⟩
        have H6 := Lib.hid (H5.out.bel hb6)
        have c6 := HC.out w6 H6.out.below
        have HP := Lib.hid (rput H6.out (Below.refl _ _) q 7 (by omega) (by omega))
        clear hb6 HGe H5 c5
        go_wp2_with fail
        refine HP.out.mono ?_; rintro en w7 ⟨rfl, h7⟩
        have H7 := Lib.hid h7
        have c7 := HC.out w7 h7.below
        have HQ := Lib.hid (rdrop h7 (Below.refl _ _) q (by omega) (by have := HD1.out; omega))
        clear h7 HP H6 c6
        go_wp2_with fail
        refine HQ.out.mono ?_; rintro en w8 ⟨rfl, h8⟩
        have H8 := Lib.hid h8
        have c8 := HC.out w8 h8.below
        clear h8 HQ H7 c7
        by_cases hin : q.data.toList ∈ dat (l.take (i + 1))
        · rw [decide_eq_true hin] at ht
          subst ht
          have HP := Lib.hid (rput H8.out ((Below.refl _ w8).drew) q (q.size : Int) (by omega) (by have := HD2'.out; omega))
          have HLa3 := Lib.hid (kv_back HLa2.out 7 hin)
          go_wp2_with fail
          go_region_with (go_at_call 10; refine HP.out.mono ?_; rintro en w9 ⟨rfl, h9⟩; have H9 := Lib.hid h9; clear h9)
          all_goals
            go_wp2_with fail
            go_roundg (gk - 1)
            case measure => omega
            case rel => exact ⟨i + 1, _, _, _, _, by go_num, by omega, by omega, by have := HD3.out; omega, by omega, HLa3, HLb2, H9⟩
        · rw [decide_eq_false hin] at ht
          subst ht
          have HLa3 := Lib.hid (kv_gone HLa2.out 7 hin)
          go_wp2_with fail
          go_roundg (gk - 1)
          case measure => omega
          case rel => exact ⟨i + 1, _, _, _, _, by go_num, by omega, by omega, by have := HD2'.out; omega, by omega, HLa3, HLb2, H8⟩
    case neg =>
      have hic : ¬ ((i : Int) < (l.length : Int)) := by omega
      obtain rfl : i = l.length := by omega
      have hL : ∀ K, La K = Lb K := fun K => by rw [HLa.out, HLb.out, List.take_length, Nat.sub_self, List.drop_zero]
      obtain ⟨ta, va, ma, -, ia⟩ := rad_at HH.out
      obtain ⟨tb, vb, mb, -, ib⟩ := rad_at (HH.out.pull' 1 rfl rfl)
      obtain ⟨hm, hlen⟩ := ia.same ib hL
      have HM := Lib.hid (⟨hm, fun K => (ia.dl K).1, fun K => (ib.dl K).1⟩ : (∀ K, K ∈ Da ↔ K ∈ Db) ∧ (∀ K, La K ≠ none → K ∈ Da) ∧ ∀ K, Lb K ≠ none → K ∈ Db)
      have HL := Lib.hid hL
      have HLn := Lib.hid (rlen HH.out (Below.refl _ _))
      have HLn2 := Lib.hid (rlen (HH.out.pull' 1 rfl rfl) (Below.refl _ _))
      obtain ⟨X, hX, n1⟩ := rnodesE HH.out (Below.refl _ _)
      obtain ⟨Y, hY, n2⟩ := rnodesE (HH.out.pull' 1 rfl rfl) (Below.refl _ _)
      have hXY := hX.len hY hm
      rw [hXY] at n1
      rw [hlen] at HLn
      have HN1 := Lib.hid n1
      have HN2 := Lib.hid n2
      have HW := Lib.hid (rwalk HH.out (Below.refl _ _) ⟨#[]⟩ (by decide) (by omega))
      clear n1 n2 hX hY ia ib hL hm HLa HLb hXY
      go_wp2_with fail
      refine HLn.out.mono ?_; rintro en w6 ⟨rfl, rfl⟩
      go_wp2_with fail
      refine HLn2.out.mono ?_; rintro en w6 ⟨rfl, rfl⟩
      go_wp2_with fail
      refine HN1.out.mono ?_; rintro en w6 ⟨rfl, rfl⟩
      go_wp2_with fail
      refine HN2.out.mono ?_; rintro en w6 ⟨rfl, rfl⟩
      go_wp2_with fail
      refine HW.out.mono ?_; rintro en w6 ⟨v, Q, rfl, hQ, h6⟩
      obtain ⟨a1, c1, rfl, -, -, -⟩ := h6.rowForm
      have HQ := Lib.hid hQ
      have H6 := Lib.hid h6
      have HW2 := Lib.hid (rwalk (h6.pull' 2 rfl rfl) (Below.refl _ _) ⟨#[]⟩ (by decide) (by omega))
      clear hQ h6 HW HH
      go_wp2_with fail
      refine HW2.out.mono ?_; rintro en w7 ⟨v, Q2, rfl, hQ2, h7⟩
      obtain ⟨a2, c2, rfl, -, -, -⟩ := h7.rowForm
      obtain rfl : Q2 = Q := hQ2.ext HQ.out fun K => (HL.out K).symm
      have hql := hQ2.len HM.out.2.2
      have HS := Lib.hid (Pa.refSame_calls w7 a1 a2 c1 c2 _ _ Q2 Q2 rfl rfl (by omega) (by omega) (row_inM (h7.pull' 2 rfl rfl)) (row_inM h7))
      have H7 := Lib.hid h7
      rw [decide_eq_true (rfl : Q2 = Q2)] at HS
      clear hQ2 h7 HW2 H6
      go_wp2_with fail
      refine HS.out.mono ?_; rintro en w8 ⟨rfl, hb8⟩
      go_wp2_with fail
      go_ret
      exact ⟨rfl, H7.out.below.trans (hb8.mono H7.out.below.size)⟩
end Go.Proofs.Ytimkgfigidlanaa.Pb
