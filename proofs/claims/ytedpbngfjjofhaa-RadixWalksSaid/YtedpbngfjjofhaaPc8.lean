/- RadixWalks. No condition. -/
import Derived.Test.YtedpbngfjjofhaaPc3
import Derived.Test.YtedpbngfjjofhaaPc6
import Derived.Test.YtedpbngfjjofhaaPbt
import Derived.BigQuiet
namespace Go.Proofs.Ytedpbngfjjofhaa.Pb
set_option linter.unusedVariables false
set_option linter.unusedSimpArgs false
open Go.ChangeShapes Go.WideShapes Go.ChangeAt Go.RowKit
open Sp (Th Hp Stays roT rowT cellsT Mvd mvd1)
open Go.Shelf in
theorem key_eq' {a b : ByteArray} : (a.toList == b.toList) = true ↔ a = b := by
  rw [beq_iff_eq, Lib.toList_data, Lib.toList_data]
  constructor
  · intro h
    cases a; cases b
    congr 1
    exact Array.toList_inj.1 h
  · rintro rfl; rfl
open Go.Shelf in
theorem key_less' {a b : ByteArray} : Op.bytesLess a.toList b.toList = true ↔ Lt a.data.toList b.data.toList := by
  rw [less_lt, Lib.toList_data, Lib.toList_data]
theorem apart_no {a b K : T} (hl : a.length ≤ b.length) (ha : a <+: K) (hb : b <+: K) : a = b.take a.length := List.prefix_iff_eq_take.1 (List.prefix_of_prefix_length_le ha hb hl)
theorem ext_take (k : ByteArray) (n : Nat) : (k.extract 0 n).data.toList = k.data.toList.take n := by simp
theorem ba_eq' {x y : ByteArray} (h : x.toList = y.toList) : x = y := key_eq'.1 (beq_iff_eq.2 h)
theorem ba_eq2 {x y : ByteArray} (h : x.data.toList = y.data.toList) : x = y := by
  cases x with | mk x => cases y with | mk y => exact congrArg ByteArray.mk (Array.toList_inj.1 h)
/-- The marks of all keys are as many as the keys. -/
theorem MkI.full {Q : List Pa.Mk} {L : T → Option Int} {D : List T} (h : MkI Q L (fun K => [] <+: K)) (hn : D.Nodup) (hD : ∀ K, L K ≠ none ↔ K ∈ D) : Q.length = D.length := by
  refine Nat.le_antisymm ?_ ?_
  · have h1 : (Q.map fun p => p.1.data.toList).Nodup := List.pairwise_map.2 (h.up.imp fun {a b} (hab : Lt a.1.data.toList b.1.data.toList) (e : a.1.data.toList = b.1.data.toList) => Lt.irr (p := b.1.data.toList) (by rw [e] at hab; exact hab))
    have h2 := nd_leT h1 (r := D) fun K hK => by
      obtain ⟨p, hp, rfl⟩ := List.mem_map.1 hK
      exact (hD _).1 (by rw [((h.mem p).1 hp).1]; simp)
    rwa [List.length_map] at h2
  · have h2 := nd_leT hn (r := Q.map fun p => p.1.data.toList) fun K hK => by
      obtain ⟨z, hz⟩ := Option.ne_none_iff_exists'.1 ((hD K).2 hK)
      refine List.mem_map.2 ⟨(⟨K.toArray⟩, z), (h.mem _).2 ⟨?_, List.nil_prefix⟩, ?_⟩ <;> simp [hz]
    rwa [List.length_map] at h2
theorem MkI.len' {Q : List Pa.Mk} {L : T → Option Int} {P : T → Prop} {D : List T} (h : MkI Q L P) (hD : ∀ K, L K ≠ none → K ∈ D) : Q.length ≤ D.length := by
  have h1 : (Q.map fun p => p.1.data.toList).Nodup := List.pairwise_map.2 (h.up.imp fun {a b} (hab : Lt a.1.data.toList b.1.data.toList) (e : a.1.data.toList = b.1.data.toList) => Lt.irr (p := b.1.data.toList) (by rw [e] at hab; exact hab))
  have h2 := nd_leT h1 (r := D) fun K hK => by
    obtain ⟨p, hp, rfl⟩ := List.mem_map.1 hK
    exact hD _ (by rw [((h.mem p).1 hp).1]; simp)
  rwa [List.length_map] at h2
theorem MkI.step {Q : List Pa.Mk} {L : T → Option Int} {P : T → Prop} (h : MkI Q L P) {p : Nat} (hp : p + 1 < Q.length) : Op.bytesLess (Q[p].1).toList (Q[p + 1].1).toList = true :=
  key_less'.2 (List.pairwise_iff_getElem.1 h.up p (p + 1) (by omega) hp (by omega))
theorem less_not {x y : ByteArray} (h : Op.bytesLess x.toList y.toList = true) : Op.bytesLess y.toList x.toList = false ∧ (x.toList == y.toList) = false ∧ (y.toList == x.toList) = false := by
  have h1 := key_less'.1 h
  refine ⟨?_, ?_, ?_⟩
  · cases hb : Op.bytesLess y.toList x.toList with
    | false => rfl
    | true => exact (Lt.asymm h1 (key_less'.1 hb)).elim
  · exact beq_eq_false_iff_ne.2 fun e => by rw [ba_eq' e] at h1; exact Lt.irr h1
  · exact beq_eq_false_iff_ne.2 fun e => by rw [ba_eq' e] at h1; exact Lt.irr h1
set_option maxHeartbeats 64000000 in
set_option maxRecDepth 100000 in
theorem radixWalks (w : World) (xa : Option Addr) (xc : Nat) (l : List ByteArray) (hI : InO w xa l) (a b : ByteArray) :
    Calls Try.prog 6 #[.slice xa l.length xc, .string a, .string b] w fun e w' => e = .returned (.bool true) ∧ Below w.heap.size w w' := by
  have HA := Lib.hid (radixAlive w)
  have HI := Lib.hid hI
  clear hI
  go_enter Try.func6, Try.ntmps6
  go_wp2_with fail
  refine HA.out.mono ?_; rintro en w1 ⟨rfl, hb1⟩
  have HB1 := Lib.hid hb1
  clear HA hb1
  by_cases h40 : 40 < l.length
  · have h40c : (40 : Int) < (l.length : Int) := by omega
    go_wp2_with fail
    go_ret
    exact ⟨rfl, HB1.out⟩
  have h40c : ¬ (40 : Int) < (l.length : Int) := by omega
  by_cases ha60 : 60 < a.size
  · have hac : (60 : Int) < (a.size : Int) := by omega
    go_wp2_with fail
    go_ret
    exact ⟨rfl, HB1.out⟩
  have hac : ¬ (60 : Int) < (a.size : Int) := by omega
  by_cases hb60 : 60 < b.size
  · have hbc : (60 : Int) < (b.size : Int) := by omega
    go_wp2_with fail
    go_ret
    exact ⟨rfl, HB1.out⟩
  have hbc : ¬ (60 : Int) < (b.size : Int) := by omega
  have HN := Lib.hid (rnew (Hp.nil HB1.out) (Below.refl _ _))
  go_wp2_with fail
  refine HN.out.mono ?_; rintro en w2 ⟨A, rfl, h2⟩
  have H2 := Lib.hid h2
  clear h2 HN
  go_wp2_with fail
  go_loopg [9, 40] (l.length + 1) (fun g _ vi wr => ∃ (i : Nat) (D : List T) (L : T → Option Int), vi = .int .i64 i ∧ i ≤ l.length ∧ l.length - i ≤ g ∧ D.length ≤ i ∧ Hid (Hp w wr [radT A D L]))
  case atStart => exact ⟨0, [], fun _ => none, rfl, by omega, by omega, by simp, H2⟩
  case round =>
    obtain ⟨i, D, L, rfl, hi, hg, hD, HH⟩ := hrel
    clear H2
    by_cases hil : i < l.length
    case pos =>
      have hic : (i : Int) < (l.length : Int) := by omega
      obtain ⟨xb, ob, rfl, hlt, hcs⟩ := HI.out (by omega)
      have c0 := (HH.out.below.cell (p := ⟨xb, ob + i, none⟩) hlt).trans (hcs i hil)
      clear hcs hlt
      generalize l[i] = k at *
      by_cases hks : 60 < k.size
      · have hkc : (60 : Int) < (k.size : Int) := by omega
        go_wp2_with fail
        go_ret
        exact ⟨rfl, HH.out.below⟩
      have hkc : ¬ (60 : Int) < (k.size : Int) := by omega
      have HP := Lib.hid (rput HH.out (Below.refl _ _) k 1 (by omega) (by omega))
      have hD2 := insT_len k.data.toList D
      go_wp2_with fail
      refine HP.out.mono ?_; rintro en w3 ⟨rfl, h3⟩
      have H3 := Lib.hid h3
      clear h3 HP HH c0
      go_wp2_with fail
      go_roundg (gk - 1)
      case measure => omega
      case rel => exact ⟨i + 1, _, _, by go_num, by omega, by omega, by omega, H3⟩
    case neg =>
      have hic : ¬ ((i : Int) < (l.length : Int)) := by omega
      obtain rfl : i = l.length := by omega
      have HW := Lib.hid (rwalk HH.out (Below.refl _ _) ⟨#[]⟩ (by decide) (by omega))
      go_wp2_with fail
      refine HW.out.mono ?_; rintro en w3 ⟨v, Q, rfl, hQ, h3⟩
      obtain ⟨qa, qc, rfl, -, -, hqa⟩ := h3.rowForm
      have hQ : MkI Q L (fun K => [] <+: K) := hQ
      have HF : Hid (∀ D' L', (∀ K, L K = L' K) → ∀ W l', Hp w W (radT A D' L' :: l') → (∀ K, K ∈ D ↔ K ∈ D') ∧ D'.length = Q.length) := by
        obtain ⟨t, vs, m, -, ia⟩ := rad_at HH.out
        refine Lib.hid (fun D' L' hL W l' hh => ?_)
        obtain ⟨t', vs', m', -, ib⟩ := rad_at hh
        obtain ⟨e1, e2⟩ := ia.same ib hL
        exact ⟨e1, by rw [← e2]; exact (hQ.full ia.nd ia.dl).symm⟩
      have HQ := Lib.hid hQ
      have H3 : Hid (Hp w w3 [radT A D L, rowT 47 2 (.slice qa Q.length qc) Q.length (Pa.cellsM Q)]) := Lib.hid (h3.pull' 1 rfl rfl)
      have HQa := Lib.hid hqa
      have HQ4 : Hid (Q.length ≤ 40) := Lib.hid (by rw [← (HF.out D L (fun _ => rfl) _ _ H3.out).2]; omega)
      have HDl : Hid (D.length ≤ 40) := Lib.hid (by omega)
      clear h3 HW HH hQ hqa hD hi hg HI HB1
      go_wp2_with fail
      go_loopg [11] (Q.length + 1) (fun g vi wr => ∃ p : Nat, vi = .int .i64 ((p + 1 : Nat) : Int) ∧ Q.length - p ≤ g ∧ p ≤ Q.length ∧ Hid (Hp w wr [radT A D L, rowT 47 2 (.slice qa Q.length qc) Q.length (Pa.cellsM Q)]))
      case atStart => exact ⟨0, rfl, by omega, by omega, H3⟩
      case round =>
        obtain ⟨p, rfl, hg, hp, H4⟩ := hrel
        clear H3
        by_cases hpl : p + 1 < Q.length
        case pos =>
          obtain ⟨gb, rfl⟩ := HQa.out (by omega)
          obtain ⟨d0, -⟩ := mk_cell (H4.out.pull' 1 rfl rfl) (j := p) (by omega)
          obtain ⟨d1, -⟩ := mk_cell (H4.out.pull' 1 rfl rfl) hpl
          have hbl := HQ.out.step hpl
          obtain ⟨hb1, hb2, hb3⟩ := less_not hbl
          generalize Q[p].1 = q1 at *
          generalize Q[p + 1].1 = q2 at *
          obtain ⟨i, hi⟩ : ∃ i, p + 1 = i := ⟨_, rfl⟩
          rw [hi] at d1 hpl ⊢
          have hic : (i : Int) < (Q.length : Int) := by omega
          have hw0 : (i : Int) - 1 = (p : Int) := by omega
          have hw1 : IntKind.i64.wrap ((i : Int) - 1) = (p : Int) := by rw [hw0, IntKind.wrap_i64]; have := HQ4.out; omega
          have hpc : (p : Int) < (Q.length : Int) := by omega
          have hp0 : (0 : Int) ≤ (p : Int) := by omega
          have hi0 : (0 : Int) ≤ (i : Int) := by omega
          clear hw0
          have hwi : IntKind.i64.wrap ((i : Int) + 1) = ((i + 1 : Nat) : Int) := by rw [IntKind.wrap_i64]; have := HQ4.out; omega
          have hor : (Op.bytesLess q2.toList q1.toList || q1.toList == q2.toList) = false := by rw [hb1, hb2]; rfl
          have hor2 : (Op.bytesLess q2.toList q1.toList || q2.toList == q1.toList) = false := by rw [hb1, hb3]; rfl
          have hnl : (!(Op.bytesLess q1.toList q2.toList)) = false := by rw [hbl]; rfl
          have HX : Hid (∀ n, Hp w (wr.drewN n) [radT A D L, rowT 47 2 (.slice (some ⟨gb, 0, none⟩) Q.length qc) Q.length (Pa.cellsM Q)]) := Lib.hid (fun n => H4.out.bel ⟨rfl, rfl, rfl, Nat.le_refl _, fun _ _ => rfl⟩)
          have HGe : Hid (i = p + 1) := Lib.hid hi.symm
          clear hi
          go_wp2_with fail
          go_big_quiet (fail)
          go_wp2_with fail
          go_roundg (gk - 1)
          case measure => have := HGe.out; omega
          case rel => exact ⟨i, by go_num, by have := HGe.out; omega, by omega, Lib.hid (HX.out _)⟩
        case neg =>
          have hic : ¬ (((p + 1 : Nat) : Int) < (Q.length : Int)) := by omega
          have hic2 : ¬ ((p : Int) + 1 < (Q.length : Int)) := by omega
          clear hp hg
          have HDl2 := HDl.out
          have HW := Lib.hid (rwalk H4.out (Below.refl _ _) a (by omega) (by omega))
          go_wp2_with fail
          refine HW.out.mono ?_; rintro en w4 ⟨v, Qa, rfl, hA, h5⟩
          obtain ⟨aa, ac, rfl, -, -, haa⟩ := h5.rowForm
          have HW2 := Lib.hid (rwalk (h5.pull' 1 rfl rfl) (Below.refl _ _) b (by omega) (by omega))
          clear h5 HW
          go_wp2_with fail
          refine HW2.out.mono ?_; rintro en w5 ⟨v, Qb, rfl, hB, h6⟩
          obtain ⟨ba, bc, rfl, -, -, hba⟩ := h6.rowForm
          have H6 : Hid (Hp w w5 [radT A D L, rowT 47 2 (.slice ba Qb.length bc) Qb.length (Pa.cellsM Qb), rowT 47 2 (.slice aa Qa.length ac) Qa.length (Pa.cellsM Qa), rowT 47 2 (.slice qa Q.length qc) Q.length (Pa.cellsM Q)]) := Lib.hid (h6.pull' 1 rfl rfl)
          have HAp := Lib.hid (fun i (hi : i < Qa.length) => ((hA.mem Qa[i]).1 (List.getElem_mem hi)).2)
          have HBp := Lib.hid (fun i (hi : i < Qb.length) => ((hB.mem Qb[i]).1 (List.getElem_mem hi)).2)
          have HLn : Hid (Qa.length ≤ 40 ∧ Qb.length ≤ 40) := by
            obtain ⟨t, vs, m, -, ia⟩ := rad_at H6.out
            have e1 := hA.len' (fun K => (ia.dl K).1)
            have e2 := hB.len' (fun K => (ia.dl K).1)
            exact Lib.hid ⟨by omega, by omega⟩
          have HAa := Lib.hid haa
          have HBa := Lib.hid hba
          clear h6 HW2 hA hB haa hba H4
          go_upto_region 20 with fail
          by_cases hab : a.size ≤ b.size
          case pos =>
            have habc : (a.size : Int) ≤ (b.size : Int) := by omega
            have ha0 : (0 : Int) ≤ (a.size : Int) := by omega
            obtain ⟨bp, hbp⟩ : ∃ bp, b.extract 0 a.size = bp := ⟨_, rfl⟩
            by_cases he : bp = a
            case pos =>
              have hq : (bp.toList == a.toList) = true := by rw [he]; exact beq_self_eq_true _
              have hqn : (!(bp.toList == a.toList)) = false := by rw [hq]; rfl
              have hlt : ¬ (b.size : Int) < (a.size : Int) := by omega
              have HAB : Hid (∀ x y : ByteArray, a.data.toList <+: x.data.toList → b.data.toList <+: y.data.toList → True) := Lib.hid (fun _ _ _ _ => trivial)
              clear he
              go_upto_region 21 with fail
              go_wp2_with fail
              go_loopg [16, 18, 107] (Qa.length + 1) (fun g _ _ vi wr => ∃ i : Nat, vi = .int .i64 i ∧ i ≤ Qa.length ∧ Qa.length - i ≤ g ∧ Hid (Hp w wr [radT A D L, rowT 47 2 (.slice ba Qb.length bc) Qb.length (Pa.cellsM Qb), rowT 47 2 (.slice aa Qa.length ac) Qa.length (Pa.cellsM Qa), rowT 47 2 (.slice qa Q.length qc) Q.length (Pa.cellsM Q)]))
              case atStart => exact ⟨0, rfl, by omega, by omega, H6⟩
              case round =>
                obtain ⟨i, rfl, hi, hg, H7⟩ := hrel
                clear H6
                by_cases hil : i < Qa.length
                case pos =>
                  have hic : (i : Int) < (Qa.length : Int) := by omega
                  obtain ⟨hla, hlb⟩ := HLn.out
                  obtain ⟨ga, rfl⟩ := HAa.out (by omega)
                  obtain ⟨d0, d1⟩ := mk_cell (H7.out.pull' 2 rfl rfl) hil
                  have HK1 := Lib.hid (HAp.out i hil)
                  generalize Qa[i].1 = k1 at *
                  generalize Qa[i].2 = z1 at *
                  have hH8 := H7.out.cellsNew [.string k1, .int .i64 z1] 47
                  have H8 : Hid (Hp w (wr.alloc (.cells #[.string k1, .int .i64 z1] 47)) (cellsT wr.heap.size [.string k1, .int .i64 z1] :: [radT A D L, rowT 47 2 (.slice ba Qb.length bc) Qb.length (Pa.cellsM Qb), rowT 47 2 (.slice (some ⟨ga, 0, none⟩) Qa.length ac) Qa.length (Pa.cellsM Qa), rowT 47 2 (.slice qa Q.length qc) Q.length (Pa.cellsM Q)])) := Lib.hid hH8
                  clear hH8 H7
                  obtain ⟨gO, hgO⟩ : ∃ g, gk = g := ⟨_, rfl⟩
                  go_upto_region 24 with fail
                  clear d0 d1
                  generalize (wr.alloc (.cells #[.string k1, .int .i64 z1] 47)) = w7 at *
                  generalize wr.heap.size = bx at *
                  go_wp2_with fail
                  go_loopg [18, 113] (Qb.length + 1) (fun g _ vj wr2 => ∃ j : Nat, vj = .int .i64 j ∧ j ≤ Qb.length ∧ Qb.length - j ≤ g ∧ Hid (Hp w wr2 (cellsT bx [.string k1, .int .i64 z1] :: [radT A D L, rowT 47 2 (.slice ba Qb.length bc) Qb.length (Pa.cellsM Qb), rowT 47 2 (.slice (some ⟨ga, 0, none⟩) Qa.length ac) Qa.length (Pa.cellsM Qa), rowT 47 2 (.slice qa Q.length qc) Q.length (Pa.cellsM Q)])))
                  case atStart => exact ⟨0, rfl, by omega, by omega, H8⟩
                  case round =>
                    obtain ⟨j, rfl, hj, hgj, H9⟩ := hrel
                    clear H8
                    by_cases hjl : j < Qb.length
                    case pos =>
                      have hjc : (j : Int) < (Qb.length : Int) := by omega
                      obtain ⟨gb, rfl⟩ := HBa.out (by omega)
                      obtain ⟨d0, d1⟩ := mk_cell (H9.out.pull' 2 rfl rfl) hjl
                      have hkk := HAB.out k1 Qb[j].1 HK1.out (HBp.out j hjl)
                      generalize Qb[j].1 = k2 at *
                      generalize Qb[j].2 = z2 at *
                      have x0 : ∀ O, (wr.alloc O).cell? ⟨bx, 0, none⟩ = some (.string k1) := fun O => (H9.out.bel (Sp.bbox O)).cell 0 rfl
                      have HX : Hid (∀ O, Hp w (wr.alloc O) (cellsT bx [.string k1, .int .i64 z1] :: [radT A D L, rowT 47 2 (.slice (some ⟨gb, 0, none⟩) Qb.length bc) Qb.length (Pa.cellsM Qb), rowT 47 2 (.slice (some ⟨ga, 0, none⟩) Qa.length ac) Qa.length (Pa.cellsM Qa), rowT 47 2 (.slice qa Q.length qc) Q.length (Pa.cellsM Q)])) := Lib.hid (fun O => H9.out.bel (Sp.bbox O))
                      clear H9
                      go_wp2_with fail
                      go_roundg (gk - 1)
                      case measure => omega
                      case rel => exact ⟨j + 1, by go_num, by omega, by omega, Lib.hid (HX.out _)⟩
                    case neg =>
                      have hjc : ¬ (j : Int) < (Qb.length : Int) := by omega
                      have H10 := Lib.hid H9.out.drop
                      clear H9
                      go_wp2_with fail
                      go_roundg (gO - 1)
                      case measure => omega
                      case rel => exact ⟨i + 1, (by go_num), (by omega), (by have := hgO; omega), H10⟩
                case neg =>
                  have hic : ¬ (i : Int) < (Qa.length : Int) := by omega
                  clear hi hg
                  obtain ⟨X, hX, n1⟩ := rnodesE H7.out (Below.refl _ _)
                  have HN1 := Lib.hid n1
                  have HX1 := Lib.hid hX
                  have HQl : Hid (Q.length ≤ 40) := Lib.hid (by rw [← (HF.out D L (fun _ => rfl) _ _ H7.out).2]; exact HDl2)
                  clear n1 hX
                  go_wp2_with fail
                  refine HN1.out.mono ?_; rintro en w6 ⟨rfl, rfl⟩
                  have HGe := Lib.hid (rget H7.out (Below.refl _ _) a (by omega))
                  obtain ⟨lv, hlv⟩ : ∃ lv, L a.data.toList = lv := ⟨_, rfl⟩
                  have HLv := Lib.hid hlv
                  rw [hlv] at HGe
                  clear hlv
                  cases lv with
                  | some z =>
                    have HGe : Hid (Calls Try.prog 17 #[.pointer (some ⟨A, 0, none⟩), .string a] wr fun e w' => e = .returned (.tuple #[.int .i64 z, .bool true]) ∧ Below wr.heap.size wr w') := HGe
                    go_wp2_with fail
                    refine HGe.out.mono ?_; rintro en w7 ⟨rfl, hb⟩
                    have H8 := Lib.hid (H7.out.bel hb)
                    clear hb HGe H7
                    obtain ⟨he1, he2⟩ := HF.out (D) (L) (fun _ => rfl) _ _ H8.out
                    have HLe := Lib.hid he2
                    obtain ⟨X2, hX2, n2⟩ := rnodesE H8.out (Below.refl _ _)
                    rw [← HX1.out.len hX2 he1] at n2
                    have HN2 := Lib.hid n2
                    clear n2 hX2 he1 he2
                    go_wp2_with fail
                    refine HN2.out.mono ?_; rintro en w9 ⟨rfl, rfl⟩
                    have HW := Lib.hid (rwalk H8.out (Below.refl _ _) ⟨#[]⟩ (by decide) (by rw [HLe.out]; have := HQl.out; omega))
                    go_wp2_with fail
                    refine HW.out.mono ?_; rintro en w9 ⟨v, Q2, rfl, hQ2, h9⟩
                    obtain ⟨a9, c9, rfl, -, -, -⟩ := h9.rowForm
                    obtain rfl : Q2 = Q := MkI.ext hQ2 HQ.out (fun K => rfl)
                    have H9 := Lib.hid h9
                    have HLn := Lib.hid (rlen (h9.pull' 1 rfl rfl) (Below.refl _ _))
                    rw [HLe.out] at HLn
                    clear h9 HW hQ2
                    go_wp2_with fail
                    refine HLn.out.mono ?_; rintro en w10 ⟨rfl, rfl⟩
                    go_wp2_with fail
                    go_ret
                    exact ⟨by first | rfl | simp, H9.out.below⟩
                  | none =>
                    have HGe : Hid (Calls Try.prog 17 #[.pointer (some ⟨A, 0, none⟩), .string a] wr fun e w' => e = .returned (.tuple #[.int .i64 0, .bool false]) ∧ Below wr.heap.size wr w') := HGe
                    go_wp2_with fail
                    refine HGe.out.mono ?_; rintro en w7 ⟨rfl, hb⟩
                    have HP := Lib.hid (rput (H7.out.bel hb) (Below.refl _ _) a 5 (by omega) (by omega))
                    clear hb HGe H7
                    go_wp2_with fail
                    refine HP.out.mono ?_; rintro en w8 ⟨rfl, h8⟩
                    have hd2 := insT_len a.data.toList D
                    have HQd := Lib.hid (rdrop h8 (Below.refl _ _) a (by omega) (by omega))
                    clear h8 HP
                    go_wp2_with fail
                    refine HQd.out.mono ?_; rintro en w9 ⟨rfl, h9⟩
                    have hL2 : ∀ K, L K = dropL a.data.toList (updL a.data.toList 5 L) K := fun K => by
                      unfold dropL updL
                      by_cases e : K = a.data.toList
                      · rw [if_pos e, e]; exact HLv.out
                      · rw [if_neg e, if_neg e]
                    have HL2 := Lib.hid hL2
                    obtain ⟨D2, hD2⟩ : ∃ D2, delT a.data.toList (insT a.data.toList D) = D2 := ⟨_, rfl⟩
                    obtain ⟨L2, hL2e⟩ : ∃ L2, dropL a.data.toList (updL a.data.toList 5 L) = L2 := ⟨_, rfl⟩
                    rw [hL2e] at HL2
                    rw [hD2, hL2e] at h9
                    have H8 := Lib.hid h9
                    clear h9 HQd hL2 hL2e hD2 hd2
                    obtain ⟨he1, he2⟩ := HF.out (D2) (L2) HL2.out _ _ H8.out
                    have HLe := Lib.hid he2
                    obtain ⟨X2, hX2, n2⟩ := rnodesE H8.out (Below.refl _ _)
                    rw [← HX1.out.len hX2 he1] at n2
                    have HN2 := Lib.hid n2
                    clear n2 hX2 he1 he2
                    go_wp2_with fail
                    refine HN2.out.mono ?_; rintro en w9 ⟨rfl, rfl⟩
                    have HW := Lib.hid (rwalk H8.out (Below.refl _ _) ⟨#[]⟩ (by decide) (by rw [HLe.out]; have := HQl.out; omega))
                    go_wp2_with fail
                    refine HW.out.mono ?_; rintro en w9 ⟨v, Q2, rfl, hQ2, h9⟩
                    obtain ⟨a9, c9, rfl, -, -, -⟩ := h9.rowForm
                    obtain rfl : Q2 = Q := MkI.ext hQ2 HQ.out (fun K => (HL2.out K).symm)
                    have H9 := Lib.hid h9
                    have HLn := Lib.hid (rlen (h9.pull' 1 rfl rfl) (Below.refl _ _))
                    rw [HLe.out] at HLn
                    clear h9 HW hQ2
                    go_wp2_with fail
                    refine HLn.out.mono ?_; rintro en w10 ⟨rfl, rfl⟩
                    go_wp2_with fail
                    go_ret
                    exact ⟨by first | rfl | simp, H9.out.below⟩
            case neg =>
              have hq : (bp.toList == a.toList) = false := beq_eq_false_iff_ne.2 fun e => he (ba_eq' e)
              have hqn : (!(bp.toList == a.toList)) = true := by rw [hq]; rfl
              have HAB : Hid (∀ x y : ByteArray, a.data.toList <+: x.data.toList → b.data.toList <+: y.data.toList → (x.toList == y.toList) = false) := Lib.hid (fun x y hx hy => beq_eq_false_iff_ne.2 fun e => he (by
                rw [ba_eq' e] at hx
                rw [← hbp]
                exact ba_eq2 (by rw [ext_take]; exact (apart_no (by exact hab) hx hy).symm)))
              clear he
              go_upto_region 21 with fail
              go_wp2_with fail
              go_loopg [16, 18, 107] (Qa.length + 1) (fun g _ _ vi wr => ∃ i : Nat, vi = .int .i64 i ∧ i ≤ Qa.length ∧ Qa.length - i ≤ g ∧ Hid (Hp w wr [radT A D L, rowT 47 2 (.slice ba Qb.length bc) Qb.length (Pa.cellsM Qb), rowT 47 2 (.slice aa Qa.length ac) Qa.length (Pa.cellsM Qa), rowT 47 2 (.slice qa Q.length qc) Q.length (Pa.cellsM Q)]))
              case atStart => exact ⟨0, rfl, by omega, by omega, H6⟩
              case round =>
                obtain ⟨i, rfl, hi, hg, H7⟩ := hrel
                clear H6
                by_cases hil : i < Qa.length
                case pos =>
                  have hic : (i : Int) < (Qa.length : Int) := by omega
                  obtain ⟨hla, hlb⟩ := HLn.out
                  obtain ⟨ga, rfl⟩ := HAa.out (by omega)
                  obtain ⟨d0, d1⟩ := mk_cell (H7.out.pull' 2 rfl rfl) hil
                  have HK1 := Lib.hid (HAp.out i hil)
                  generalize Qa[i].1 = k1 at *
                  generalize Qa[i].2 = z1 at *
                  have hH8 := H7.out.cellsNew [.string k1, .int .i64 z1] 47
                  have H8 : Hid (Hp w (wr.alloc (.cells #[.string k1, .int .i64 z1] 47)) (cellsT wr.heap.size [.string k1, .int .i64 z1] :: [radT A D L, rowT 47 2 (.slice ba Qb.length bc) Qb.length (Pa.cellsM Qb), rowT 47 2 (.slice (some ⟨ga, 0, none⟩) Qa.length ac) Qa.length (Pa.cellsM Qa), rowT 47 2 (.slice qa Q.length qc) Q.length (Pa.cellsM Q)])) := Lib.hid hH8
                  clear hH8 H7
                  obtain ⟨gO, hgO⟩ : ∃ g, gk = g := ⟨_, rfl⟩
                  go_upto_region 24 with fail
                  clear d0 d1
                  generalize (wr.alloc (.cells #[.string k1, .int .i64 z1] 47)) = w7 at *
                  generalize wr.heap.size = bx at *
                  go_wp2_with fail
                  go_loopg [18, 113] (Qb.length + 1) (fun g _ vj wr2 => ∃ j : Nat, vj = .int .i64 j ∧ j ≤ Qb.length ∧ Qb.length - j ≤ g ∧ Hid (Hp w wr2 (cellsT bx [.string k1, .int .i64 z1] :: [radT A D L, rowT 47 2 (.slice ba Qb.length bc) Qb.length (Pa.cellsM Qb), rowT 47 2 (.slice (some ⟨ga, 0, none⟩) Qa.length ac) Qa.length (Pa.cellsM Qa), rowT 47 2 (.slice qa Q.length qc) Q.length (Pa.cellsM Q)])))
                  case atStart => exact ⟨0, rfl, by omega, by omega, H8⟩
                  case round =>
                    obtain ⟨j, rfl, hj, hgj, H9⟩ := hrel
                    clear H8
                    by_cases hjl : j < Qb.length
                    case pos =>
                      have hjc : (j : Int) < (Qb.length : Int) := by omega
                      obtain ⟨gb, rfl⟩ := HBa.out (by omega)
                      obtain ⟨d0, d1⟩ := mk_cell (H9.out.pull' 2 rfl rfl) hjl
                      have hkk := HAB.out k1 Qb[j].1 HK1.out (HBp.out j hjl)
                      generalize Qb[j].1 = k2 at *
                      generalize Qb[j].2 = z2 at *
                      have x0 : ∀ O, (wr.alloc O).cell? ⟨bx, 0, none⟩ = some (.string k1) := fun O => (H9.out.bel (Sp.bbox O)).cell 0 rfl
                      have HX : Hid (∀ O, Hp w (wr.alloc O) (cellsT bx [.string k1, .int .i64 z1] :: [radT A D L, rowT 47 2 (.slice (some ⟨gb, 0, none⟩) Qb.length bc) Qb.length (Pa.cellsM Qb), rowT 47 2 (.slice (some ⟨ga, 0, none⟩) Qa.length ac) Qa.length (Pa.cellsM Qa), rowT 47 2 (.slice qa Q.length qc) Q.length (Pa.cellsM Q)])) := Lib.hid (fun O => H9.out.bel (Sp.bbox O))
                      clear H9
                      go_wp2_with fail
                      go_roundg (gk - 1)
                      case measure => omega
                      case rel => exact ⟨j + 1, by go_num, by omega, by omega, Lib.hid (HX.out _)⟩
                    case neg =>
                      have hjc : ¬ (j : Int) < (Qb.length : Int) := by omega
                      have H10 := Lib.hid H9.out.drop
                      clear H9
                      go_wp2_with fail
                      go_roundg (gO - 1)
                      case measure => omega
                      case rel => exact ⟨i + 1, (by go_num), (by omega), (by have := hgO; omega), H10⟩
                case neg =>
                  have hic : ¬ (i : Int) < (Qa.length : Int) := by omega
                  clear hi hg
                  obtain ⟨X, hX, n1⟩ := rnodesE H7.out (Below.refl _ _)
                  have HN1 := Lib.hid n1
                  have HX1 := Lib.hid hX
                  have HQl : Hid (Q.length ≤ 40) := Lib.hid (by rw [← (HF.out D L (fun _ => rfl) _ _ H7.out).2]; exact HDl2)
                  clear n1 hX
                  go_wp2_with fail
                  refine HN1.out.mono ?_; rintro en w6 ⟨rfl, rfl⟩
                  have HGe := Lib.hid (rget H7.out (Below.refl _ _) a (by omega))
                  obtain ⟨lv, hlv⟩ : ∃ lv, L a.data.toList = lv := ⟨_, rfl⟩
                  have HLv := Lib.hid hlv
                  rw [hlv] at HGe
                  clear hlv
                  cases lv with
                  | some z =>
                    have HGe : Hid (Calls Try.prog 17 #[.pointer (some ⟨A, 0, none⟩), .string a] wr fun e w' => e = .returned (.tuple #[.int .i64 z, .bool true]) ∧ Below wr.heap.size wr w') := HGe
                    go_wp2_with fail
                    refine HGe.out.mono ?_; rintro en w7 ⟨rfl, hb⟩
                    have H8 := Lib.hid (H7.out.bel hb)
                    clear hb HGe H7
                    obtain ⟨he1, he2⟩ := HF.out (D) (L) (fun _ => rfl) _ _ H8.out
                    have HLe := Lib.hid he2
                    obtain ⟨X2, hX2, n2⟩ := rnodesE H8.out (Below.refl _ _)
                    rw [← HX1.out.len hX2 he1] at n2
                    have HN2 := Lib.hid n2
                    clear n2 hX2 he1 he2
                    go_wp2_with fail
                    refine HN2.out.mono ?_; rintro en w9 ⟨rfl, rfl⟩
                    have HW := Lib.hid (rwalk H8.out (Below.refl _ _) ⟨#[]⟩ (by decide) (by rw [HLe.out]; have := HQl.out; omega))
                    go_wp2_with fail
                    refine HW.out.mono ?_; rintro en w9 ⟨v, Q2, rfl, hQ2, h9⟩
                    obtain ⟨a9, c9, rfl, -, -, -⟩ := h9.rowForm
                    obtain rfl : Q2 = Q := MkI.ext hQ2 HQ.out (fun K => rfl)
                    have H9 := Lib.hid h9
                    have HLn := Lib.hid (rlen (h9.pull' 1 rfl rfl) (Below.refl _ _))
                    rw [HLe.out] at HLn
                    clear h9 HW hQ2
                    go_wp2_with fail
                    refine HLn.out.mono ?_; rintro en w10 ⟨rfl, rfl⟩
                    go_wp2_with fail
                    go_ret
                    exact ⟨by first | rfl | simp, H9.out.below⟩
                  | none =>
                    have HGe : Hid (Calls Try.prog 17 #[.pointer (some ⟨A, 0, none⟩), .string a] wr fun e w' => e = .returned (.tuple #[.int .i64 0, .bool false]) ∧ Below wr.heap.size wr w') := HGe
                    go_wp2_with fail
                    refine HGe.out.mono ?_; rintro en w7 ⟨rfl, hb⟩
                    have HP := Lib.hid (rput (H7.out.bel hb) (Below.refl _ _) a 5 (by omega) (by omega))
                    clear hb HGe H7
                    go_wp2_with fail
                    refine HP.out.mono ?_; rintro en w8 ⟨rfl, h8⟩
                    have hd2 := insT_len a.data.toList D
                    have HQd := Lib.hid (rdrop h8 (Below.refl _ _) a (by omega) (by omega))
                    clear h8 HP
                    go_wp2_with fail
                    refine HQd.out.mono ?_; rintro en w9 ⟨rfl, h9⟩
                    have hL2 : ∀ K, L K = dropL a.data.toList (updL a.data.toList 5 L) K := fun K => by
                      unfold dropL updL
                      by_cases e : K = a.data.toList
                      · rw [if_pos e, e]; exact HLv.out
                      · rw [if_neg e, if_neg e]
                    have HL2 := Lib.hid hL2
                    obtain ⟨D2, hD2⟩ : ∃ D2, delT a.data.toList (insT a.data.toList D) = D2 := ⟨_, rfl⟩
                    obtain ⟨L2, hL2e⟩ : ∃ L2, dropL a.data.toList (updL a.data.toList 5 L) = L2 := ⟨_, rfl⟩
                    rw [hL2e] at HL2
                    rw [hD2, hL2e] at h9
                    have H8 := Lib.hid h9
                    clear h9 HQd hL2 hL2e hD2 hd2
                    obtain ⟨he1, he2⟩ := HF.out (D2) (L2) HL2.out _ _ H8.out
                    have HLe := Lib.hid he2
                    obtain ⟨X2, hX2, n2⟩ := rnodesE H8.out (Below.refl _ _)
                    rw [← HX1.out.len hX2 he1] at n2
                    have HN2 := Lib.hid n2
                    clear n2 hX2 he1 he2
                    go_wp2_with fail
                    refine HN2.out.mono ?_; rintro en w9 ⟨rfl, rfl⟩
                    have HW := Lib.hid (rwalk H8.out (Below.refl _ _) ⟨#[]⟩ (by decide) (by rw [HLe.out]; have := HQl.out; omega))
                    go_wp2_with fail
                    refine HW.out.mono ?_; rintro en w9 ⟨v, Q2, rfl, hQ2, h9⟩
                    obtain ⟨a9, c9, rfl, -, -, -⟩ := h9.rowForm
                    obtain rfl : Q2 = Q := MkI.ext hQ2 HQ.out (fun K => (HL2.out K).symm)
                    have H9 := Lib.hid h9
                    have HLn := Lib.hid (rlen (h9.pull' 1 rfl rfl) (Below.refl _ _))
                    rw [HLe.out] at HLn
                    clear h9 HW hQ2
                    go_wp2_with fail
                    refine HLn.out.mono ?_; rintro en w10 ⟨rfl, rfl⟩
                    go_wp2_with fail
                    go_ret
                    exact ⟨by first | rfl | simp, H9.out.below⟩
          case neg =>
            have habc : ¬ (a.size : Int) ≤ (b.size : Int) := by omega
            have habd : (b.size : Int) < (a.size : Int) := by omega
            have habe : (b.size : Int) ≤ (a.size : Int) := by omega
            have hb0 : (0 : Int) ≤ (b.size : Int) := by omega
            obtain ⟨bp, hbp⟩ : ∃ bp, a.extract 0 b.size = bp := ⟨_, rfl⟩
            by_cases he : bp = b
            case pos =>
              have hq : (bp.toList == b.toList) = true := by rw [he]; exact beq_self_eq_true _
              have hqn : (!(bp.toList == b.toList)) = false := by rw [hq]; rfl
              have HAB : Hid (∀ x y : ByteArray, a.data.toList <+: x.data.toList → b.data.toList <+: y.data.toList → True) := Lib.hid (fun _ _ _ _ => trivial)
              clear he
              go_upto_region 21 with fail
              go_wp2_with fail
              go_loopg [16, 18, 107] (Qa.length + 1) (fun g _ _ vi wr => ∃ i : Nat, vi = .int .i64 i ∧ i ≤ Qa.length ∧ Qa.length - i ≤ g ∧ Hid (Hp w wr [radT A D L, rowT 47 2 (.slice ba Qb.length bc) Qb.length (Pa.cellsM Qb), rowT 47 2 (.slice aa Qa.length ac) Qa.length (Pa.cellsM Qa), rowT 47 2 (.slice qa Q.length qc) Q.length (Pa.cellsM Q)]))
              case atStart => exact ⟨0, rfl, by omega, by omega, H6⟩
              case round =>
                obtain ⟨i, rfl, hi, hg, H7⟩ := hrel
                clear H6
                by_cases hil : i < Qa.length
                case pos =>
                  have hic : (i : Int) < (Qa.length : Int) := by omega
                  obtain ⟨hla, hlb⟩ := HLn.out
                  obtain ⟨ga, rfl⟩ := HAa.out (by omega)
                  obtain ⟨d0, d1⟩ := mk_cell (H7.out.pull' 2 rfl rfl) hil
                  have HK1 := Lib.hid (HAp.out i hil)
                  generalize Qa[i].1 = k1 at *
                  generalize Qa[i].2 = z1 at *
                  have hH8 := H7.out.cellsNew [.string k1, .int .i64 z1] 47
                  have H8 : Hid (Hp w (wr.alloc (.cells #[.string k1, .int .i64 z1] 47)) (cellsT wr.heap.size [.string k1, .int .i64 z1] :: [radT A D L, rowT 47 2 (.slice ba Qb.length bc) Qb.length (Pa.cellsM Qb), rowT 47 2 (.slice (some ⟨ga, 0, none⟩) Qa.length ac) Qa.length (Pa.cellsM Qa), rowT 47 2 (.slice qa Q.length qc) Q.length (Pa.cellsM Q)])) := Lib.hid hH8
                  clear hH8 H7
                  obtain ⟨gO, hgO⟩ : ∃ g, gk = g := ⟨_, rfl⟩
                  go_upto_region 24 with fail
                  clear d0 d1
                  generalize (wr.alloc (.cells #[.string k1, .int .i64 z1] 47)) = w7 at *
                  generalize wr.heap.size = bx at *
                  go_wp2_with fail
                  go_loopg [18, 113] (Qb.length + 1) (fun g _ vj wr2 => ∃ j : Nat, vj = .int .i64 j ∧ j ≤ Qb.length ∧ Qb.length - j ≤ g ∧ Hid (Hp w wr2 (cellsT bx [.string k1, .int .i64 z1] :: [radT A D L, rowT 47 2 (.slice ba Qb.length bc) Qb.length (Pa.cellsM Qb), rowT 47 2 (.slice (some ⟨ga, 0, none⟩) Qa.length ac) Qa.length (Pa.cellsM Qa), rowT 47 2 (.slice qa Q.length qc) Q.length (Pa.cellsM Q)])))
                  case atStart => exact ⟨0, rfl, by omega, by omega, H8⟩
                  case round =>
                    obtain ⟨j, rfl, hj, hgj, H9⟩ := hrel
                    clear H8
                    by_cases hjl : j < Qb.length
                    case pos =>
                      have hjc : (j : Int) < (Qb.length : Int) := by omega
                      obtain ⟨gb, rfl⟩ := HBa.out (by omega)
                      obtain ⟨d0, d1⟩ := mk_cell (H9.out.pull' 2 rfl rfl) hjl
                      have hkk := HAB.out k1 Qb[j].1 HK1.out (HBp.out j hjl)
                      generalize Qb[j].1 = k2 at *
                      generalize Qb[j].2 = z2 at *
                      have x0 : ∀ O, (wr.alloc O).cell? ⟨bx, 0, none⟩ = some (.string k1) := fun O => (H9.out.bel (Sp.bbox O)).cell 0 rfl
                      have HX : Hid (∀ O, Hp w (wr.alloc O) (cellsT bx [.string k1, .int .i64 z1] :: [radT A D L, rowT 47 2 (.slice (some ⟨gb, 0, none⟩) Qb.length bc) Qb.length (Pa.cellsM Qb), rowT 47 2 (.slice (some ⟨ga, 0, none⟩) Qa.length ac) Qa.length (Pa.cellsM Qa), rowT 47 2 (.slice qa Q.length qc) Q.length (Pa.cellsM Q)])) := Lib.hid (fun O => H9.out.bel (Sp.bbox O))
                      clear H9
                      go_wp2_with fail
                      go_roundg (gk - 1)
                      case measure => omega
                      case rel => exact ⟨j + 1, by go_num, by omega, by omega, Lib.hid (HX.out _)⟩
                    case neg =>
                      have hjc : ¬ (j : Int) < (Qb.length : Int) := by omega
                      have H10 := Lib.hid H9.out.drop
                      clear H9
                      go_wp2_with fail
                      go_roundg (gO - 1)
                      case measure => omega
                      case rel => exact ⟨i + 1, (by go_num), (by omega), (by have := hgO; omega), H10⟩
                case neg =>
                  have hic : ¬ (i : Int) < (Qa.length : Int) := by omega
                  clear hi hg
                  obtain ⟨X, hX, n1⟩ := rnodesE H7.out (Below.refl _ _)
                  have HN1 := Lib.hid n1
                  have HX1 := Lib.hid hX
                  have HQl : Hid (Q.length ≤ 40) := Lib.hid (by rw [← (HF.out D L (fun _ => rfl) _ _ H7.out).2]; exact HDl2)
                  clear n1 hX
                  go_wp2_with fail
                  refine HN1.out.mono ?_; rintro en w6 ⟨rfl, rfl⟩
                  have HGe := Lib.hid (rget H7.out (Below.refl _ _) a (by omega))
                  obtain ⟨lv, hlv⟩ : ∃ lv, L a.data.toList = lv := ⟨_, rfl⟩
                  have HLv := Lib.hid hlv
                  rw [hlv] at HGe
                  clear hlv
                  cases lv with
                  | some z =>
                    have HGe : Hid (Calls Try.prog 17 #[.pointer (some ⟨A, 0, none⟩), .string a] wr fun e w' => e = .returned (.tuple #[.int .i64 z, .bool true]) ∧ Below wr.heap.size wr w') := HGe
                    go_wp2_with fail
                    refine HGe.out.mono ?_; rintro en w7 ⟨rfl, hb⟩
                    have H8 := Lib.hid (H7.out.bel hb)
                    clear hb HGe H7
                    obtain ⟨he1, he2⟩ := HF.out (D) (L) (fun _ => rfl) _ _ H8.out
                    have HLe := Lib.hid he2
                    obtain ⟨X2, hX2, n2⟩ := rnodesE H8.out (Below.refl _ _)
                    rw [← HX1.out.len hX2 he1] at n2
                    have HN2 := Lib.hid n2
                    clear n2 hX2 he1 he2
                    go_wp2_with fail
                    refine HN2.out.mono ?_; rintro en w9 ⟨rfl, rfl⟩
                    have HW := Lib.hid (rwalk H8.out (Below.refl _ _) ⟨#[]⟩ (by decide) (by rw [HLe.out]; have := HQl.out; omega))
                    go_wp2_with fail
                    refine HW.out.mono ?_; rintro en w9 ⟨v, Q2, rfl, hQ2, h9⟩
                    obtain ⟨a9, c9, rfl, -, -, -⟩ := h9.rowForm
                    obtain rfl : Q2 = Q := MkI.ext hQ2 HQ.out (fun K => rfl)
                    have H9 := Lib.hid h9
                    have HLn := Lib.hid (rlen (h9.pull' 1 rfl rfl) (Below.refl _ _))
                    rw [HLe.out] at HLn
                    clear h9 HW hQ2
                    go_wp2_with fail
                    refine HLn.out.mono ?_; rintro en w10 ⟨rfl, rfl⟩
                    go_wp2_with fail
                    go_ret
                    exact ⟨by first | rfl | simp, H9.out.below⟩
                  | none =>
                    have HGe : Hid (Calls Try.prog 17 #[.pointer (some ⟨A, 0, none⟩), .string a] wr fun e w' => e = .returned (.tuple #[.int .i64 0, .bool false]) ∧ Below wr.heap.size wr w') := HGe
                    go_wp2_with fail
                    refine HGe.out.mono ?_; rintro en w7 ⟨rfl, hb⟩
                    have HP := Lib.hid (rput (H7.out.bel hb) (Below.refl _ _) a 5 (by omega) (by omega))
                    clear hb HGe H7
                    go_wp2_with fail
                    refine HP.out.mono ?_; rintro en w8 ⟨rfl, h8⟩
                    have hd2 := insT_len a.data.toList D
                    have HQd := Lib.hid (rdrop h8 (Below.refl _ _) a (by omega) (by omega))
                    clear h8 HP
                    go_wp2_with fail
                    refine HQd.out.mono ?_; rintro en w9 ⟨rfl, h9⟩
                    have hL2 : ∀ K, L K = dropL a.data.toList (updL a.data.toList 5 L) K := fun K => by
                      unfold dropL updL
                      by_cases e : K = a.data.toList
                      · rw [if_pos e, e]; exact HLv.out
                      · rw [if_neg e, if_neg e]
                    have HL2 := Lib.hid hL2
                    obtain ⟨D2, hD2⟩ : ∃ D2, delT a.data.toList (insT a.data.toList D) = D2 := ⟨_, rfl⟩
                    obtain ⟨L2, hL2e⟩ : ∃ L2, dropL a.data.toList (updL a.data.toList 5 L) = L2 := ⟨_, rfl⟩
                    rw [hL2e] at HL2
                    rw [hD2, hL2e] at h9
                    have H8 := Lib.hid h9
                    clear h9 HQd hL2 hL2e hD2 hd2
                    obtain ⟨he1, he2⟩ := HF.out (D2) (L2) HL2.out _ _ H8.out
                    have HLe := Lib.hid he2
                    obtain ⟨X2, hX2, n2⟩ := rnodesE H8.out (Below.refl _ _)
                    rw [← HX1.out.len hX2 he1] at n2
                    have HN2 := Lib.hid n2
                    clear n2 hX2 he1 he2
                    go_wp2_with fail
                    refine HN2.out.mono ?_; rintro en w9 ⟨rfl, rfl⟩
                    have HW := Lib.hid (rwalk H8.out (Below.refl _ _) ⟨#[]⟩ (by decide) (by rw [HLe.out]; have := HQl.out; omega))
                    go_wp2_with fail
                    refine HW.out.mono ?_; rintro en w9 ⟨v, Q2, rfl, hQ2, h9⟩
                    obtain ⟨a9, c9, rfl, -, -, -⟩ := h9.rowForm
                    obtain rfl : Q2 = Q := MkI.ext hQ2 HQ.out (fun K => (HL2.out K).symm)
                    have H9 := Lib.hid h9
                    have HLn := Lib.hid (rlen (h9.pull' 1 rfl rfl) (Below.refl _ _))
                    rw [HLe.out] at HLn
                    clear h9 HW hQ2
                    go_wp2_with fail
                    refine HLn.out.mono ?_; rintro en w10 ⟨rfl, rfl⟩
                    go_wp2_with fail
                    go_ret
                    exact ⟨by first | rfl | simp, H9.out.below⟩
            case neg =>
              have hq : (bp.toList == b.toList) = false := beq_eq_false_iff_ne.2 fun e => he (ba_eq' e)
              have hqn : (!(bp.toList == b.toList)) = true := by rw [hq]; rfl
              have HAB : Hid (∀ x y : ByteArray, a.data.toList <+: x.data.toList → b.data.toList <+: y.data.toList → (x.toList == y.toList) = false) := Lib.hid (fun x y hx hy => beq_eq_false_iff_ne.2 fun e => he (by
                rw [ba_eq' e] at hx
                rw [← hbp]
                exact ba_eq2 (by rw [ext_take]; exact (apart_no (by show b.size ≤ a.size; omega) hy hx).symm)))
              clear he
              go_upto_region 21 with fail
              go_wp2_with fail
              go_loopg [16, 18, 107] (Qa.length + 1) (fun g _ _ vi wr => ∃ i : Nat, vi = .int .i64 i ∧ i ≤ Qa.length ∧ Qa.length - i ≤ g ∧ Hid (Hp w wr [radT A D L, rowT 47 2 (.slice ba Qb.length bc) Qb.length (Pa.cellsM Qb), rowT 47 2 (.slice aa Qa.length ac) Qa.length (Pa.cellsM Qa), rowT 47 2 (.slice qa Q.length qc) Q.length (Pa.cellsM Q)]))
              case atStart => exact ⟨0, rfl, by omega, by omega, H6⟩
              case round =>
                obtain ⟨i, rfl, hi, hg, H7⟩ := hrel
                clear H6
                by_cases hil : i < Qa.length
                case pos =>
                  have hic : (i : Int) < (Qa.length : Int) := by omega
                  obtain ⟨hla, hlb⟩ := HLn.out
                  obtain ⟨ga, rfl⟩ := HAa.out (by omega)
                  obtain ⟨d0, d1⟩ := mk_cell (H7.out.pull' 2 rfl rfl) hil
                  have HK1 := Lib.hid (HAp.out i hil)
                  generalize Qa[i].1 = k1 at *
                  generalize Qa[i].2 = z1 at *
                  have hH8 := H7.out.cellsNew [.string k1, .int .i64 z1] 47
                  have H8 : Hid (Hp w (wr.alloc (.cells #[.string k1, .int .i64 z1] 47)) (cellsT wr.heap.size [.string k1, .int .i64 z1] :: [radT A D L, rowT 47 2 (.slice ba Qb.length bc) Qb.length (Pa.cellsM Qb), rowT 47 2 (.slice (some ⟨ga, 0, none⟩) Qa.length ac) Qa.length (Pa.cellsM Qa), rowT 47 2 (.slice qa Q.length qc) Q.length (Pa.cellsM Q)])) := Lib.hid hH8
                  clear hH8 H7
                  obtain ⟨gO, hgO⟩ : ∃ g, gk = g := ⟨_, rfl⟩
                  go_upto_region 24 with fail
                  clear d0 d1
                  generalize (wr.alloc (.cells #[.string k1, .int .i64 z1] 47)) = w7 at *
                  generalize wr.heap.size = bx at *
                  go_wp2_with fail
                  go_loopg [18, 113] (Qb.length + 1) (fun g _ vj wr2 => ∃ j : Nat, vj = .int .i64 j ∧ j ≤ Qb.length ∧ Qb.length - j ≤ g ∧ Hid (Hp w wr2 (cellsT bx [.string k1, .int .i64 z1] :: [radT A D L, rowT 47 2 (.slice ba Qb.length bc) Qb.length (Pa.cellsM Qb), rowT 47 2 (.slice (some ⟨ga, 0, none⟩) Qa.length ac) Qa.length (Pa.cellsM Qa), rowT 47 2 (.slice qa Q.length qc) Q.length (Pa.cellsM Q)])))
                  case atStart => exact ⟨0, rfl, by omega, by omega, H8⟩
                  case round =>
                    obtain ⟨j, rfl, hj, hgj, H9⟩ := hrel
                    clear H8
                    by_cases hjl : j < Qb.length
                    case pos =>
                      have hjc : (j : Int) < (Qb.length : Int) := by omega
                      obtain ⟨gb, rfl⟩ := HBa.out (by omega)
                      obtain ⟨d0, d1⟩ := mk_cell (H9.out.pull' 2 rfl rfl) hjl
                      have hkk := HAB.out k1 Qb[j].1 HK1.out (HBp.out j hjl)
                      generalize Qb[j].1 = k2 at *
                      generalize Qb[j].2 = z2 at *
                      have x0 : ∀ O, (wr.alloc O).cell? ⟨bx, 0, none⟩ = some (.string k1) := fun O => (H9.out.bel (Sp.bbox O)).cell 0 rfl
                      have HX : Hid (∀ O, Hp w (wr.alloc O) (cellsT bx [.string k1, .int .i64 z1] :: [radT A D L, rowT 47 2 (.slice (some ⟨gb, 0, none⟩) Qb.length bc) Qb.length (Pa.cellsM Qb), rowT 47 2 (.slice (some ⟨ga, 0, none⟩) Qa.length ac) Qa.length (Pa.cellsM Qa), rowT 47 2 (.slice qa Q.length qc) Q.length (Pa.cellsM Q)])) := Lib.hid (fun O => H9.out.bel (Sp.bbox O))
                      clear H9
                      go_wp2_with fail
                      go_roundg (gk - 1)
                      case measure => omega
                      case rel => exact ⟨j + 1, by go_num, by omega, by omega, Lib.hid (HX.out _)⟩
                    case neg =>
                      have hjc : ¬ (j : Int) < (Qb.length : Int) := by omega
                      have H10 := Lib.hid H9.out.drop
                      clear H9
                      go_wp2_with fail
                      go_roundg (gO - 1)
                      case measure => omega
                      case rel => exact ⟨i + 1, (by go_num), (by omega), (by have := hgO; omega), H10⟩
                case neg =>
                  have hic : ¬ (i : Int) < (Qa.length : Int) := by omega
                  clear hi hg
                  obtain ⟨X, hX, n1⟩ := rnodesE H7.out (Below.refl _ _)
                  have HN1 := Lib.hid n1
                  have HX1 := Lib.hid hX
                  have HQl : Hid (Q.length ≤ 40) := Lib.hid (by rw [← (HF.out D L (fun _ => rfl) _ _ H7.out).2]; exact HDl2)
                  clear n1 hX
                  go_wp2_with fail
                  refine HN1.out.mono ?_; rintro en w6 ⟨rfl, rfl⟩
                  have HGe := Lib.hid (rget H7.out (Below.refl _ _) a (by omega))
                  obtain ⟨lv, hlv⟩ : ∃ lv, L a.data.toList = lv := ⟨_, rfl⟩
                  have HLv := Lib.hid hlv
                  rw [hlv] at HGe
                  clear hlv
                  cases lv with
                  | some z =>
                    have HGe : Hid (Calls Try.prog 17 #[.pointer (some ⟨A, 0, none⟩), .string a] wr fun e w' => e = .returned (.tuple #[.int .i64 z, .bool true]) ∧ Below wr.heap.size wr w') := HGe
                    go_wp2_with fail
                    refine HGe.out.mono ?_; rintro en w7 ⟨rfl, hb⟩
                    have H8 := Lib.hid (H7.out.bel hb)
                    clear hb HGe H7
                    obtain ⟨he1, he2⟩ := HF.out (D) (L) (fun _ => rfl) _ _ H8.out
                    have HLe := Lib.hid he2
                    obtain ⟨X2, hX2, n2⟩ := rnodesE H8.out (Below.refl _ _)
                    rw [← HX1.out.len hX2 he1] at n2
                    have HN2 := Lib.hid n2
                    clear n2 hX2 he1 he2
                    go_wp2_with fail
                    refine HN2.out.mono ?_; rintro en w9 ⟨rfl, rfl⟩
                    have HW := Lib.hid (rwalk H8.out (Below.refl _ _) ⟨#[]⟩ (by decide) (by rw [HLe.out]; have := HQl.out; omega))
                    go_wp2_with fail
                    refine HW.out.mono ?_; rintro en w9 ⟨v, Q2, rfl, hQ2, h9⟩
                    obtain ⟨a9, c9, rfl, -, -, -⟩ := h9.rowForm
                    obtain rfl : Q2 = Q := MkI.ext hQ2 HQ.out (fun K => rfl)
                    have H9 := Lib.hid h9
                    have HLn := Lib.hid (rlen (h9.pull' 1 rfl rfl) (Below.refl _ _))
                    rw [HLe.out] at HLn
                    clear h9 HW hQ2
                    go_wp2_with fail
                    refine HLn.out.mono ?_; rintro en w10 ⟨rfl, rfl⟩
                    go_wp2_with fail
                    go_ret
                    exact ⟨by first | rfl | simp, H9.out.below⟩
                  | none =>
                    have HGe : Hid (Calls Try.prog 17 #[.pointer (some ⟨A, 0, none⟩), .string a] wr fun e w' => e = .returned (.tuple #[.int .i64 0, .bool false]) ∧ Below wr.heap.size wr w') := HGe
                    go_wp2_with fail
                    refine HGe.out.mono ?_; rintro en w7 ⟨rfl, hb⟩
                    have HP := Lib.hid (rput (H7.out.bel hb) (Below.refl _ _) a 5 (by omega) (by omega))
                    clear hb HGe H7
                    go_wp2_with fail
                    refine HP.out.mono ?_; rintro en w8 ⟨rfl, h8⟩
                    have hd2 := insT_len a.data.toList D
                    have HQd := Lib.hid (rdrop h8 (Below.refl _ _) a (by omega) (by omega))
                    clear h8 HP
                    go_wp2_with fail
                    refine HQd.out.mono ?_; rintro en w9 ⟨rfl, h9⟩
                    have hL2 : ∀ K, L K = dropL a.data.toList (updL a.data.toList 5 L) K := fun K => by
                      unfold dropL updL
                      by_cases e : K = a.data.toList
                      · rw [if_pos e, e]; exact HLv.out
                      · rw [if_neg e, if_neg e]
                    have HL2 := Lib.hid hL2
                    obtain ⟨D2, hD2⟩ : ∃ D2, delT a.data.toList (insT a.data.toList D) = D2 := ⟨_, rfl⟩
                    obtain ⟨L2, hL2e⟩ : ∃ L2, dropL a.data.toList (updL a.data.toList 5 L) = L2 := ⟨_, rfl⟩
                    rw [hL2e] at HL2
                    rw [hD2, hL2e] at h9
                    have H8 := Lib.hid h9
                    clear h9 HQd hL2 hL2e hD2 hd2
                    obtain ⟨he1, he2⟩ := HF.out (D2) (L2) HL2.out _ _ H8.out
                    have HLe := Lib.hid he2
                    obtain ⟨X2, hX2, n2⟩ := rnodesE H8.out (Below.refl _ _)
                    rw [← HX1.out.len hX2 he1] at n2
                    have HN2 := Lib.hid n2
                    clear n2 hX2 he1 he2
                    go_wp2_with fail
                    refine HN2.out.mono ?_; rintro en w9 ⟨rfl, rfl⟩
                    have HW := Lib.hid (rwalk H8.out (Below.refl _ _) ⟨#[]⟩ (by decide) (by rw [HLe.out]; have := HQl.out; omega))
                    go_wp2_with fail
                    refine HW.out.mono ?_; rintro en w9 ⟨v, Q2, rfl, hQ2, h9⟩
                    obtain ⟨a9, c9, rfl, -, -, -⟩ := h9.rowForm
                    obtain rfl : Q2 = Q := MkI.ext hQ2 HQ.out (fun K => (HL2.out K).symm)
                    have H9 := Lib.hid h9
                    have HLn := Lib.hid (rlen (h9.pull' 1 rfl rfl) (Below.refl _ _))
                    rw [HLe.out] at HLn
                    clear h9 HW hQ2
                    go_wp2_with fail
                    refine HLn.out.mono ?_; rintro en w10 ⟨rfl, rfl⟩
                    go_wp2_with fail
                    go_ret
                    exact ⟨by first | rfl | simp, H9.out.below⟩
end Go.Proofs.Ytedpbngfjjofhaa.Pb
