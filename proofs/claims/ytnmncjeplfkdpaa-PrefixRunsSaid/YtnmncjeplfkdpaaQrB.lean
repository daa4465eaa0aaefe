/- Layer 15's own Match, Of, Tree. Conditions: bounds. -/
import Derived.Test.YtnmncjeplfkdpaaQrA
import Derived.Test.YtnmncjeplfkdpaaQs1
import Derived.Test.YtnmncjeplfkdpaaPeB
namespace Go.Proofs.Ytnmncjeplfkdpaa.Qa
set_option linter.unusedVariables false
set_option linter.unusedSimpArgs false
open Go.ChangeShapes Go.WideShapes Go.ChangeAt Go.RowKit
open Ka
open Sp (Th Hp Stays All Ro roT cellsT rowT exT puT star)
open Ma (srt)
theorem mat_nil (key : ByteArray) : matP key [] = [] := up_ext (mat_up _ _) List.Pairwise.nil fun n => by
  rw [mat_mem]
  exact ⟨fun ⟨k, h, _⟩ => (nomatch h), fun h => (nomatch h)⟩
theorem mat_take {P : Pl} {key : ByteArray} {j : Nat} (hj : j < P.length) : matP key (P.take (j + 1)) = if Pa.begM key P[j].1 = true then withI P[j].2 (matP key (P.take j)) else matP key (P.take j) := by
  have hm : ∀ n, n ∈ matP key (P.take (j + 1)) ↔ n ∈ matP key (P.take j) ∨ (n = P[j].2 ∧ Pa.begM key P[j].1 = true) := fun n => by
    rw [mat_mem, mat_mem, ← List.take_append_getElem hj]
    constructor
    · rintro ⟨k, h1, h2⟩
      rcases List.mem_append.1 h1 with h | h
      · exact .inl ⟨k, h, h2⟩
      · rw [List.mem_singleton] at h
        rw [← h]
        exact .inr ⟨rfl, (Pb.begM_pre _ _).2 h2⟩
    · rintro (⟨k, h1, h2⟩ | ⟨h1, h2⟩)
      · exact ⟨k, List.mem_append.2 (.inl h1), h2⟩
      · exact ⟨P[j].1, List.mem_append.2 (.inr (by rw [h1]; exact List.mem_singleton.2 rfl)), (Pb.begM_pre _ _).1 h2⟩
  split
  · rename_i h
    refine up_ext (mat_up _ _) (up_with (mat_up _ _)) fun n => ?_
    rw [hm, mem_with]
    exact ⟨fun hh => hh.elim .inr fun hh => .inl hh.1, fun hh => hh.elim (fun hh => .inr ⟨hh, h⟩) .inl⟩
  · rename_i h
    refine up_ext (mat_up _ _) (mat_up _ _) fun n => ?_
    rw [hm]
    exact ⟨fun hh => hh.elim id fun hh => absurd hh.2 h, .inl⟩
theorem mat_len (key : ByteArray) (P : Pl) : (matP key P).length ≤ P.length := by
  have := ids_sub (up_nd (mat_up key P)) (m := P.map (·.2)) fun n hn => by
    obtain ⟨k, h1, -⟩ := (mat_mem key P n).1 hn
    exact List.mem_map.2 ⟨(k, n), h1, rfl⟩
  rwa [List.length_map] at this
section
variable {o w w' wb : World} {l : List Th} {P : Pl} {k : ByteArray} {n : Int} {g c : Nat}
set_option maxHeartbeats 8000000 in
set_option maxRecDepth 100000 in
theorem rmatch_calls (h : Hp o w (rowP (.slice (some ⟨g, 0, none⟩) P.length c) P :: l)) (hw : Below w.heap.size w wb) (hP : P.length ≤ 90000) (key : ByteArray) :
    Calls Try.prog 18 #[.slice (some ⟨g, 0, none⟩) P.length c, .string key] wb fun e w' => ∃ v, e = .returned v ∧ Hp o w' (rowI v (matP key P) :: rowP (.slice (some ⟨g, 0, none⟩) P.length c) P :: l) := by
  have H0 : Hid (Hp o (wb.alloc (.cells #[] 3)) (rowI (.slice (some ⟨wb.heap.size, 0, none⟩) 0 0) (matP key (P.take 0)) :: rowP (.slice (some ⟨g, 0, none⟩) P.length c) P :: l)) := Lib.hid (by
    rw [List.take_zero, mat_nil]
    exact rowI_new (h.bel hw))
  clear h hw
  go_enter Try.func18, Try.ntmps18
  go_wp2_with fail
  go_loopg [5, 7, 11] (P.length + 1) (fun gg v5 _ vi wr => ∃ j : Nat, vi = .int .i64 j ∧ j ≤ P.length ∧ P.length - j ≤ gg ∧ Hid (Hp o wr (rowI v5 (matP key (P.take j)) :: rowP (.slice (some ⟨g, 0, none⟩) P.length c) P :: l)))
  case atStart => exact ⟨0, rfl, by omega, by omega, H0⟩
  case round =>
    obtain ⟨j, rfl, hj, hg, HH⟩ := hrel
    clear H0
    by_cases hjl : j < P.length
    case pos =>
      have hjc : (j : Int) < (P.length : Int) := by omega
      obtain ⟨d0, d1⟩ := rowP_at (HH.out.pull 1 rfl) hjl
      have HT := Lib.hid (mat_take (key := key) hjl)
      have HU := Lib.hid (mat_up key (P.take j))
      have HL := Lib.hid (mat_len key (P.take j))
      generalize matP key (P.take j) = D at *
      obtain ⟨D2, hD2⟩ : ∃ D2, matP key (P.take (j + 1)) = D2 := ⟨_, rfl⟩
      rw [hD2] at HT
      have HD2 := Lib.hid hD2
      clear hD2
      generalize P[j] = q at *
      obtain ⟨x, z⟩ := q
      simp only at d0 d1 HT
      have H4 := Lib.hid (HH.out.cellsNew [.string x, .int .i64 z] 58)
      have H4 : Hid (Hp o (wr.alloc (.cells #[.string x, .int .i64 z] 58)) (cellsT wr.heap.size [.string x, .int .i64 z] :: rowI u5 D :: rowP (.slice (some ⟨g, 0, none⟩) P.length c) P :: l)) := H4
      clear HH
      go_upto_region 5 with fail
      clear d0 d1
      generalize wr.alloc (.cells #[.string x, .int .i64 z] 58) = w4 at *
      generalize wr.heap.size = bx at *
      have x0 := H4.out.cell 0 rfl
      have x1 := H4.out.cell 1 rfl
      obtain ⟨bb, hbb⟩ : ∃ bb, Pa.begM key x = bb := ⟨_, rfl⟩
      rw [hbb] at HT
      obtain ⟨a5, c5, rfl, -, -⟩ := rowI_slice (H4.out.pull 1 rfl)
      have hDl : D.length ≤ 100000 := by have := HL.out; rw [List.length_take] at this; omega
      have HWi : Hid (∀ W, Below w4.heap.size w4 W → Calls Try.prog 32 #[.slice a5 D.length c5, .int .i64 z] W fun e w' => ∃ v, e = .returned v ∧ Hp o w' (rowI v (withI z D) :: rowP (.slice (some ⟨g, 0, none⟩) P.length c) P :: l)) := Lib.hid (fun W hW => (rwith_calls (rowI_give (H4.out.pull 1 rfl)) hW HU.out hDl z c5).mono fun e w' ⟨v, e1, h1⟩ => ⟨v, e1, (h1.dropAt 1 rfl).dropAt 1 rfl⟩)
      have HB4 := Lib.hid (fun n => drewN_below w4 n)
      by_cases hsz : x.size ≤ key.size
      · have hg0 : (x.size : Int) ≤ (key.size : Int) := by omega
        have hg1 : decide ((x.size : Int) ≤ (key.size : Int)) = true := decide_eq_true hg0
        have he : ((key.extract 0 x.size).toList == x.toList) = bb := by rw [← hbb]; unfold Pa.begM; rw [decide_eq_true hsz]; rfl
        clear hbb hsz
        cases hb : bb
        case true =>
          rw [hb] at he HT
          rw [if_pos rfl] at HT
          rw [← HT.out] at HWi
          clear hb HL HU
          go_wp2_with fail
          go_big_quiet (fail)
          go_wp2_with fail
          refine (HWi.out _ (HB4.out _)).mono ?_; rintro en w5 ⟨v5, rfl, h5⟩
          have H5 := Lib.hid h5
          clear h5 HWi H4 x0 x1
          go_wp2_with fail
          go_roundg (gk - 1)
          case measure => omega
          case rel => exact ⟨j + 1, by go_num, by omega, by omega, by rw [HD2.out]; exact H5⟩
        case false =>
          rw [hb] at he HT
          rw [if_neg (by decide)] at HT
          clear hb HL HU HWi
          go_wp2_with fail
          go_big_quiet (fail)
          go_wp2_with fail
          go_roundg (gk - 1)
          case measure => omega
          case rel => exact ⟨j + 1, by go_num, by omega, by omega, by rw [HD2.out, HT.out]; exact Lib.hid ((H4.out.bel (HB4.out _)).dropAt 0 rfl)⟩
      · have hg0 : ¬ (x.size : Int) ≤ (key.size : Int) := by omega
        have hg1 : decide ((x.size : Int) ≤ (key.size : Int)) = false := decide_eq_false hg0
        have hg2 : decide (x.size ≤ key.size) = false := decide_eq_false hsz
        have he : bb = false := by rw [← hbb]; unfold Pa.begM; rw [decide_eq_false hsz]; rfl
        rw [he, if_neg (by decide)] at HT
        clear hbb hsz he HL HU HWi
        go_wp2_with fail
        go_big_quiet (fail)
        go_wp2_with fail
        go_roundg (gk - 1)
        case measure => omega
        case rel => exact ⟨j + 1, by go_num, by omega, by omega, by rw [HD2.out, HT.out]; exact Lib.hid ((H4.out.bel (HB4.out _)).dropAt 0 rfl)⟩
    case neg =>
      have hjc : ¬ (j : Int) < (P.length : Int) := by omega
      obtain rfl : j = P.length := by omega
      rw [List.take_length] at HH
      go_wp2_with fail
      go_ret
      exact ⟨_, rfl, HH.out⟩
theorem ofP_take {P : Pl} {n : Int} {j : Nat} (hj : j < P.length) : ofP n (P.take (j + 1)) = ofP n (P.take j) ++ (if P[j].2 = n then [P[j].1] else []) := by
  unfold ofP
  rw [← List.take_append_getElem hj, List.filter_append, List.map_append]
  by_cases h : P[j].2 = n
  · rw [if_pos h, List.filter_cons_of_pos (by simp [h])]; rfl
  · rw [if_neg h, List.filter_cons_of_neg (by simp [h])]; rfl
theorem ofP_le (n : Int) (P : Pl) : (ofP n P).length ≤ P.length := by unfold ofP; rw [List.length_map]; exact List.length_filter_le _ _
theorem rowS_new (h : Hp o w l) : Hp o (w.alloc (.cells #[] 9)) (rowS (.slice (some ⟨w.heap.size, 0, none⟩) 0 0) [] :: l) :=
  h.rowAdd (Sp.bbox _) (World.ownsRow_made w #[] 0 (Nat.le_refl _) (Nat.zero_le _) rfl) (Nat.le_refl _)
/-- append of one text. -/
theorem sPush {ops : Array Oper} {rest : List Oper} {op : Oper} {a : Act} {Q : Exit → Act → World → Prop} {v : Value} {ps : List ByteArray} (h : Hp o w (rowS v ps :: l)) (hw : Below w.heap.size w wb) (hgd : op.guard = none) (s x : Operand)
    (ho : op.op = .call { callee := .builtin .append, args := #[s, x], argTypes := #[44, 44] }) (hs : a.eval s = v) (k : ByteArray) (D : List ByteArray) (hD : ps ++ [k] = D) {b cx : Nat} (hx : a.eval x = .slice (some ⟨b, 0, none⟩) 1 cx) (hc : wb.cell? ⟨b, 0, none⟩ = some (.string k)) (hn : ps.length ≤ 1000000)
    (K : ∀ v' w', Hp o w' (rowS v' D :: l) → wpList Try.prog ops Q rest (a.put op.dst v') w') :
    wpList Try.prog ops Q (op :: rest) a wb := by
  subst hD
  obtain ⟨i0, hi, hz0, hz1, hz2⟩ := info_parts iStr
  refine Sp.Hp.rowPush h hw hgd s x 44 ho i0 _ 16 Try.underlying44 hi hz0 hz1 hz2 rfl (by decide) hs ⟨b, 0, none⟩ 1 cx [.string k] hx rfl (fun j u hj => ?_) (fun u hu => by rw [List.mem_singleton.1 hu]; rfl) (by unfold maxLen; omega) (by omega) fun v' w' h' _ => K v' w' ?_
  · match j, hj with
    | 0, hj => obtain rfl := Option.some.inj hj; rw [Addr.add_lit]; exact hc
  · unfold rowS strs
    rw [List.length_append, List.map_append]
    exact h'
set_option maxHeartbeats 8000000 in
set_option maxRecDepth 100000 in
theorem rof_calls (h : Hp o w (rowP (.slice (some ⟨g, 0, none⟩) P.length c) P :: l)) (hw : Below w.heap.size w wb) (hP : P.length ≤ 90000) (n : Int) :
    Calls Try.prog 21 #[.slice (some ⟨g, 0, none⟩) P.length c, .int .i64 n] wb fun e w' => ∃ v, e = .returned v ∧ Hp o w' (rowS v (srt (ofP n P)) :: rowP (.slice (some ⟨g, 0, none⟩) P.length c) P :: l) := by
  have H0 : Hid (Hp o (wb.alloc (.cells #[] 9)) (rowS (.slice (some ⟨wb.heap.size, 0, none⟩) 0 0) (ofP n (P.take 0)) :: rowP (.slice (some ⟨g, 0, none⟩) P.length c) P :: l)) := Lib.hid (rowS_new (h.bel hw))
  clear h hw
  go_enter Try.func21, Try.ntmps21
  go_wp2_with fail
  go_loopg [5, 7, 11] (P.length + 1) (fun gg v5 _ vi wr => ∃ j : Nat, vi = .int .i64 j ∧ j ≤ P.length ∧ P.length - j ≤ gg ∧ Hid (Hp o wr (rowS v5 (ofP n (P.take j)) :: rowP (.slice (some ⟨g, 0, none⟩) P.length c) P :: l)))
  case atStart => exact ⟨0, rfl, by omega, by omega, H0⟩
  case round =>
    obtain ⟨j, rfl, hj, hg, HH⟩ := hrel
    clear H0
    have hol : (ofP n (P.take j)).length ≤ 100000 := by
      have := ofP_le n (P.take j)
      rw [List.length_take] at this; omega
    by_cases hjl : j < P.length
    case pos =>
      have hjc : (j : Int) < (P.length : Int) := by omega
      obtain ⟨d0, d1⟩ := rowP_at (HH.out.pull 1 rfl) hjl
      have HT := Lib.hid (ofP_take (n := n) hjl)
      generalize ofP n (P.take j) = D at *
      generalize P[j] = q at *
      obtain ⟨x, z⟩ := q
      simp only at d0 d1 HT
      have HBx := Lib.hid (HH.out.bel (Sp.bbox (.cells #[.string x, .int .i64 z] 58)))
      by_cases hz : z = n
      · rw [if_pos hz] at HT
        have hq : (z == n) = true := by rw [hz]; simp
        have HB2 : Hid (∀ O1 O2, Below wr.heap.size wr ((wr.alloc O1).alloc O2)) := Lib.hid (fun O1 O2 => Sp.bstep (Sp.bbox O1) (Sp.bbox O2))
        have HO : Hid (∀ O1, ((wr.alloc O1).alloc (.cells #[.string x] 9)).cell? ⟨wr.heap.size + 1, 0, none⟩ = some (.string x)) := Lib.hid (fun O1 => by
          rw [show wr.heap.size + 1 = (wr.alloc O1).heap.size by simp, World.cell?_alloc_new]; rfl)
        clear hz HBx
        go_wp2_with (at_builtin; refine sPush HH.out (HB2.out _ _) rfl _ _ rfl rfl x _ HT.out.symm rfl (HO.out _) (by omega) ?_)
        intro v6 w6 h6
        have H6 := Lib.hid h6
        clear h6
        go_wp2_with fail
        go_roundg (gk - 1)
        case measure => omega
        case rel => exact ⟨j + 1, by go_num, by omega, by omega, H6⟩
      · rw [if_neg hz, List.append_nil] at HT
        have hq : (z == n) = false := by rw [beq_eq_false_iff_ne]; exact hz
        clear hz
        go_wp2_with fail
        go_roundg (gk - 1)
        case measure => omega
        case rel => exact ⟨j + 1, by go_num, by omega, by omega, by rw [HT.out]; exact HBx⟩
    case neg =>
      have hjc : ¬ (j : Int) < (P.length : Int) := by omega
      obtain rfl : j = P.length := by omega
      rw [List.take_length] at HH hol
      obtain ⟨a5, c5, rfl, -, -, hg5⟩ := rowS_form HH.out
      have HS := Lib.hid (Ma.sorted_calls wr a5 c5 (ofP n P).length (ofP n P) rfl (fun hp => by
        obtain ⟨g6, rfl⟩ := hg5 hp
        refine ⟨g6, 0, rfl, ?_, fun i hi => ?_⟩
        · exact World.block_lt_of_cell? wr _ (rowS_at HH.out hp)
        · rw [Nat.zero_add]; exact rowS_at HH.out hi) (by omega))
      go_wp2_with fail
      refine HS.out.mono ?_; rintro en w6 ⟨v6, rfl, h6⟩
      have H6 := Lib.hid ((HH.out.rowAdd h6.bel h6.row (Nat.le_refl _)).dropAt 1 rfl)
      clear h6 HS HH
      go_wp2_with fail
      go_ret
      exact ⟨_, rfl, H6.out⟩
end
end Go.Proofs.Ytnmncjeplfkdpaa.Qa
/- Layer 15's own Tree; the chapter's example. Conditions: bounds. -/
namespace Go.Proofs.Ytnmncjeplfkdpaa.Qa
set_option linter.unusedVariables false
set_option linter.unusedSimpArgs false
open Go.ChangeShapes Go.WideShapes Go.ChangeAt Go.RowKit
open Ka
open Sp (Th Hp Stays All Ro roT cellsT rowT exT puT star)
open Pb (MkI updL dat row_lies TxE)
theorem all_ext {Q : List Pa.Mk} {L L' : Pb.T → Option Int} (h : Pb.All Q L) (hL : ∀ X, L X = L' X) : Pb.All Q L' := ⟨h.up, fun p => by rw [h.mem, hL]⟩
theorem zL_put (K : List ByteArray) (k : ByteArray) (X : Pb.T) : updL k.data.toList 0 (zL K) X = zL (K ++ [k]) X := by
  have hm : X ∈ dat (K ++ [k]) ↔ X ∈ dat K ∨ X = k.data.toList := by
    unfold dat
    rw [List.map_append, List.mem_append]
    simp
  unfold updL zL
  by_cases e : X = k.data.toList
  · rw [if_pos e, if_pos (hm.2 (.inr e))]
  · rw [if_neg e]
    by_cases hk : X ∈ dat K
    · rw [if_pos hk, if_pos (hm.2 (.inl hk))]
    · rw [if_neg hk, if_neg fun hh => (hm.1 hh).elim hk e]
theorem all_keys {Q : List Pa.Mk} {K : List ByteArray} (h : Pb.All Q (zL K)) : (Q.map (·.1)).Nodup ∧ ∀ k, k ∈ Q.map (·.1) ↔ k ∈ K := by
  constructor
  · refine List.pairwise_map.2 (h.up.imp fun {a b} (hab : Pb.MLt a b) e => ?_)
    exact Pb.MLt.irr a (by unfold Pb.MLt at *; rw [e] at hab ⊢; exact hab)
  · intro k
    rw [List.mem_map]
    constructor
    · rintro ⟨m, hm, rfl⟩
      have h1 := (h.at m).1 hm
      unfold zL at h1
      by_cases hh : m.1.data.toList ∈ dat K
      · exact mem_dat.1 hh
      · rw [if_neg hh] at h1; cases h1
    · intro hk
      refine ⟨(k, 0), (h.at (k, 0)).2 ?_, rfl⟩
      unfold zL
      rw [if_pos (mem_dat.2 hk)]
theorem all_len {Q : List Pa.Mk} {K : List ByteArray} (h : Pb.All Q (zL K)) : Q.length ≤ K.length := by
  obtain ⟨h1, h2⟩ := all_keys h
  have := ids_sub h1 fun k hk => (h2 k).1 hk
  rwa [List.length_map] at this
section
variable {o w w' wb : World} {l : List Th} {P : Pl} {k : ByteArray} {n : Int} {g c : Nat}
set_option maxHeartbeats 8000000 in
set_option maxRecDepth 100000 in
theorem rtree_calls (h : Hp o w (rowP (.slice (some ⟨g, 0, none⟩) P.length c) P :: l)) (hw : Below w.heap.size w wb) (hP : P.length ≤ 90000) :
    Calls Try.prog 12 #[.slice (some ⟨g, 0, none⟩) P.length c] wb fun e w' => ∃ a c2 Q, e = .returned (.slice a Q.length c2) ∧ Q.length ≤ c2 ∧ c2 ≤ 9223372036854775807 ∧ Pb.All Q (zL (P.map (·.1))) ∧ Hp o w' (rowT 63 2 (.slice a Q.length c2) Q.length (Pa.cellsM Q) :: rowP (.slice (some ⟨g, 0, none⟩) P.length c) P :: l) := by
  have hr3 := Pa.rowM_made wb
  have H0 : Hid (Hp o (wb.alloc (.cells #[] 63)) (rowT 63 2 (.slice (some ⟨wb.heap.size, 0, none⟩) 0 0) 0 (Pa.cellsM []) :: rowP (.slice (some ⟨g, 0, none⟩) P.length c) P :: l)) := Lib.hid ((h.bel hw).rowAdd hr3.bel hr3.row (Nat.le_refl _))
  have HAll0 : Hid (Pb.All [] (zL ((P.take 0).map (·.1)))) := Lib.hid ⟨List.Pairwise.nil, fun p => by simp [zL, dat]⟩
  clear h hw hr3
  go_enter Try.func12, Try.ntmps12
  go_wp2_with fail
  go_loopg [3, 5, 9] (P.length + 1) (fun gg v3 _ vi wr => ∃ (j : Nat) (Q : List Pa.Mk) (a : Option Addr) (c3 : Nat), vi = .int .i64 j ∧ j ≤ P.length ∧ P.length - j ≤ gg ∧ v3 = .slice a Q.length c3 ∧ Q.length ≤ c3 ∧ c3 ≤ 9223372036854775807 ∧ Hid (Pb.All Q (zL ((P.take j).map (·.1)))) ∧ Hid (Hp o wr (rowT 63 2 (.slice a Q.length c3) Q.length (Pa.cellsM Q) :: rowP (.slice (some ⟨g, 0, none⟩) P.length c) P :: l)))
  case atStart => exact ⟨0, [], _, _, rfl, by omega, by omega, rfl, by decide, by decide, HAll0, H0⟩
  case round =>
    obtain ⟨j, Q, a, c3, rfl, hj, hg, rfl, hq1, hq2, HA, HH⟩ := hrel
    clear H0 HAll0
    by_cases hjl : j < P.length
    case pos =>
      have hjc : (j : Int) < (P.length : Int) := by omega
      obtain ⟨d0, d1⟩ := rowP_at (HH.out.pull 1 rfl) hjl
      have hQl : Q.length ≤ 90000 := by
        have := all_len HA.out
        rw [List.length_map, List.length_take] at this; omega
      have HNx : Hid (∀ Q', Pb.All Q' (updL P[j].1.data.toList 0 (zL ((P.take j).map (·.1)))) → Pb.All Q' (zL ((P.take (j + 1)).map (·.1)))) := Lib.hid (fun Q' hq => all_ext hq fun X => by
        rw [zL_put, ← List.take_append_getElem hjl, List.map_append]; rfl)
      generalize P[j] = q at *
      obtain ⟨x, z⟩ := q
      simp only at d0 d1 HNx
      have H4 : Hid (Hp o (wr.alloc (.cells #[.string x, .int .i64 z] 58)) (cellsT wr.heap.size [.string x, .int .i64 z] :: rowT 63 2 (.slice a Q.length c3) Q.length (Pa.cellsM Q) :: rowP (.slice (some ⟨g, 0, none⟩) P.length c) P :: l)) := Lib.hid (HH.out.cellsNew [.string x, .int .i64 z] 58)
      clear HH
      go_upto_region 5 with fail
      clear d0 d1
      generalize wr.alloc (.cells #[.string x, .int .i64 z] 58) = w4 at *
      generalize wr.heap.size = bx at *
      have x0 := H4.out.cell 0 rfl
      have HC := Lib.hid (Pa.refPut_calls w4 a c3 Q (by omega) (row_lies (H4.out.pull 1 rfl)) x 0)
      have HA2 := Lib.hid (HNx.out _ (HA.out.put x 0))
      clear HNx HA
      generalize Pa.putM x 0 Q = Q2 at *
      generalize (Pa.putF x 0 Q).2.2 = b2 at *
      go_wp2_with fail
      refine HC.out.mono ?_; rintro en w5 ⟨v5, rfl, hR5⟩
      have h5 := ((H4.out.rowAdd hR5.bel hR5.row (Nat.le_refl _)).dropAt 2 rfl).dropAt 1 rfl
      obtain ⟨a6, c6, rfl, hlc6, hc6, -⟩ := hR5.slice
      have H5 : Hid (Hp o w5 (rowT 63 2 (.slice a6 Q2.length c6) Q2.length (Pa.cellsM Q2) :: rowP (.slice (some ⟨g, 0, none⟩) P.length c) P :: l)) := Lib.hid h5
      clear h5 hR5 HC H4 x0
      go_wp2_with fail
      go_roundg (gk - 1)
      case measure => omega
      case rel => exact ⟨j + 1, Q2, a6, c6, by go_num, by omega, by omega, rfl, hlc6, hc6, HA2, H5⟩
    case neg =>
      have hjc : ¬ (j : Int) < (P.length : Int) := by omega
      obtain rfl : j = P.length := by omega
      rw [List.take_length] at HA
      go_wp2_with fail
      go_ret
      exact ⟨a, c3, Q, rfl, hq1, hq2, HA.out, HH.out⟩
end
def kU : ByteArray := ⟨#[117, 115, 101, 114, 58]⟩
def kU7 : ByteArray := ⟨#[117, 115, 101, 114, 58, 55]⟩
def kE : ByteArray := ⟨#[]⟩
def exP : Pl := [(kU, 2), (kE, 1)]
theorem ex_mat : matP kU7 exP = [1, 2] := by
  refine up_ext (mat_up _ _) (by unfold Up; decide) fun n => ?_
  rw [mat_mem]
  unfold exP
  constructor
  · rintro ⟨k, h1, -⟩
    simp only [List.mem_cons, Prod.mk.injEq, List.not_mem_nil, or_false] at h1
    rcases h1 with ⟨-, rfl⟩ | ⟨-, rfl⟩
    · simp
    · simp
  · intro h
    simp only [List.mem_cons, List.not_mem_nil, or_false] at h
    rcases h with rfl | rfl
    · exact ⟨kE, by simp, ⟨[117, 115, 101, 114, 58, 55], rfl⟩⟩
    · exact ⟨kU, by simp, ⟨[55], rfl⟩⟩
theorem ex_ne : kU ≠ kE := fun h => by
  have := congrArg ByteArray.size h
  exact absurd this (by decide)
set_option maxHeartbeats 8000000 in
set_option maxRecDepth 100000 in
theorem prefixAlive (w : World) : Calls Try.prog 6 #[] w fun e w' => e = .returned (.bool true) ∧ Below w.heap.size w w' := by
  have HN := Lib.hid (pnew_calls (Hp.nil (Below.refl w.heap.size w)) (Below.refl _ _))
  have e1 : addP kU 2 [] = [(kU, 2)] := by unfold addP; rw [if_neg List.not_mem_nil]; rfl
  have e2 : (kE, 1) ∉ [(kU, (2 : Int))] := by simp
  have e3 : addP kE 1 [(kU, 2)] = exP := by unfold addP; rw [if_neg e2]; rfl
  have HA1 : Hid (∀ W T, Hp w W [prefT T [] 0] → Calls Try.prog 9 #[.pointer (some ⟨T, 0, none⟩), .string kU, .int .i64 2] W fun e w' => e = .returned (.bool true) ∧ Hp w w' [prefT T [(kU, 2)] 1]) := Lib.hid (fun W T hh => by
    have := padd_calls hh (Below.refl _ _) (k := kU) (by decide) (by decide) (by decide) 2 (by decide)
    rw [e1, decide_eq_false List.not_mem_nil] at this
    exact this)
  have HA2 : Hid (∀ W T, Hp w W [prefT T [(kU, 2)] 1] → Calls Try.prog 9 #[.pointer (some ⟨T, 0, none⟩), .string kE, .int .i64 1] W fun e w' => e = .returned (.bool true) ∧ Hp w w' [prefT T exP 2]) := Lib.hid (fun W T hh => by
    have := padd_calls hh (Below.refl _ _) (k := kE) (by decide) (Nat.le_of_ble_eq_true rfl) (by decide) 1 (by decide)
    rw [e3, decide_eq_false e2] at this
    exact this)
  have HM : Hid (∀ W T, Hp w W [prefT T exP 2] → Calls Try.prog 17 #[.pointer (some ⟨T, 0, none⟩), .string kU7] W fun e w' => ∃ v, e = .returned v ∧ Hp w w' [rowI v [1, 2], prefT T exP 2]) := Lib.hid (fun W T hh => by
    have := pmatch_calls hh (Below.refl _ _) (Nat.le_of_ble_eq_true rfl) kU7 (by decide)
    rw [ex_mat] at this
    exact this)
  have HL : Hid (∀ W T v, Hp w W [rowI v [1, 2], prefT T exP 2] → Calls Try.prog 13 #[.pointer (some ⟨T, 0, none⟩)] W fun e w' => e = .returned (.int .i64 2) ∧ W = w') := Lib.hid (fun W T v hh => plen_calls (K := [kU, kE]) hh.drop (Below.refl _ _) (by simp [ex_ne]) fun k => by
    unfold exP
    simp only [List.mem_cons, Prod.mk.injEq, List.not_mem_nil, or_false]
    constructor
    · rintro (rfl | rfl)
      · exact ⟨2, .inl ⟨rfl, rfl⟩⟩
      · exact ⟨1, .inr ⟨rfl, rfl⟩⟩
    · rintro ⟨n, ⟨rfl, -⟩ | ⟨rfl, -⟩⟩
      · exact .inl rfl
      · exact .inr rfl)
  clear e1 e2 e3
  unfold ptr at *
  go_enter Try.func6, Try.ntmps6
  go_wp2_with fail
  refine HN.out.mono ?_; rintro en w1 ⟨T, rfl, h1⟩
  have HC1 := Lib.hid (HA1.out _ _ h1)
  clear h1 HN HA1
  unfold kU kE kU7 at *
  go_wp2_with fail
  refine HC1.out.mono ?_; rintro en w2 ⟨rfl, h2⟩
  have HC2 := Lib.hid (HA2.out _ _ h2)
  clear h2 HC1 HA2
  go_wp2_with fail
  refine HC2.out.mono ?_; rintro en w3 ⟨rfl, h3⟩
  have HC3 := Lib.hid (HM.out _ _ h3)
  clear h3 HC2 HM
  go_wp2_with fail
  refine HC3.out.mono ?_; rintro en w4 ⟨v4, rfl, h4⟩
  obtain ⟨a4, c4, rfl, -, -⟩ := rowI_slice h4
  have h5 := h4.bel (Sp.bbox (.cells #[.int .i64 1, .int .i64 2] 3))
  have HSa := Lib.hid (sameI_calls (w4.alloc (.cells #[.int .i64 1, .int .i64 2] 3)) a4 (some ⟨w4.heap.size, 0, none⟩) c4 2 [1, 2] (by decide) (rowI_atI h5) (fun _ => ⟨w4.heap.size, rfl, fun j hj => by
    rw [World.cell?_alloc_new]
    match j, hj with
    | 0, _ => rfl
    | 1, _ => rfl⟩))
  have H5 := Lib.hid h5
  clear h4 h5 HC3
  go_wp2_with fail
  refine HSa.out.mono ?_; rintro en w6 ⟨rfl, hb6⟩
  have h6 := H5.out.bel hb6
  have HL6 := Lib.hid (HL.out _ _ _ h6)
  have H6 := Lib.hid h6
  clear h6 hb6 HL H5 HSa
  go_wp2_with fail
  refine HL6.out.mono ?_; rintro en w7 ⟨rfl, rfl⟩
  go_wp2_with fail
  go_ret
  exact ⟨rfl, H6.out.below⟩
end Go.Proofs.Ytnmncjeplfkdpaa.Qa
/- Layer 15's statements: acts that came in. No condition. -/
namespace Go.Proofs.Ytnmncjeplfkdpaa.Qa
set_option linter.unusedVariables false
set_option linter.unusedSimpArgs false
open Go.ChangeShapes Go.WideShapes Go.ChangeAt Go.RowKit
open Sp (Th Hp Stays All Ro roT cellsT rowT exT puT star)
/-- An act. -/
structure Ac where
  kd : Int
  n : Int
  k : ByteArray
/-- Acts as they lie. -/
def InA (W : World) (a : Option Addr) (l : List Ac) : Prop := 0 < l.length → ∃ b o, a = some ⟨b, o, none⟩ ∧ b < W.heap.size ∧ ∀ i (h : i < l.length), W.cell? ⟨b, o + i * 3, none⟩ = some (.int .i64 l[i].kd) ∧ W.cell? ⟨b, o + i * 3 + 1, none⟩ = some (.int .i64 l[i].n) ∧ W.cell? ⟨b, o + i * 3 + 2, none⟩ = some (.string l[i].k)
theorem InA.below {B : Nat} {w w' : World} {a : Option Addr} {l : List Ac} (h : InA w a l) (hB : w.heap.size ≤ B) (hb : Below B w w') : InA w' a l := fun hp => by
  obtain ⟨b, o, rfl, hlt, hc⟩ := h hp
  have e : ∀ j, w'.cell? ⟨b, j, none⟩ = w.cell? ⟨b, j, none⟩ := fun j => hb.cell (p := ⟨b, j, none⟩) (Nat.lt_of_lt_of_le hlt hB)
  exact ⟨b, o, rfl, Nat.lt_of_lt_of_le hlt hb.size, fun i hi => by rw [e, e, e]; exact hc i hi⟩
def okAc (q : Ac) : Prop := q.k.size ≤ maxLen ∧ (Lit.int .i64 q.n).wf = true
/-- The first of many things. -/
theorem hp_front {o w : World} {a b : List Th} (h : Hp o w (a ++ b)) : Hp o w a := by
  obtain ⟨O, R, h1, h2, h3⟩ := h
  obtain ⟨A, B, k1, k2, k3, k4⟩ := All.app.1 h1
  exact ⟨A, R, k1, fun x hx => h2 x ((k4 x).2 (.inl hx)), h3⟩
theorem hp_take {o w : World} {l : List Th} (h : Hp o w l) (is : List Nat) (n : Nat) {m : List Th} (hm : (Sp.selF 12 is l).map (·.take n) = some m) : Hp o w m := by
  cases e : Sp.selF 12 is l with
  | none => rw [e] at hm; cases hm
  | some r =>
    rw [e] at hm
    injection hm with hm
    subst hm
    have h1 := h.sel is e
    rw [← List.take_append_drop n r] at h1
    exact hp_front h1
end Go.Proofs.Ytnmncjeplfkdpaa.Qa
