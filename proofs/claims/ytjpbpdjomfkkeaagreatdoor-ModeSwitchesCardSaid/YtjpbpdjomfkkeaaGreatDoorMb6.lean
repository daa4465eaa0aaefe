/- Package mode: Switch. No condition but bounds. -/
import Derived.Test.YtjpbpdjomfkkeaaGreatDoorMb5
namespace Go.Proofs.YtjpbpdjomfkkeaaGreatDoor.Ma
set_option linter.unusedVariables false
set_option linter.unusedSimpArgs false
open Go.ChangeShapes Go.WideShapes Go.ChangeAt Go.RowKit
open Go.Proofs.YtjpbpdjomfkkeaaGreatDoor.Sp (bstep bbox)
theorem CellL.set {w : World} {b : Nat} {vs : List Value} (h : CellL w b vs) (i : Nat) (u : Value) : CellL (w.setCell ⟨b, i, none⟩ u) b (vs.set i u) := by
  refine ⟨by simpa [World.setCell] using h.lt, fun j hj => ?_, fun j hj => by rw [World.frozen?_setCell]; exact h.f j (by simpa using hj)⟩
  have hj' : j < vs.length := by simpa using hj
  by_cases e : j = i
  · subst e
    rw [List.getElem_set_self]
    exact World.cell?_setCell_same w _ u (h.c j hj')
  · rw [List.getElem_set_ne (Ne.symm e)]
    refine (World.cell?_setCell_other _ _ _ _ fun h => ?_).trans (h.c j hj')
    injection h with _ h2
    exact e h2.symm
theorem CellL.other {w : World} {b b' : Nat} {vs : List Value} (h : CellL w b vs) (hb : b ≠ b') (i : Nat) (u : Value) : CellL (w.setCell ⟨b', i, none⟩ u) b vs := by
  refine ⟨by simpa [World.setCell] using h.lt, fun j hj => ?_, fun j hj => by rw [World.frozen?_setCell]; exact h.f j hj⟩
  refine (World.cell?_setCell_other _ _ _ _ fun h => ?_).trans (h.c j hj)
  injection h with h1 h2
  exact hb h1.symm
theorem three (w : World) (l1 l2 l3 : List Value) (T1 T2 T3 : TypeId) :
    CellL (((w.alloc (.cells l1.toArray T1)).alloc (.cells l2.toArray T2)).alloc (.cells l3.toArray T3)) w.heap.size l1 ∧ CellL (((w.alloc (.cells l1.toArray T1)).alloc (.cells l2.toArray T2)).alloc (.cells l3.toArray T3)) (w.heap.size + 1) l2 ∧
    CellL (((w.alloc (.cells l1.toArray T1)).alloc (.cells l2.toArray T2)).alloc (.cells l3.toArray T3)) (w.heap.size + 2) l3 ∧ Below w.heap.size w (((w.alloc (.cells l1.toArray T1)).alloc (.cells l2.toArray T2)).alloc (.cells l3.toArray T3)) ∧
    (((w.alloc (.cells l1.toArray T1)).alloc (.cells l2.toArray T2)).alloc (.cells l3.toArray T3)).heap.size = w.heap.size + 3 :=
  ⟨((CellL.new w l1 T1).alloc _).alloc _, (CellL.new2 (w.alloc _) _ (by simp) l2 T2).alloc _, CellL.new2 ((w.alloc _).alloc _) _ (by simp) l3 T3, bstep (bstep (bbox _) (bbox _)) (bbox _), by simp⟩
theorem RowB.ins {B : Nat} {wa w : World} {v : Value} {l : List BA} (h : RowB B wa w v l) : ∃ a c, v = .slice a l.length c ∧ l.length ≤ c ∧ c ≤ 9223372036854775807 ∧ (a = none → c = 0) ∧ InS w a l := by
  have k : RowS { w with heap := #[] } w v l ∨ True := .inr trivial
  rcases h.1.2 with ⟨rfl, hn⟩ | ⟨g, cap, cur, rfl, hg, hh, h1, h2, h3, h4⟩
  · exact ⟨none, 0, by rw [hn], by omega, Nat.zero_le _, fun _ => rfl, fun h => by omega⟩
  · refine ⟨some ⟨g, 0, none⟩, cap, rfl, h1, by unfold maxLen at h2; omega, (fun h => by cases h), fun _ => ⟨g, 0, rfl, (Array.getElem?_eq_some_iff.1 hh).1, fun i hi => ?_⟩⟩
    have e1 : (cur.toList.take (l.length * 1))[i]? = cur.toList[i]? := List.getElem?_take_of_lt (by omega)
    rw [h4] at e1
    have e2 : (cellsS l)[i]? = some (.string l[i]) := by simp [cellsS, hi]
    rw [e2] at e1
    simp only [World.cell?, hh, Nat.zero_add]
    simpa using e1.symm
theorem RowB.bel {B : Nat} {wa w w' : World} {v : Value} {l : List BA} (h : RowB B wa w v l) (hb : Below w.heap.size w w') : RowB B wa w' v l :=
  ⟨h.1.kept (grow_of0 hb) (by cases hv : v.ownBlock <;> simp), h.2.trans (hb.mono h.2.size)⟩
set_option maxHeartbeats 16000000 in
set_option maxRecDepth 100000 in
theorem switch_calls (w : World) (m n : Md) (a a' : Option Addr) (c c' : Nat) (hz : a = none → c = 0) (hI : InS w a m.ps) (hl : m.ps.length ≤ 100000) (hz' : a' = none → c' = 0) (hI' : InS w a' n.ps) (hl' : n.ps.length ≤ 100000) (r : Md) (k : Int) (hr : switchM m n = (r, k)) :
    Calls Tryz.prog 7 #[mV m a c, mV n a' c'] w fun e w' => ∃ v, e = .returned (.tuple #[mVv r v, .int .i64 k]) ∧ RowS w w' v r.ps := by
  have HCm := Lib.hid (fun W (hW : Below w.heap.size w W) => copy_calls W m a c hz (hI.bel hW) (by omega))
  have HCn := Lib.hid (fun W (hW : Below w.heap.size w W) => copy_calls W n a' c' hz' (hI'.bel hW) (by omega))
  have HTg := Lib.hid (fun W (hW : Below w.heap.size w W) => tog_calls W a a' c c' m.ps n.ps hz (hI.bel hW) hz' (hI'.bel hW) hl hl')
  have HR := Lib.hid hr
  have HLen : Hid ((cmp (srt (m.ps ++ n.ps))).length ≤ 1000000) := Lib.hid (by have h1 := cmp_len (srt (m.ps ++ n.ps)); rw [srt_len, List.length_append] at h1; omega)
  clear hr hI hI'
  obtain ⟨on, bc, oi, oo, nl, rd, ps⟩ := m
  obtain ⟨on', bc', oi', oo', nl', rd', ps'⟩ := n
  unfold mV mVv at HCm HCn
  unfold mV
  simp only at HCm HCn HTg HLen ⊢
  cases on with
  | false =>
    have e := HR.out
    simp [switchM] at e
    obtain ⟨rfl, rfl⟩ := e
    clear HR HTg
    simp only [mVv]
    go_enter Tryz.func7, Tryz.ntmps7
    go_wp2_with fail
    refine (HCn.out _ (three w [.bool false, .bool bc, .bool oi, .bool oo, .bool nl, .int .i64 rd, .slice a ps.length c] [.bool on', .bool bc', .bool oi', .bool oo', .bool nl', .int .i64 rd', .slice a' ps'.length c'] [.bool false, .bool false, .bool false, .bool false, .bool false, .int .i64 0, .slice none 0 0] _ _ _).2.2.2.1).mono ?_
    rintro e w2 ⟨v, rfl, hR2⟩
    obtain ⟨sa, sc, rfl, -, -, -, -⟩ := hR2.slice
    have HD := Lib.hid ((three w [.bool false, .bool bc, .bool oi, .bool oo, .bool nl, .int .i64 rd, .slice a ps.length c] [.bool on', .bool bc', .bool oi', .bool oo', .bool nl', .int .i64 rd', .slice a' ps'.length c'] [.bool false, .bool false, .bool false, .bool false, .bool false, .int .i64 0, .slice none 0 0] _ _ _).2.2.1.below hR2.bel)
    have HRR := Lib.hid hR2
    clear hR2
    have d0 := HD.out.at 0 rfl
    have g0 := HD.out.f 0 (by simp)
    have d1 := HD.out.at 1 rfl
    have g1 := HD.out.f 1 (by simp)
    have d2 := HD.out.at 2 rfl
    have g2 := HD.out.f 2 (by simp)
    have d3 := HD.out.at 3 rfl
    have g3 := HD.out.f 3 (by simp)
    have d4 := HD.out.at 4 rfl
    have g4 := HD.out.f 4 (by simp)
    have d5 := HD.out.at 5 rfl
    have g5 := HD.out.f 5 (by simp)
    have d6 := HD.out.at 6 rfl
    have g6 := HD.out.f 6 (by simp)
    go_wp2_with fail
    exact bodyPost_ret (v := .tuple #[.agg #[.bool on', .bool bc', .bool oi', .bool oo', .bool nl', .int .i64 rd', .slice sa ps'.length sc], .int .i64 0]) (by simp [results, Tryz.results7, go_sem, d0, d1, d2, d3, d4, d5, d6]) rfl
      ⟨_, rfl, ((HRR.out.toB (three w [.bool false, .bool bc, .bool oi, .bool oo, .bool nl, .int .i64 rd, .slice a ps.length c] [.bool on', .bool bc', .bool oi', .bool oo', .bool nl', .int .i64 rd', .slice a' ps'.length c'] [.bool false, .bool false, .bool false, .bool false, .bool false, .int .i64 0, .slice none 0 0] _ _ _).2.2.2.1).sets7 (by omega) (by simp) _ _ _ _ _ _ _).toS (by simp; omega)⟩
  | true =>
    cases on' with
    | false =>
      have e := HR.out
      simp [switchM] at e
      obtain ⟨rfl, rfl⟩ := e
      clear HR HTg
      simp only [mVv]
      go_enter Tryz.func7, Tryz.ntmps7
      go_wp2_with fail
      refine (HCn.out _ (three w [.bool true, .bool bc, .bool oi, .bool oo, .bool nl, .int .i64 rd, .slice a ps.length c] [.bool false, .bool bc', .bool oi', .bool oo', .bool nl', .int .i64 rd', .slice a' ps'.length c'] [.bool false, .bool false, .bool false, .bool false, .bool false, .int .i64 0, .slice none 0 0] _ _ _).2.2.2.1).mono ?_
      rintro e w2 ⟨v, rfl, hR2⟩
      obtain ⟨sa, sc, rfl, -, -, -, -⟩ := hR2.slice
      have HD := Lib.hid ((three w [.bool true, .bool bc, .bool oi, .bool oo, .bool nl, .int .i64 rd, .slice a ps.length c] [.bool false, .bool bc', .bool oi', .bool oo', .bool nl', .int .i64 rd', .slice a' ps'.length c'] [.bool false, .bool false, .bool false, .bool false, .bool false, .int .i64 0, .slice none 0 0] _ _ _).2.2.1.below hR2.bel)
      have HRR := Lib.hid hR2
      clear hR2
      have d0 := HD.out.at 0 rfl
      have g0 := HD.out.f 0 (by simp)
      have d1 := HD.out.at 1 rfl
      have g1 := HD.out.f 1 (by simp)
      have d2 := HD.out.at 2 rfl
      have g2 := HD.out.f 2 (by simp)
      have d3 := HD.out.at 3 rfl
      have g3 := HD.out.f 3 (by simp)
      have d4 := HD.out.at 4 rfl
      have g4 := HD.out.f 4 (by simp)
      have d5 := HD.out.at 5 rfl
      have g5 := HD.out.f 5 (by simp)
      have d6 := HD.out.at 6 rfl
      have g6 := HD.out.f 6 (by simp)
      go_wp2_with fail
      exact bodyPost_ret (v := .tuple #[.agg #[.bool false, .bool bc', .bool oi', .bool oo', .bool nl', .int .i64 rd', .slice sa ps'.length sc], .int .i64 0]) (by simp [results, Tryz.results7, go_sem, d0, d1, d2, d3, d4, d5, d6]) rfl
        ⟨_, rfl, ((HRR.out.toB (three w [.bool true, .bool bc, .bool oi, .bool oo, .bool nl, .int .i64 rd, .slice a ps.length c] [.bool false, .bool bc', .bool oi', .bool oo', .bool nl', .int .i64 rd', .slice a' ps'.length c'] [.bool false, .bool false, .bool false, .bool false, .bool false, .int .i64 0, .slice none 0 0] _ _ _).2.2.2.1).sets7 (by omega) (by simp) _ _ _ _ _ _ _).toS (by simp; omega)⟩
    | true =>
      by_cases h0 : bc = bc'
      case neg =>
        have h0c : (bc == bc') = false := beq_eq_false_iff_ne.2 h0
        have h0n : (!(bc == bc')) = true := by rw [h0c]; rfl
        have e := HR.out
        simp [switchM, h0, h0c] at e
        obtain ⟨rfl, rfl⟩ := e
        clear HR HTg
        simp only [mVv]
        go_enter Tryz.func7, Tryz.ntmps7
        go_wp2_with fail
        refine (HCm.out _ (three w [.bool true, .bool bc, .bool oi, .bool oo, .bool nl, .int .i64 rd, .slice a ps.length c] [.bool true, .bool bc', .bool oi', .bool oo', .bool nl', .int .i64 rd', .slice a' ps'.length c'] [.bool false, .bool false, .bool false, .bool false, .bool false, .int .i64 0, .slice none 0 0] _ _ _).2.2.2.1).mono ?_
        rintro e w2 ⟨v, rfl, hR2⟩
        obtain ⟨sa, sc, rfl, -, -, -, -⟩ := hR2.slice
        have HD := Lib.hid ((three w [.bool true, .bool bc, .bool oi, .bool oo, .bool nl, .int .i64 rd, .slice a ps.length c] [.bool true, .bool bc', .bool oi', .bool oo', .bool nl', .int .i64 rd', .slice a' ps'.length c'] [.bool false, .bool false, .bool false, .bool false, .bool false, .int .i64 0, .slice none 0 0] _ _ _).2.2.1.below hR2.bel)
        have HRR := Lib.hid hR2
        clear hR2
        have d0 := HD.out.at 0 rfl
        have g0 := HD.out.f 0 (by simp)
        have d1 := HD.out.at 1 rfl
        have g1 := HD.out.f 1 (by simp)
        have d2 := HD.out.at 2 rfl
        have g2 := HD.out.f 2 (by simp)
        have d3 := HD.out.at 3 rfl
        have g3 := HD.out.f 3 (by simp)
        have d4 := HD.out.at 4 rfl
        have g4 := HD.out.f 4 (by simp)
        have d5 := HD.out.at 5 rfl
        have g5 := HD.out.f 5 (by simp)
        have d6 := HD.out.at 6 rfl
        have g6 := HD.out.f 6 (by simp)
        go_wp2_with fail
        exact bodyPost_ret (v := .tuple #[.agg #[.bool true, .bool bc, .bool oi, .bool oo, .bool nl, .int .i64 rd, .slice sa ps.length sc], .int .i64 132]) (by simp [results, Tryz.results7, go_sem, d0, d1, d2, d3, d4, d5, d6]) rfl
          ⟨_, rfl, ((HRR.out.toB (three w [.bool true, .bool bc, .bool oi, .bool oo, .bool nl, .int .i64 rd, .slice a ps.length c] [.bool true, .bool bc', .bool oi', .bool oo', .bool nl', .int .i64 rd', .slice a' ps'.length c'] [.bool false, .bool false, .bool false, .bool false, .bool false, .int .i64 0, .slice none 0 0] _ _ _).2.2.2.1).sets7 (by omega) (by simp) _ _ _ _ _ _ _).toS (by simp; omega)⟩
      subst h0
      by_cases h1 : oi = oi'
      case neg =>
        have h1c : (oi == oi') = false := beq_eq_false_iff_ne.2 h1
        have h1n : (!(oi == oi')) = true := by rw [h1c]; rfl
        have e := HR.out
        simp [switchM, h1, h1c] at e
        obtain ⟨rfl, rfl⟩ := e
        clear HR HTg
        simp only [mVv]
        go_enter Tryz.func7, Tryz.ntmps7
        go_wp2_with fail
        refine (HCm.out _ (three w [.bool true, .bool bc, .bool oi, .bool oo, .bool nl, .int .i64 rd, .slice a ps.length c] [.bool true, .bool bc, .bool oi', .bool oo', .bool nl', .int .i64 rd', .slice a' ps'.length c'] [.bool false, .bool false, .bool false, .bool false, .bool false, .int .i64 0, .slice none 0 0] _ _ _).2.2.2.1).mono ?_
        rintro e w2 ⟨v, rfl, hR2⟩
        obtain ⟨sa, sc, rfl, -, -, -, -⟩ := hR2.slice
        have HD := Lib.hid ((three w [.bool true, .bool bc, .bool oi, .bool oo, .bool nl, .int .i64 rd, .slice a ps.length c] [.bool true, .bool bc, .bool oi', .bool oo', .bool nl', .int .i64 rd', .slice a' ps'.length c'] [.bool false, .bool false, .bool false, .bool false, .bool false, .int .i64 0, .slice none 0 0] _ _ _).2.2.1.below hR2.bel)
        have HRR := Lib.hid hR2
        clear hR2
        have d0 := HD.out.at 0 rfl
        have g0 := HD.out.f 0 (by simp)
        have d1 := HD.out.at 1 rfl
        have g1 := HD.out.f 1 (by simp)
        have d2 := HD.out.at 2 rfl
        have g2 := HD.out.f 2 (by simp)
        have d3 := HD.out.at 3 rfl
        have g3 := HD.out.f 3 (by simp)
        have d4 := HD.out.at 4 rfl
        have g4 := HD.out.f 4 (by simp)
        have d5 := HD.out.at 5 rfl
        have g5 := HD.out.f 5 (by simp)
        have d6 := HD.out.at 6 rfl
        have g6 := HD.out.f 6 (by simp)
        go_wp2_with fail
        exact bodyPost_ret (v := .tuple #[.agg #[.bool true, .bool bc, .bool oi, .bool oo, .bool nl, .int .i64 rd, .slice sa ps.length sc], .int .i64 132]) (by simp [results, Tryz.results7, go_sem, d0, d1, d2, d3, d4, d5, d6]) rfl
          ⟨_, rfl, ((HRR.out.toB (three w [.bool true, .bool bc, .bool oi, .bool oo, .bool nl, .int .i64 rd, .slice a ps.length c] [.bool true, .bool bc, .bool oi', .bool oo', .bool nl', .int .i64 rd', .slice a' ps'.length c'] [.bool false, .bool false, .bool false, .bool false, .bool false, .int .i64 0, .slice none 0 0] _ _ _).2.2.2.1).sets7 (by omega) (by simp) _ _ _ _ _ _ _).toS (by simp; omega)⟩
      subst h1
      by_cases h2 : oo = oo'
      case neg =>
        have h2c : (oo == oo') = false := beq_eq_false_iff_ne.2 h2
        have h2n : (!(oo == oo')) = true := by rw [h2c]; rfl
        have e := HR.out
        simp [switchM, h2, h2c] at e
        obtain ⟨rfl, rfl⟩ := e
        clear HR HTg
        simp only [mVv]
        go_enter Tryz.func7, Tryz.ntmps7
        go_wp2_with fail
        refine (HCm.out _ (three w [.bool true, .bool bc, .bool oi, .bool oo, .bool nl, .int .i64 rd, .slice a ps.length c] [.bool true, .bool bc, .bool oi, .bool oo', .bool nl', .int .i64 rd', .slice a' ps'.length c'] [.bool false, .bool false, .bool false, .bool false, .bool false, .int .i64 0, .slice none 0 0] _ _ _).2.2.2.1).mono ?_
        rintro e w2 ⟨v, rfl, hR2⟩
        obtain ⟨sa, sc, rfl, -, -, -, -⟩ := hR2.slice
        have HD := Lib.hid ((three w [.bool true, .bool bc, .bool oi, .bool oo, .bool nl, .int .i64 rd, .slice a ps.length c] [.bool true, .bool bc, .bool oi, .bool oo', .bool nl', .int .i64 rd', .slice a' ps'.length c'] [.bool false, .bool false, .bool false, .bool false, .bool false, .int .i64 0, .slice none 0 0] _ _ _).2.2.1.below hR2.bel)
        have HRR := Lib.hid hR2
        clear hR2
        have d0 := HD.out.at 0 rfl
        have g0 := HD.out.f 0 (by simp)
        have d1 := HD.out.at 1 rfl
        have g1 := HD.out.f 1 (by simp)
        have d2 := HD.out.at 2 rfl
        have g2 := HD.out.f 2 (by simp)
        have d3 := HD.out.at 3 rfl
        have g3 := HD.out.f 3 (by simp)
        have d4 := HD.out.at 4 rfl
        have g4 := HD.out.f 4 (by simp)
        have d5 := HD.out.at 5 rfl
        have g5 := HD.out.f 5 (by simp)
        have d6 := HD.out.at 6 rfl
        have g6 := HD.out.f 6 (by simp)
        go_wp2_with fail
        exact bodyPost_ret (v := .tuple #[.agg #[.bool true, .bool bc, .bool oi, .bool oo, .bool nl, .int .i64 rd, .slice sa ps.length sc], .int .i64 132]) (by simp [results, Tryz.results7, go_sem, d0, d1, d2, d3, d4, d5, d6]) rfl
          ⟨_, rfl, ((HRR.out.toB (three w [.bool true, .bool bc, .bool oi, .bool oo, .bool nl, .int .i64 rd, .slice a ps.length c] [.bool true, .bool bc, .bool oi, .bool oo', .bool nl', .int .i64 rd', .slice a' ps'.length c'] [.bool false, .bool false, .bool false, .bool false, .bool false, .int .i64 0, .slice none 0 0] _ _ _).2.2.2.1).sets7 (by omega) (by simp) _ _ _ _ _ _ _).toS (by simp; omega)⟩
      subst h2
      have HP : Hid (switchM ⟨true, bc, oi, oo, nl, rd, ps⟩ ⟨true, bc, oi, oo, nl', rd', ps'⟩ = (if rightB ⟨true, bc, oi, oo, nl', rd', cmp (srt (ps ++ ps'))⟩ then (⟨true, bc, oi, oo, nl', rd', cmp (srt (ps ++ ps'))⟩, 0) else (⟨true, bc, oi, oo, nl, rd, ps⟩, 132))) := Lib.hid (by simp [switchM])
      rw [HP.out] at HR
      clear HP
      generalize cmp (srt (ps ++ ps')) = L at *
      have HRi := Lib.hid (rightB_iff ⟨true, bc, oi, oo, nl', rd', L⟩)
      generalize rightB ⟨true, bc, oi, oo, nl', rd', L⟩ = rb at *
      have HTg2 := Lib.hid (HTg.out _ (three w [.bool true, .bool bc, .bool oi, .bool oo, .bool nl, .int .i64 rd, .slice a ps.length c] [.bool true, .bool bc, .bool oi, .bool oo, .bool nl', .int .i64 rd', .slice a' ps'.length c'] [.bool false, .bool false, .bool false, .bool false, .bool false, .int .i64 0, .slice none 0 0] 24 24 24).2.2.2.1)
      simp only [mVv]
      go_enter Tryz.func7, Tryz.ntmps7
      go_wp2_with fail
      refine HTg2.out.mono ?_
      rintro e w2 ⟨v, rfl, hR2⟩
      have H3 := Lib.hid (three w [.bool true, .bool bc, .bool oi, .bool oo, .bool nl, .int .i64 rd, .slice a ps.length c] [.bool true, .bool bc, .bool oi, .bool oo, .bool nl', .int .i64 rd', .slice a' ps'.length c'] [.bool false, .bool false, .bool false, .bool false, .bool false, .int .i64 0, .slice none 0 0] 24 24 24)
      have HA := Lib.hid (H3.out.1.below hR2.bel)
      have HB := Lib.hid (H3.out.2.1.below hR2.bel)
      have HD := Lib.hid (H3.out.2.2.1.below hR2.bel)
      have HRB := Lib.hid (hR2.toB H3.out.2.2.2.1)
      rw [H3.out.2.2.2.2] at HRB
      clear HTg HTg2 H3
      obtain ⟨sa, sc, rfl, -, -, -, -⟩ := hR2.slice
      clear hR2
      have b6 := HB.out.at 6 rfl
      have p6 := HB.out.f 6 (by simp)
      have HA3 := Lib.hid (HA.out.other (b' := w.heap.size + 1) (by omega) 6 (.slice sa L.length sc))
      have HB3 := Lib.hid (HB.out.set 6 (.slice sa L.length sc))
      have HD3 := Lib.hid (HD.out.other (b' := w.heap.size + 1) (by omega) 6 (.slice sa L.length sc))
      have HR3 := Lib.hid (HRB.out.set (b := w.heap.size + 1) (by omega) (by omega) 6 (.slice sa L.length sc))
      clear HA HB HD HRB
      go_upto_region 6 with fail
      clear b6 p6
      generalize w2.setCell ⟨w.heap.size + 1, 6, none⟩ (.slice sa L.length sc) = w3 at *
      have HB3 : Hid (CellL w3 (w.heap.size + 1) [.bool true, .bool bc, .bool oi, .bool oo, .bool nl', .int .i64 rd', .slice sa L.length sc]) := HB3
      have HRt := Lib.hid (right_calls w3 ⟨true, bc, oi, oo, nl', rd', L⟩ sa sc (by obtain ⟨x, y, e, -, -, -, h⟩ := HR3.out.ins; cases e; exact h) HLen.out rb HRi.out)
      unfold mV at HRt
      simp only at HRt
      have b0 := HB3.out.at 0 rfl
      have b1 := HB3.out.at 1 rfl
      have b2 := HB3.out.at 2 rfl
      have b3 := HB3.out.at 3 rfl
      have b4 := HB3.out.at 4 rfl
      have b5 := HB3.out.at 5 rfl
      have b6 := HB3.out.at 6 rfl
      go_wp2_with fail
      refine HRt.out.mono ?_
      rintro e w4 ⟨rfl, hb4⟩
      have HA4 := Lib.hid (HA3.out.below hb4)
      have HB4 := Lib.hid (HB3.out.below hb4)
      have HD4 := Lib.hid (HD3.out.below hb4)
      have HR4 := Lib.hid (HR3.out.bel hb4)
      clear HA3 HB3 HD3 HR3 hb4 b0 b1 b2 b3 b4 b5 b6 HRt HRi
      cases rb with
      | false =>
        have e := HR.out
        simp at e
        obtain ⟨rfl, rfl⟩ := e
        clear HR HB4
        have a0 := HA4.out.at 0 rfl
        have a1 := HA4.out.at 1 rfl
        have a2 := HA4.out.at 2 rfl
        have a3 := HA4.out.at 3 rfl
        have a4 := HA4.out.at 4 rfl
        have a5 := HA4.out.at 5 rfl
        have a6 := HA4.out.at 6 rfl
        go_wp2_with fail
        refine (HCm.out _ HR4.out.2).mono ?_
        rintro e w5 ⟨v5, rfl, hR5⟩
        obtain ⟨sa5, sc5, rfl, -, -, -, -⟩ := hR5.slice
        have HD5 := Lib.hid (HD4.out.below hR5.bel)
        have HS5 : Hid (w.heap.size + 2 < w4.heap.size) := Lib.hid HD4.out.lt
        have HRR := Lib.hid (hR5.toB HR4.out.2)
        clear hR5 HD4 HA4 HR4 a0 a1 a2 a3 a4 a5 a6
        have d0 := HD5.out.at 0 rfl
        have g0 := HD5.out.f 0 (by simp)
        have d1 := HD5.out.at 1 rfl
        have g1 := HD5.out.f 1 (by simp)
        have d2 := HD5.out.at 2 rfl
        have g2 := HD5.out.f 2 (by simp)
        have d3 := HD5.out.at 3 rfl
        have g3 := HD5.out.f 3 (by simp)
        have d4 := HD5.out.at 4 rfl
        have g4 := HD5.out.f 4 (by simp)
        have d5 := HD5.out.at 5 rfl
        have g5 := HD5.out.f 5 (by simp)
        have d6 := HD5.out.at 6 rfl
        have g6 := HD5.out.f 6 (by simp)
        go_wp2_with fail
        exact bodyPost_ret (v := .tuple #[.agg #[.bool true, .bool bc, .bool oi, .bool oo, .bool nl, .int .i64 rd, .slice sa5 ps.length sc5], .int .i64 132]) (by simp [results, Tryz.results7, go_sem, d0, d1, d2, d3, d4, d5, d6]) rfl
          ⟨_, rfl, (HRR.out.sets7 (by omega) HS5.out _ _ _ _ _ _ _).toS (by have := HS5.out; omega)⟩
      | true =>
        have e := HR.out
        simp at e
        obtain ⟨rfl, rfl⟩ := e
        clear HR HA4 HCm
        have b0 := HB4.out.at 0 rfl
        have b1 := HB4.out.at 1 rfl
        have b2 := HB4.out.at 2 rfl
        have b3 := HB4.out.at 3 rfl
        have b4 := HB4.out.at 4 rfl
        have b5 := HB4.out.at 5 rfl
        have b6 := HB4.out.at 6 rfl
        have d0 := HD4.out.at 0 rfl
        have g0 := HD4.out.f 0 (by simp)
        have d1 := HD4.out.at 1 rfl
        have g1 := HD4.out.f 1 (by simp)
        have d2 := HD4.out.at 2 rfl
        have g2 := HD4.out.f 2 (by simp)
        have d3 := HD4.out.at 3 rfl
        have g3 := HD4.out.f 3 (by simp)
        have d4 := HD4.out.at 4 rfl
        have g4 := HD4.out.f 4 (by simp)
        have d5 := HD4.out.at 5 rfl
        have g5 := HD4.out.f 5 (by simp)
        have d6 := HD4.out.at 6 rfl
        have g6 := HD4.out.f 6 (by simp)
        go_wp2_with fail
        exact bodyPost_ret (v := .tuple #[.agg #[.bool true, .bool bc, .bool oi, .bool oo, .bool nl', .int .i64 rd', .slice sa L.length sc], .int .i64 0]) (by simp [results, Tryz.results7, go_sem, d0, d1, d2, d3, d4, d5, d6]) rfl
          ⟨_, rfl, (HR4.out.sets7 (by omega) (by omega) _ _ _ _ _ _ _).toS (by omega)⟩
end Go.Proofs.YtjpbpdjomfkkeaaGreatDoor.Ma
