/- Package mode: Parse. No condition but bounds. -/
import Derived.Test.YtjpbpdjomfkkeaaGreatDoorMc4
namespace Go.Proofs.YtjpbpdjomfkkeaaGreatDoor.Ma
set_option linter.unusedVariables false
set_option linter.unusedSimpArgs false
open Go.ChangeShapes Go.WideShapes Go.ChangeAt Go.RowKit Go.Sort
open Go.Proofs.YtjpbpdjomfkkeaaGreatDoor.Sp (bstep bbox Hp Th cellsT rowT Mvd mvd1 Fr)
theorem sort_H {o w : World} {rest : List Th} {v : Value} {l : List BA} (h : Hp o w (rowST v l :: rest)) (hl : l.length ≤ 1000000) :
    Calls Tryz.prog 25 #[v] w fun e w' => e = .returned (.tuple #[]) ∧ Hp o w' (rowST v (srt l) :: rest) := by
  refine (h.call1 (Below.refl _ _) (X := fun e => e = .returned (.tuple #[])) (ts := [rowST v (srt l)]) fun {A R} k hA hR hAR => ?_).mono (fun e w' ⟨h1, h2, _⟩ => ⟨h1, h2⟩)
  rcases k.2.2 with ⟨rfl, hn⟩ | ⟨g, cap, cur, rfl, hbase, hb, h1, h2, h3, h4⟩
  · have e : l = [] := List.length_eq_zero_iff.1 hn
    subst e
    refine (Any.slices_Sort_string_none Tryz.lays190 none 0 w).mono ?_
    rintro e w' ⟨rfl, rfl⟩
    exact ⟨rfl, mvd1 (A' := A) k (Fr.refl _) hR hAR fun x hx => .inl hx⟩
  · have h5 : cur.toList.take (l.map tl).length = (l.map tl).map encStr := by
      rw [List.length_map, ← cellsS_enc, ← h4, Nat.mul_one]
    have hH := holds_of_block hb h5
    have hg : g < w.heap.size := (Array.getElem?_eq_some_iff.1 hb).1
    have hS := Any.slices_Sort_string Tryz.lays190 g 0 cap (l.map tl) w hH hg (by rw [List.length_map]; omega)
    rw [List.length_map, sort_srt] at hS
    refine hS.mono ?_
    rintro e w' ⟨rfl, n, os, rfl⟩
    have hgr := grownBy_sorted (w := w) (g := g) (n := n) (os := os) ((srt l).map tl).toArray
    refine ⟨rfl, mvd1 (A' := A) ⟨k.1, ?_⟩ ⟨hgr.os, hgr.tape, hgr.output, hgr.size, fun i hi hn => hgr.block i hi fun e => hn ((k.1 i).2 e.symm)⟩ hR hAR fun x hx => .inl hx⟩
    have := ownsRow_sorted (base := 0) (n := n) (os := os) (ss := l.map tl) (ts := (srt l).map tl) (by simp [srt_len]) (Nat.zero_le _) hb (by rw [List.length_map]; exact h1) h2 h3
    rw [List.length_map] at this
    rw [cellsS_enc, srt_len]
    exact this
theorem parse_read (ws : List BA) : parseM ws = (match readM ws with | none => (zero, 131) | some m => if m.on then endM m else (zero, 0)) := by
  cases ws with
  | nil => rfl
  | cons w r =>
    unfold parseM readM
    cases h0 : isW w wOn with
    | true =>
      simp only [h0, if_true]
      cases h1 : run onM r with
      | none => rfl
      | some m =>
        have e : m.on = true := run_on r onM m h1
        simp only [e, if_true]
    | false =>
      simp only [h0, Bool.false_eq_true, if_false]
      cases h2 : isW w wOff with
      | true =>
        simp only [h2, if_true]
        cases h1 : run zero r with
        | none => rfl
        | some m =>
          have e : m.on = false := run_on r zero m h1
          simp only [e, Bool.false_eq_true, if_false]
      | false => simp only [h2, Bool.false_eq_true, if_false]
theorem run_ps : ∀ (l : List BA) (m m' : Md), run m l = some m' → m'.ps.length ≤ m.ps.length + l.length
  | [], m, m', h => by simp [run] at h; simp [h]
  | [w], m, m', h => by
    simp only [run] at h
    repeat' split at h
    all_goals first | (obtain rfl := Option.some.inj h; simp) | cases h
  | w :: x :: r, m, m', h => by
    simp only [run] at h
    repeat' split at h
    all_goals first | contradiction | (have k := run_ps (x :: r) _ _ h; simp at k ⊢; omega) | (have k := run_ps r _ _ h; simp at k ⊢; omega)
theorem read_ps (ws : List BA) (m : Md) (h : readM ws = some m) : m.ps.length ≤ ws.length := by
  cases ws with
  | nil => cases h
  | cons w r =>
    change (if isW w wOn = true then _ else if isW w wOff = true then _ else _) = _ at h
    repeat' split at h
    · have := run_ps r _ _ h; simp [onM, zero] at this; simp; omega
    · have := run_ps r _ _ h; simp [zero] at this; simp; omega
    · cases h
set_option maxHeartbeats 16000000 in
set_option maxRecDepth 100000 in
theorem parse_calls (o : World) (a : Option Addr) (n c : Nat) (ws : List BA) (hX : MCtx o) (hW : InS o a ws) (hn : n = ws.length) (hc : n ≤ c) (hcb : c ≤ 9223372036854775807) (hb : n ≤ 1000) (hs : ∀ x ∈ ws, x.size ≤ 1000000) (r : Md) (k : Int) (hr : parseM ws = (r, k)) :
    Calls Tryz.prog 18 #[.slice a n c] o fun e w' => ∃ v, e = .returned (.tuple #[mVv r v, .int .i64 k]) ∧ RowS o w' v r.ps := by
  have HR := Lib.hid ((parse_read ws).symm.trans hr)
  have HPS := Lib.hid (read_ps ws)
  obtain ⟨R, hR⟩ : ∃ R, readM ws = R := ⟨_, rfl⟩
  rw [hR] at HR HPS
  have h1 := (Hp.nil (Below.refl o.heap.size o)).cellsNew [.bool false, .bool false, .bool false, .bool false, .bool false, .int .i64 0, .slice none 0 0] 24
  have H1 : Hid (Hp o (o.alloc (.cells #[.bool false, .bool false, .bool false, .bool false, .bool false, .int .i64 0, .slice none 0 0] 24)) [cellsT o.heap.size [.bool false, .bool false, .bool false, .bool false, .bool false, .int .i64 0, .slice none 0 0]]) := Lib.hid h1
  have HRd := Lib.hid (fun ok hok => read_calls (o.alloc (.cells #[.bool false, .bool false, .bool false, .bool false, .bool false, .int .i64 0, .slice none 0 0] 24)) a n c ws (hX.below (bbox _)) (hW.bel (bbox _)) hn hc hcb hb hs R hR ok hok)
  have HN : Hid (∀ m, R = some m → m.ps.length ≤ 1000) := Lib.hid (fun m h => by have := HPS.out m h; omega)
  clear hX hW hn hs hr h1 hR HPS
  unfold mVv at HRd
  go_enter Tryz.func18, Tryz.ntmps18
  go_upto_region 1 with fail
  generalize (o.alloc (.cells #[.bool false, .bool false, .bool false, .bool false, .bool false, .int .i64 0, .slice none 0 0] 24)) = w1 at *
  generalize o.heap.size = b0 at *
  cases hR : R with
  | none =>
    subst hR
    have e := HR.out
    injection e with e1 e2
    subst e1 e2
    go_wp2_with fail
    refine (HRd.out false rfl).mono ?_
    rintro e w2 ⟨m, v, rfl, hRow, -⟩
    obtain ⟨ra, rc, rfl, -, -, -, -⟩ := hRow.slice
    have H2 := Lib.hid (H1.out.rowAdd hRow.bel hRow.row (Nat.le_refl _))
    have hlt : b0 < w2.heap.size := (H2.out.pull 1 rfl).cellsLt
    have H3 : Hid (Hp o (w2.alloc (.cells #[.bool m.on, .bool m.bc, .bool m.oi, .bool m.oo, .bool m.nl, .int .i64 m.rd, .slice ra m.ps.length rc] 24)) (cellsT w2.heap.size (mL m (.slice ra m.ps.length rc)) :: rowST (.slice ra m.ps.length rc) m.ps :: [cellsT b0 [.bool false, .bool false, .bool false, .bool false, .bool false, .int .i64 0, .slice none 0 0]])) := Lib.hid (H2.out.cellsNew (mL m (.slice ra m.ps.length rc)) 24)
    clear hRow H1 HRd
    go_upto_region 2 with fail
    generalize w2.alloc (.cells #[.bool m.on, .bool m.bc, .bool m.oi, .bool m.oo, .bool m.nl, .int .i64 m.rd, .slice ra m.ps.length rc] 24) = w3 at *
    generalize w2.heap.size = b1 at *
    clear H2
    have d0 := (H3.out.pull 2 rfl).cell 0 rfl
    have g0 := (H3.out.pull 2 rfl).free 0 rfl
    have d1 := (H3.out.pull 2 rfl).cell 1 rfl
    have g1 := (H3.out.pull 2 rfl).free 1 rfl
    have d2 := (H3.out.pull 2 rfl).cell 2 rfl
    have g2 := (H3.out.pull 2 rfl).free 2 rfl
    have d3 := (H3.out.pull 2 rfl).cell 3 rfl
    have g3 := (H3.out.pull 2 rfl).free 3 rfl
    have d4 := (H3.out.pull 2 rfl).cell 4 rfl
    have g4 := (H3.out.pull 2 rfl).free 4 rfl
    have d5 := (H3.out.pull 2 rfl).cell 5 rfl
    have g5 := (H3.out.pull 2 rfl).free 5 rfl
    have d6 := (H3.out.pull 2 rfl).cell 6 rfl
    have g6 := (H3.out.pull 2 rfl).free 6 rfl
    have HS7 := Lib.hid (sets7H (H3.out.pull 2 rfl) (.bool false) (.bool false) (.bool false) (.bool false) (.bool false) (.int .i64 0) (.slice none 0 0))
    go_wp2_with fail
    exact bodyPost_ret (v := .tuple #[.agg #[.bool false, .bool false, .bool false, .bool false, .bool false, .int .i64 0, .slice none 0 0], .int .i64 131]) (by simp [results, Tryz.results18, go_sem, d0, d1, d2, d3, d4, d5, d6]) rfl ⟨.slice none 0 0, rfl, rowS_nil HS7.out.below⟩
  | some m0 =>
    subst hR
    have e := HR.out
    have hps := HN.out m0 rfl
    have HRd2 := Lib.hid (HRd.out true rfl)
    clear HRd HN
    go_wp2_with fail
    refine HRd2.out.mono ?_
    rintro e w2 ⟨m, v, rfl, hRow, hm⟩
    obtain rfl : m = m0 := hm m0 rfl
    clear hm
    obtain ⟨ra, rc, rfl, -, -, -, -⟩ := hRow.slice
    have H2 := Lib.hid (H1.out.rowAdd hRow.bel hRow.row (Nat.le_refl _))
    have hlt : b0 < w2.heap.size := (H2.out.pull 1 rfl).cellsLt
    have H3 : Hid (Hp o (w2.alloc (.cells #[.bool m.on, .bool m.bc, .bool m.oi, .bool m.oo, .bool m.nl, .int .i64 m.rd, .slice ra m.ps.length rc] 24)) (cellsT w2.heap.size (mL m (.slice ra m.ps.length rc)) :: rowST (.slice ra m.ps.length rc) m.ps :: [cellsT b0 [.bool false, .bool false, .bool false, .bool false, .bool false, .int .i64 0, .slice none 0 0]])) := Lib.hid (H2.out.cellsNew (mL m (.slice ra m.ps.length rc)) 24)
    clear hRow H1 HRd2 e
    go_upto_region 2 with fail
    generalize w2.alloc (.cells #[.bool m.on, .bool m.bc, .bool m.oi, .bool m.oo, .bool m.nl, .int .i64 m.rd, .slice ra m.ps.length rc] 24) = w3 at *
    generalize w2.heap.size = b1 at *
    clear H2
    have c0 := (H3.out).cell 0 rfl
    have c1 := (H3.out).cell 1 rfl
    have c2 := (H3.out).cell 2 rfl
    have c3 := (H3.out).cell 3 rfl
    have c4 := (H3.out).cell 4 rfl
    have c5 := (H3.out).cell 5 rfl
    have c6 := (H3.out).cell 6 rfl
    have HR := HR
    cases hon : m.on with
    | false =>
      have e := HR.out
      simp only [hon, Bool.false_eq_true, if_false] at e
      injection e with e1 e2
      subst e1 e2
      rw [hon] at c0
      have d0 := (H3.out.pull 2 rfl).cell 0 rfl
      have g0 := (H3.out.pull 2 rfl).free 0 rfl
      have d1 := (H3.out.pull 2 rfl).cell 1 rfl
      have g1 := (H3.out.pull 2 rfl).free 1 rfl
      have d2 := (H3.out.pull 2 rfl).cell 2 rfl
      have g2 := (H3.out.pull 2 rfl).free 2 rfl
      have d3 := (H3.out.pull 2 rfl).cell 3 rfl
      have g3 := (H3.out.pull 2 rfl).free 3 rfl
      have d4 := (H3.out.pull 2 rfl).cell 4 rfl
      have g4 := (H3.out.pull 2 rfl).free 4 rfl
      have d5 := (H3.out.pull 2 rfl).cell 5 rfl
      have g5 := (H3.out.pull 2 rfl).free 5 rfl
      have d6 := (H3.out.pull 2 rfl).cell 6 rfl
      have g6 := (H3.out.pull 2 rfl).free 6 rfl
      have HS7 := Lib.hid (sets7H (H3.out.pull 2 rfl) (.bool false) (.bool false) (.bool false) (.bool false) (.bool false) (.int .i64 0) (.slice none 0 0))
      go_wp2_with fail
      exact bodyPost_ret (v := .tuple #[.agg #[.bool false, .bool false, .bool false, .bool false, .bool false, .int .i64 0, .slice none 0 0], .int .i64 0]) (by simp [results, Tryz.results18, go_sem, d0, d1, d2, d3, d4, d5, d6]) rfl ⟨.slice none 0 0, rfl, rowS_nil HS7.out.below⟩
    | true =>
      have HE : Hid (endM m = (r, k)) := Lib.hid (by have e := HR.out; simp only [hon, if_true] at e; exact e)
      rw [hon] at c0
      clear HR
      cases hbc : m.bc with
      | false =>
        have HNo : Hid (¬ (m.bc = true ∧ m.ps.length = 0)) := Lib.hid (fun h => by rw [hbc] at h; cases h.1)
        rw [hbc] at c1
        have HL : Hid (allOf m = srt m.ps) := Lib.hid (by unfold allOf; rw [if_neg HNo.out])
        have HLn : Hid ((srt m.ps).length ≤ 1000000) := Lib.hid (by rw [srt_len]; omega)
        have HSo := Lib.hid (sort_H (H3.out.pull 1 rfl) (by omega))
        obtain ⟨L, hL⟩ : ∃ L, srt m.ps = L := ⟨_, rfl⟩
        have hLl : m.ps.length = L.length := by rw [← hL, srt_len]
        rw [hL] at HL HLn HSo
        have HLl := Lib.hid hLl
        clear hL hLl HNo
        go_wp2_with fail
        refine HSo.out.mono ?_
        rintro e w5 ⟨rfl, h5⟩
        have h6 := h5.pull 1 rfl
        unfold mL at h6
        rw [hon, hbc, HLl.out] at h6
        have H5 := Lib.hid h6
        clear h5 h6 HSo H3 c0 c1 c2 c3 c4 c5 c6
        go_upto_region 9 with fail
        have HE2 : Hid ((if rightB { m with ps := L } then ({ m with ps := L }, 0) else (zero, 132)) = (r, k)) := Lib.hid (by have e := HE.out; unfold endM at e; rw [HL.out] at e; exact e)
        have HRi := Lib.hid (rightB_iff { m with ps := L })
        generalize rightB { m with ps := L } = rb at *
        have HRt := Lib.hid (right_calls _ { m with ps := L } ra rc (by obtain ⟨x, y, e, -, -, -, h⟩ := (rowS_of (H5.out.pull 1 rfl)).slice; injection e with e1 e2 e3; rw [e1]; exact h) HLn.out rb HRi.out)
        unfold mV at HRt
        simp only [hon, hbc] at HRt
        clear HE HL HRi
        have x0 := (H5.out).cell 0 rfl
        have x1 := (H5.out).cell 1 rfl
        have x2 := (H5.out).cell 2 rfl
        have x3 := (H5.out).cell 3 rfl
        have x4 := (H5.out).cell 4 rfl
        have x5 := (H5.out).cell 5 rfl
        have x6 := (H5.out).cell 6 rfl
        go_wp2_with fail
        refine HRt.out.mono ?_
        rintro e w6 ⟨rfl, hb6⟩
        have H6 := Lib.hid (H5.out.bel hb6)
        clear hb6 HRt H5 x0 x1 x2 x3 x4 x5 x6
        cases rb with
        | false =>
          have e := HE2.out
          simp only [Bool.false_eq_true, if_false] at e
          injection e with e1 e2
          subst e1 e2
          have d0 := (H6.out.pull 2 rfl).cell 0 rfl
          have g0 := (H6.out.pull 2 rfl).free 0 rfl
          have d1 := (H6.out.pull 2 rfl).cell 1 rfl
          have g1 := (H6.out.pull 2 rfl).free 1 rfl
          have d2 := (H6.out.pull 2 rfl).cell 2 rfl
          have g2 := (H6.out.pull 2 rfl).free 2 rfl
          have d3 := (H6.out.pull 2 rfl).cell 3 rfl
          have g3 := (H6.out.pull 2 rfl).free 3 rfl
          have d4 := (H6.out.pull 2 rfl).cell 4 rfl
          have g4 := (H6.out.pull 2 rfl).free 4 rfl
          have d5 := (H6.out.pull 2 rfl).cell 5 rfl
          have g5 := (H6.out.pull 2 rfl).free 5 rfl
          have d6 := (H6.out.pull 2 rfl).cell 6 rfl
          have g6 := (H6.out.pull 2 rfl).free 6 rfl
          have HS7 := Lib.hid (sets7H (H6.out.pull 2 rfl) (.bool false) (.bool false) (.bool false) (.bool false) (.bool false) (.int .i64 0) (.slice none 0 0))
          go_wp2_with fail
          exact bodyPost_ret (v := .tuple #[.agg #[.bool false, .bool false, .bool false, .bool false, .bool false, .int .i64 0, .slice none 0 0], .int .i64 132]) (by simp [results, Tryz.results18, go_sem, d0, d1, d2, d3, d4, d5, d6]) rfl ⟨.slice none 0 0, rfl, rowS_nil HS7.out.below⟩
        | true =>
          have e := HE2.out
          simp only [if_true] at e
          injection e with e1 e2
          subst e1 e2
          have x0 := (H6.out).cell 0 rfl
          have x1 := (H6.out).cell 1 rfl
          have x2 := (H6.out).cell 2 rfl
          have x3 := (H6.out).cell 3 rfl
          have x4 := (H6.out).cell 4 rfl
          have x5 := (H6.out).cell 5 rfl
          have x6 := (H6.out).cell 6 rfl
          have d0 := (H6.out.pull 2 rfl).cell 0 rfl
          have g0 := (H6.out.pull 2 rfl).free 0 rfl
          have d1 := (H6.out.pull 2 rfl).cell 1 rfl
          have g1 := (H6.out.pull 2 rfl).free 1 rfl
          have d2 := (H6.out.pull 2 rfl).cell 2 rfl
          have g2 := (H6.out.pull 2 rfl).free 2 rfl
          have d3 := (H6.out.pull 2 rfl).cell 3 rfl
          have g3 := (H6.out.pull 2 rfl).free 3 rfl
          have d4 := (H6.out.pull 2 rfl).cell 4 rfl
          have g4 := (H6.out.pull 2 rfl).free 4 rfl
          have d5 := (H6.out.pull 2 rfl).cell 5 rfl
          have g5 := (H6.out.pull 2 rfl).free 5 rfl
          have d6 := (H6.out.pull 2 rfl).cell 6 rfl
          have g6 := (H6.out.pull 2 rfl).free 6 rfl
          have HS7 := Lib.hid (sets7H (H6.out.pull 2 rfl) (.bool true) (.bool false) (.bool m.oi) (.bool m.oo) (.bool m.nl) (.int .i64 m.rd) (.slice ra L.length rc))
          go_wp2_with fail
          exact bodyPost_ret (v := .tuple #[.agg #[.bool true, .bool false, .bool m.oi, .bool m.oo, .bool m.nl, .int .i64 m.rd, .slice ra L.length rc], .int .i64 0]) (by simp [results, Tryz.results18, go_sem, d0, d1, d2, d3, d4, d5, d6]) rfl ⟨.slice ra L.length rc, by first | rfl | simp [mVv, *], rowS_of (HS7.out.pull 2 rfl)⟩
      | true =>
        rw [hbc] at c1
        by_cases h0 : m.ps.length = 0
        case neg =>
          have HNo : Hid (¬ (m.bc = true ∧ m.ps.length = 0)) := Lib.hid (fun h => h0 h.2)
          have h0b : ((m.ps.length : Int) == 0) = false := by rw [beq_eq_false_iff_ne]; omega
          have HL : Hid (allOf m = srt m.ps) := Lib.hid (by unfold allOf; rw [if_neg HNo.out])
          have HLn : Hid ((srt m.ps).length ≤ 1000000) := Lib.hid (by rw [srt_len]; omega)
          have HSo := Lib.hid (sort_H (H3.out.pull 1 rfl) (by omega))
          obtain ⟨L, hL⟩ : ∃ L, srt m.ps = L := ⟨_, rfl⟩
          have hLl : m.ps.length = L.length := by rw [← hL, srt_len]
          rw [hL] at HL HLn HSo
          have HLl := Lib.hid hLl
          clear hL hLl HNo
          go_wp2_with fail
          refine HSo.out.mono ?_
          rintro e w5 ⟨rfl, h5⟩
          have h6 := h5.pull 1 rfl
          unfold mL at h6
          rw [hon, hbc, HLl.out] at h6
          have H5 := Lib.hid h6
          clear h5 h6 HSo H3 c0 c1 c2 c3 c4 c5 c6
          go_upto_region 9 with fail
          have HE2 : Hid ((if rightB { m with ps := L } then ({ m with ps := L }, 0) else (zero, 132)) = (r, k)) := Lib.hid (by have e := HE.out; unfold endM at e; rw [HL.out] at e; exact e)
          have HRi := Lib.hid (rightB_iff { m with ps := L })
          generalize rightB { m with ps := L } = rb at *
          have HRt := Lib.hid (right_calls _ { m with ps := L } ra rc (by obtain ⟨x, y, e, -, -, -, h⟩ := (rowS_of (H5.out.pull 1 rfl)).slice; injection e with e1 e2 e3; rw [e1]; exact h) HLn.out rb HRi.out)
          unfold mV at HRt
          simp only [hon, hbc] at HRt
          clear HE HL HRi
          have x0 := (H5.out).cell 0 rfl
          have x1 := (H5.out).cell 1 rfl
          have x2 := (H5.out).cell 2 rfl
          have x3 := (H5.out).cell 3 rfl
          have x4 := (H5.out).cell 4 rfl
          have x5 := (H5.out).cell 5 rfl
          have x6 := (H5.out).cell 6 rfl
          go_wp2_with fail
          refine HRt.out.mono ?_
          rintro e w6 ⟨rfl, hb6⟩
          have H6 := Lib.hid (H5.out.bel hb6)
          clear hb6 HRt H5 x0 x1 x2 x3 x4 x5 x6
          cases rb with
          | false =>
            have e := HE2.out
            simp only [Bool.false_eq_true, if_false] at e
            injection e with e1 e2
            subst e1 e2
            have d0 := (H6.out.pull 2 rfl).cell 0 rfl
            have g0 := (H6.out.pull 2 rfl).free 0 rfl
            have d1 := (H6.out.pull 2 rfl).cell 1 rfl
            have g1 := (H6.out.pull 2 rfl).free 1 rfl
            have d2 := (H6.out.pull 2 rfl).cell 2 rfl
            have g2 := (H6.out.pull 2 rfl).free 2 rfl
            have d3 := (H6.out.pull 2 rfl).cell 3 rfl
            have g3 := (H6.out.pull 2 rfl).free 3 rfl
            have d4 := (H6.out.pull 2 rfl).cell 4 rfl
            have g4 := (H6.out.pull 2 rfl).free 4 rfl
            have d5 := (H6.out.pull 2 rfl).cell 5 rfl
            have g5 := (H6.out.pull 2 rfl).free 5 rfl
            have d6 := (H6.out.pull 2 rfl).cell 6 rfl
            have g6 := (H6.out.pull 2 rfl).free 6 rfl
            have HS7 := Lib.hid (sets7H (H6.out.pull 2 rfl) (.bool false) (.bool false) (.bool false) (.bool false) (.bool false) (.int .i64 0) (.slice none 0 0))
            go_wp2_with fail
            exact bodyPost_ret (v := .tuple #[.agg #[.bool false, .bool false, .bool false, .bool false, .bool false, .int .i64 0, .slice none 0 0], .int .i64 132]) (by simp [results, Tryz.results18, go_sem, d0, d1, d2, d3, d4, d5, d6]) rfl ⟨.slice none 0 0, rfl, rowS_nil HS7.out.below⟩
          | true =>
            have e := HE2.out
            simp only [if_true] at e
            injection e with e1 e2
            subst e1 e2
            have x0 := (H6.out).cell 0 rfl
            have x1 := (H6.out).cell 1 rfl
            have x2 := (H6.out).cell 2 rfl
            have x3 := (H6.out).cell 3 rfl
            have x4 := (H6.out).cell 4 rfl
            have x5 := (H6.out).cell 5 rfl
            have x6 := (H6.out).cell 6 rfl
            have d0 := (H6.out.pull 2 rfl).cell 0 rfl
            have g0 := (H6.out.pull 2 rfl).free 0 rfl
            have d1 := (H6.out.pull 2 rfl).cell 1 rfl
            have g1 := (H6.out.pull 2 rfl).free 1 rfl
            have d2 := (H6.out.pull 2 rfl).cell 2 rfl
            have g2 := (H6.out.pull 2 rfl).free 2 rfl
            have d3 := (H6.out.pull 2 rfl).cell 3 rfl
            have g3 := (H6.out.pull 2 rfl).free 3 rfl
            have d4 := (H6.out.pull 2 rfl).cell 4 rfl
            have g4 := (H6.out.pull 2 rfl).free 4 rfl
            have d5 := (H6.out.pull 2 rfl).cell 5 rfl
            have g5 := (H6.out.pull 2 rfl).free 5 rfl
            have d6 := (H6.out.pull 2 rfl).cell 6 rfl
            have g6 := (H6.out.pull 2 rfl).free 6 rfl
            have HS7 := Lib.hid (sets7H (H6.out.pull 2 rfl) (.bool true) (.bool true) (.bool m.oi) (.bool m.oo) (.bool m.nl) (.int .i64 m.rd) (.slice ra L.length rc))
            go_wp2_with fail
            exact bodyPost_ret (v := .tuple #[.agg #[.bool true, .bool true, .bool m.oi, .bool m.oo, .bool m.nl, .int .i64 m.rd, .slice ra L.length rc], .int .i64 0]) (by simp [results, Tryz.results18, go_sem, d0, d1, d2, d3, d4, d5, d6]) rfl ⟨.slice ra L.length rc, by first | rfl | simp [mVv, *], rowS_of (HS7.out.pull 2 rfl)⟩
        case pos =>
          have HL : Hid (allOf m = [mk []]) := Lib.hid (by unfold allOf; rw [if_pos ⟨hbc, h0⟩])
          have h0b : ((m.ps.length : Int) == 0) = true := by rw [h0]; rfl
          have hrow : (w3.alloc (.cells #[.string ⟨#[]⟩] 9)).ownsRow w3.heap.size 9 1 (.slice (some ⟨w3.heap.size, 0, none⟩) 1 1) [mk []].length (cellsS [mk []]) :=
            ⟨rfl, .inr ⟨w3.heap.size, 1, #[.string ⟨#[]⟩], rfl, Nat.le_refl _, heap_alloc_new w3 _, Nat.le_refl _, by unfold maxLen; omega, rfl, rfl⟩⟩
          have h4 := (((H3.out.dropAt 1 rfl).rowAdd (bbox _) hrow (Nat.le_refl _)).pull 1 rfl)
          have f6 := h4.free 6 rfl
          have y6 := h4.cell 6 rfl
          have h5 := h4.cellSet 6 (.slice (some ⟨w3.heap.size, 0, none⟩) 1 1) rfl
          have H5a : Hid (Hp o ((w3.alloc (.cells #[.string ⟨#[]⟩] 9)).setCell ⟨b1, 6, none⟩ (.slice (some ⟨w3.heap.size, 0, none⟩) 1 1)) (cellsT b1 [.bool true, .bool true, .bool m.oi, .bool m.oo, .bool m.nl, .int .i64 m.rd, .slice (some ⟨w3.heap.size, 0, none⟩) 1 1] :: rowST (.slice (some ⟨w3.heap.size, 0, none⟩) 1 1) [mk []] :: [cellsT b0 [.bool false, .bool false, .bool false, .bool false, .bool false, .int .i64 0, .slice none 0 0]])) := Lib.hid (by
            have h6 := h5
            unfold mL at h6
            rw [hon, hbc] at h6
            exact h6)
          clear h4 h5 hrow H3
          go_upto_region 8 with fail
          clear f6 y6 c0 c1 c2 c3 c4 c5 c6
          generalize ((w3.alloc (.cells #[.string ⟨#[]⟩] 9)).setCell ⟨b1, 6, none⟩ (.slice (some ⟨w3.heap.size, 0, none⟩) 1 1)) = w4 at *
          generalize (some (⟨w3.heap.size, 0, none⟩ : Addr)) = ra at *
          have c6 := H5a.out.cell 6 rfl
          have HSo := Lib.hid (sort_H (H5a.out.pull 1 rfl) (by simp))
          have hsrt : srt [mk []] = [mk []] := rfl
          rw [hsrt] at HSo
          clear hsrt
          have HLn : Hid ([mk []].length ≤ 1000000) := Lib.hid (by simp)
          go_wp2_with fail
          refine HSo.out.mono ?_
          rintro e w5 ⟨rfl, h5⟩
          have H5 := Lib.hid (h5.pull 1 rfl)
          clear h5 HSo H5a c6
          go_upto_region 9 with fail
          have HE2 : Hid ((if rightB { m with ps := [mk []] } then ({ m with ps := [mk []] }, 0) else (zero, 132)) = (r, k)) := Lib.hid (by have e := HE.out; unfold endM at e; rw [HL.out] at e; exact e)
          have HRi := Lib.hid (rightB_iff { m with ps := [mk []] })
          generalize rightB { m with ps := [mk []] } = rb at *
          have HRt := Lib.hid (right_calls _ { m with ps := [mk []] } ra 1 (by obtain ⟨x, y, e, -, -, -, h⟩ := (rowS_of (H5.out.pull 1 rfl)).slice; injection e with e1 e2 e3; rw [e1]; exact h) HLn.out rb HRi.out)
          unfold mV at HRt
          simp only [hon, hbc] at HRt
          clear HE HL HRi
          have x0 := (H5.out).cell 0 rfl
          have x1 := (H5.out).cell 1 rfl
          have x2 := (H5.out).cell 2 rfl
          have x3 := (H5.out).cell 3 rfl
          have x4 := (H5.out).cell 4 rfl
          have x5 := (H5.out).cell 5 rfl
          have x6 := (H5.out).cell 6 rfl
          go_wp2_with fail
          refine HRt.out.mono ?_
          rintro e w6 ⟨rfl, hb6⟩
          have H6 := Lib.hid (H5.out.bel hb6)
          clear hb6 HRt H5 x0 x1 x2 x3 x4 x5 x6
          cases rb with
          | false =>
            have e := HE2.out
            simp only [Bool.false_eq_true, if_false] at e
            injection e with e1 e2
            subst e1 e2
            have d0 := (H6.out.pull 2 rfl).cell 0 rfl
            have g0 := (H6.out.pull 2 rfl).free 0 rfl
            have d1 := (H6.out.pull 2 rfl).cell 1 rfl
            have g1 := (H6.out.pull 2 rfl).free 1 rfl
            have d2 := (H6.out.pull 2 rfl).cell 2 rfl
            have g2 := (H6.out.pull 2 rfl).free 2 rfl
            have d3 := (H6.out.pull 2 rfl).cell 3 rfl
            have g3 := (H6.out.pull 2 rfl).free 3 rfl
            have d4 := (H6.out.pull 2 rfl).cell 4 rfl
            have g4 := (H6.out.pull 2 rfl).free 4 rfl
            have d5 := (H6.out.pull 2 rfl).cell 5 rfl
            have g5 := (H6.out.pull 2 rfl).free 5 rfl
            have d6 := (H6.out.pull 2 rfl).cell 6 rfl
            have g6 := (H6.out.pull 2 rfl).free 6 rfl
            have HS7 := Lib.hid (sets7H (H6.out.pull 2 rfl) (.bool false) (.bool false) (.bool false) (.bool false) (.bool false) (.int .i64 0) (.slice none 0 0))
            go_wp2_with fail
            exact bodyPost_ret (v := .tuple #[.agg #[.bool false, .bool false, .bool false, .bool false, .bool false, .int .i64 0, .slice none 0 0], .int .i64 132]) (by simp [results, Tryz.results18, go_sem, d0, d1, d2, d3, d4, d5, d6]) rfl ⟨.slice none 0 0, rfl, rowS_nil HS7.out.below⟩
          | true =>
            have e := HE2.out
            simp only [if_true] at e
            injection e with e1 e2
            subst e1 e2
            have x0 := (H6.out).cell 0 rfl
            have x1 := (H6.out).cell 1 rfl
            have x2 := (H6.out).cell 2 rfl
            have x3 := (H6.out).cell 3 rfl
            have x4 := (H6.out).cell 4 rfl
            have x5 := (H6.out).cell 5 rfl
            have x6 := (H6.out).cell 6 rfl
            have d0 := (H6.out.pull 2 rfl).cell 0 rfl
            have g0 := (H6.out.pull 2 rfl).free 0 rfl
            have d1 := (H6.out.pull 2 rfl).cell 1 rfl
            have g1 := (H6.out.pull 2 rfl).free 1 rfl
            have d2 := (H6.out.pull 2 rfl).cell 2 rfl
            have g2 := (H6.out.pull 2 rfl).free 2 rfl
            have d3 := (H6.out.pull 2 rfl).cell 3 rfl
            have g3 := (H6.out.pull 2 rfl).free 3 rfl
            have d4 := (H6.out.pull 2 rfl).cell 4 rfl
            have g4 := (H6.out.pull 2 rfl).free 4 rfl
            have d5 := (H6.out.pull 2 rfl).cell 5 rfl
            have g5 := (H6.out.pull 2 rfl).free 5 rfl
            have d6 := (H6.out.pull 2 rfl).cell 6 rfl
            have g6 := (H6.out.pull 2 rfl).free 6 rfl
            have HS7 := Lib.hid (sets7H (H6.out.pull 2 rfl) (.bool true) (.bool true) (.bool m.oi) (.bool m.oo) (.bool m.nl) (.int .i64 m.rd) (.slice ra 1 1))
            go_wp2_with fail
            exact bodyPost_ret (v := .tuple #[.agg #[.bool true, .bool true, .bool m.oi, .bool m.oo, .bool m.nl, .int .i64 m.rd, .slice ra 1 1], .int .i64 0]) (by simp [results, Tryz.results18, go_sem, d0, d1, d2, d3, d4, d5, d6]) rfl ⟨.slice ra 1 1, by first | rfl | simp [mVv, *], rowS_of (HS7.out.pull 2 rfl)⟩
end Go.Proofs.YtjpbpdjomfkkeaaGreatDoor.Ma
