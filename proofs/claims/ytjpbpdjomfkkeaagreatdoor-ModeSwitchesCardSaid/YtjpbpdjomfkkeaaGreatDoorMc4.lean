/- Package mode: read. No condition but bounds. -/
import Derived.Test.YtjpbpdjomfkkeaaGreatDoorMc3
namespace Go.Proofs.YtjpbpdjomfkkeaaGreatDoor.Ma
set_option linter.unusedVariables false
set_option linter.unusedSimpArgs false
open Go.ChangeShapes Go.WideShapes Go.ChangeAt Go.RowKit
open Go.Proofs.YtjpbpdjomfkkeaaGreatDoor.Sp (bstep bbox Hp Th cellsT rowT)
def readM : List BA → Option Md
  | [] => none
  | x :: r => if isW x wOn then run onM r else if isW x wOff then run zero r else none
/-- A row of one's own, out of things. -/
theorem rowS_of {o w : World} {l : List Th} {v : Value} {ps : List BA} (h : Hp o w (rowST v ps :: l)) : RowS o w v ps :=
  ⟨Sp.row_base h.row _ (fun g hg => h.say fun k hO _ => (hO g ((k.1 g).2 hg)).1), h.below⟩
theorem InS.cut {o : World} {a : Option Addr} {ws : List BA} (h : InS o a ws) (u : Nat) : ∀ a', (∀ b p, a = some ⟨b, p, none⟩ → u < ws.length → a' = some ⟨b, p + u, none⟩) → InS o a' (ws.drop u) := by
  intro a' ha hp
  rw [List.length_drop] at hp
  obtain ⟨b, p, rfl, hlt, hc⟩ := h (by omega)
  refine ⟨b, p + u, ha b p rfl (by omega), hlt, fun i hi => ?_⟩
  rw [List.length_drop] at hi
  rw [Nat.add_assoc, hc (u + i) (by omega), List.getElem_drop]
theorem one_on (m : Md) (ws : List BA) : (one m ws).2.on = m.on := by
  unfold one two
  repeat' split
  all_goals rfl
theorem one_ps (m : Md) (ws : List BA) : (one m ws).2.ps.length ≤ m.ps.length + 1 := by
  unfold one two
  repeat' split
  all_goals simp
theorem sets7H {o W : World} {l : List Th} {b : Nat} {y0 y1 y2 y3 y4 y5 y6 : Value} (h : Hp o W (cellsT b [y0, y1, y2, y3, y4, y5, y6] :: l)) (x0 x1 x2 x3 x4 x5 x6 : Value) :
    Hp o (((((((W.setCell ⟨b, 0, none⟩ x0).setCell ⟨b, 1, none⟩ x1).setCell ⟨b, 2, none⟩ x2).setCell ⟨b, 3, none⟩ x3).setCell ⟨b, 4, none⟩ x4).setCell ⟨b, 5, none⟩ x5).setCell ⟨b, 6, none⟩ x6) (cellsT b [x0, x1, x2, x3, x4, x5, x6] :: l) :=
  ((((((h.cellSet 0 x0 rfl).cellSet 1 x1 rfl).cellSet 2 x2 rfl).cellSet 3 x3 rfl).cellSet 4 x4 rfl).cellSet 5 x5 rfl).cellSet 6 x6 rfl
/-- Between two rounds of read. -/
structure LI (o wr : World) (b1 b0 : Nat) (R : Option Md) (m : Md) (v : Value) (ra : Option Addr) (rn rc : Nat) (ws : List BA) : Prop where
  n : rn = ws.length
  c : rn ≤ rc
  mx : rc ≤ 9223372036854775807
  i : InS o ra ws
  s : ∀ x ∈ ws, x.size ≤ 1000000
  r : run m ws = R
  p : m.ps.length + rn ≤ 1000
  h : Hp o wr (modeH b1 m v ++ [cellsT b0 [.bool false, .bool false, .bool false, .bool false, .bool false, .int .i64 0, .slice none 0 0]])
theorem LI.step {o wr w' : World} {b1 b0 : Nat} {R : Option Md} {m m' : Md} {v v' : Value} {ra ra' : Option Addr} {rn rn' rc rc' u : Nat} {x : BA} {r : List BA} (h : LI o wr b1 b0 R m v ra rn rc (x :: r)) (hu : one m (x :: r) = (u, m')) (h0 : u ≠ 0)
    (hH : Hp o w' (modeH b1 m' v' ++ [cellsT b0 [.bool false, .bool false, .bool false, .bool false, .bool false, .int .i64 0, .slice none 0 0]])) (hn : rn' = rn - u) (hc : rc' = rc - u) (ha : ∀ b p, ra = some ⟨b, p, none⟩ → u < (x :: r).length → ra' = some ⟨b, p + u, none⟩) : LI o w' b1 b0 R m' v' ra' rn' rc' ((x :: r).drop u) := by
  have hul : u ≤ (x :: r).length := by have := one_used m x r; rw [hu] at this; exact this
  have h1 := h.n
  refine ⟨by rw [List.length_drop]; omega, by have := h.c; omega, by have := h.mx; omega, h.i.cut u _ ha, fun y hy => h.s y (List.mem_of_mem_drop hy), ?_, ?_, hH⟩
  · have := run_one m x r
    rw [hu] at this
    simp only [if_neg h0] at this
    rw [← this]; exact h.r
  · have := one_ps m (x :: r)
    rw [hu] at this
    have := h.p
    simp only at *
    omega
set_option maxHeartbeats 16000000 in
set_option maxRecDepth 100000 in
theorem read_calls (o : World) (a : Option Addr) (n c : Nat) (ws : List BA) (hX : MCtx o) (hW : InS o a ws) (hn : n = ws.length) (hc : n ≤ c) (hcb : c ≤ 9223372036854775807) (hb : n ≤ 1000) (hs : ∀ x ∈ ws, x.size ≤ 1000000) (R : Option Md) (hR : readM ws = R) (ok : Bool) (hok : R.isSome = ok) :
    Calls Tryz.prog 24 #[.slice a n c] o fun e w' => ∃ m' v', e = .returned (.tuple #[mVv m' v', .bool ok]) ∧ RowS o w' v' m'.ps ∧ (∀ m1, R = some m1 → m' = m1) := by
  have HX := Lib.hid hX
  have HW := Lib.hid hW
  have HN := Lib.hid hn
  have HS := Lib.hid hs
  have HR := Lib.hid hR
  have HOK := Lib.hid hok
  clear hX hW hn hs hR hok
  have h2 := ((Hp.nil (Below.refl o.heap.size o)).cellsNew [.bool false, .bool false, .bool false, .bool false, .bool false, .int .i64 0, .slice none 0 0] 24).cellsNew [.bool false, .bool false, .bool false, .bool false, .bool false, .int .i64 0, .slice none 0 0] 24
  have e1 : (o.alloc (.cells (List.toArray [.bool false, .bool false, .bool false, .bool false, .bool false, .int .i64 0, .slice none 0 0]) 24)).heap.size = o.heap.size + 1 := by simp
  rw [e1] at h2
  have H0 : Hid (Hp o ((o.alloc (.cells #[.bool false, .bool false, .bool false, .bool false, .bool false, .int .i64 0, .slice none 0 0] 24)).alloc (.cells #[.bool false, .bool false, .bool false, .bool false, .bool false, .int .i64 0, .slice none 0 0] 24)) (modeH (o.heap.size + 1) zero (.slice none 0 0) ++ [cellsT o.heap.size [.bool false, .bool false, .bool false, .bool false, .bool false, .int .i64 0, .slice none 0 0]])) := Lib.hid ((h2.rowNil 9 1).pull 1 rfl)
  clear h2 e1
  unfold mVv
  go_enter Tryz.func24, Tryz.ntmps24
  go_upto_region 2 with fail
  generalize ((o.alloc (.cells #[.bool false, .bool false, .bool false, .bool false, .bool false, .int .i64 0, .slice none 0 0] 24)).alloc (.cells #[.bool false, .bool false, .bool false, .bool false, .bool false, .int .i64 0, .slice none 0 0] 24)) = w1 at *
  generalize hb1 : o.heap.size + 1 = b1 at *
  generalize hb0 : o.heap.size = b0 at *
  clear hb0 hb1
  match ws, HW, HN, HS, HR with
  | [], HW, HN, HS, HR =>
    obtain rfl : n = 0 := HN.out
    obtain rfl : none = R := HR.out
    obtain rfl : false = ok := HOK.out
    obtain ⟨ra, rc, e, -, -, -⟩ := (H0.out.pull 1 rfl).rowForm
    have hz : (0 : Int) == 0 := rfl
    injection e with e1 e2 e3
    subst e1 e3
    clear e2
    have c0 := (H0.out).cell 0 rfl
    have c1 := (H0.out).cell 1 rfl
    have c2 := (H0.out).cell 2 rfl
    have c3 := (H0.out).cell 3 rfl
    have c4 := (H0.out).cell 4 rfl
    have c5 := (H0.out).cell 5 rfl
    have c6 := (H0.out).cell 6 rfl
    have d0 := (H0.out.pull 2 rfl).cell 0 rfl
    have g0 := (H0.out.pull 2 rfl).free 0 rfl
    have d1 := (H0.out.pull 2 rfl).cell 1 rfl
    have g1 := (H0.out.pull 2 rfl).free 1 rfl
    have d2 := (H0.out.pull 2 rfl).cell 2 rfl
    have g2 := (H0.out.pull 2 rfl).free 2 rfl
    have d3 := (H0.out.pull 2 rfl).cell 3 rfl
    have g3 := (H0.out.pull 2 rfl).free 3 rfl
    have d4 := (H0.out.pull 2 rfl).cell 4 rfl
    have g4 := (H0.out.pull 2 rfl).free 4 rfl
    have d5 := (H0.out.pull 2 rfl).cell 5 rfl
    have g5 := (H0.out.pull 2 rfl).free 5 rfl
    have d6 := (H0.out.pull 2 rfl).cell 6 rfl
    have g6 := (H0.out.pull 2 rfl).free 6 rfl
    have HS7 := Lib.hid (sets7H (H0.out.pull 2 rfl) (.bool zero.on) (.bool zero.bc) (.bool zero.oi) (.bool zero.oo) (.bool zero.nl) (.int .i64 zero.rd) (.slice none 0 0))
    go_wp2_with fail
    exact bodyPost_ret (v := .tuple #[.agg #[.bool zero.on, .bool zero.bc, .bool zero.oi, .bool zero.oo, .bool zero.nl, .int .i64 zero.rd, .slice none 0 0], .bool false]) (by simp [results, Tryz.results24, go_sem, d0, d1, d2, d3, d4, d5, d6]) rfl ⟨zero, .slice none 0 0, rfl, rowS_of (HS7.out.pull 2 rfl), fun m1 h => by cases h⟩
  | x :: r, HW, HN, HS, HR =>
    obtain ⟨B, p, rfl, hBlt, hc0⟩ := HW.out.word H0.out.below
    have c0 : w1.cell? ⟨B, p, none⟩ = some (.string x) := hc0 0 (by simp)
    have HSm := Lib.hid (small_calls w1 x (HS.out x (by simp)) (HX.out.below H0.out.below))
    have hn0 : (0 : Int) < (n : Int) := by have := HN.out; simp at this; omega
    have hn1 : (1 : Int) ≤ (n : Int) := by omega
    have hnb : ((n : Int) == 0) = false := by rw [beq_eq_false_iff_ne]; omega
    have hc2 : (n : Int) ≤ (c : Int) := by omega
    clear hc0
    cases g0 : isW x wOn with
    | true =>
      have e0 : ((lowS x).toList == [111, 110]) = true := (lowS_is x wOn sm7).trans g0
      go_wp2_with fail
      refine HSm.out.mono ?_
      rintro e w2 ⟨rfl, hb2⟩
      have H2 := Lib.hid (H0.out.bel hb2)
      have d0 := H2.out.cell 0 rfl
      have f0 := H2.out.free 0 rfl
      have H3 : Hid (Hp o (w2.setCell ⟨b1, 0, none⟩ (.bool true)) (modeH b1 onM (.slice none 0 0) ++ [cellsT b0 [.bool false, .bool false, .bool false, .bool false, .bool false, .int .i64 0, .slice none 0 0]])) := Lib.hid (H2.out.cellSet 0 (.bool true) rfl)
      clear hb2 H0 H2
      go_upto_region 9 with fail
      clear d0 f0
      generalize w2.setCell ⟨b1, 0, none⟩ (.bool true) = w3 at *
      have hnr : n = r.length + 1 := by have := HN.out; simpa using this
      have HLI : Hid (∀ ra rc, (1 < n → ra = some ⟨B, p + 1, none⟩ ∧ rc = c - 1) → n - 1 ≤ rc → rc ≤ 9223372036854775807 → LI o w3 b1 b0 R onM (.slice none 0 0) ra (n - 1) rc r) := Lib.hid (fun ra rc hra h1 h2 =>
        ⟨by omega, h1, h2, HW.out.cut 1 ra (fun b' p' e hlt => by
          have e2 := (hra (by simp at hlt; omega)).1
          injection e with e
          injection e with e3 e4
          rw [e2, e3, e4]), fun y hy => HS.out y (List.mem_cons_of_mem _ hy), by
          have e : readM (x :: r) = run onM r := by
            show (if isW x wOn = true then _ else _) = _
            rw [if_pos g0]
          rw [← e]; exact HR.out, by simp [onM, zero]; omega, H3.out⟩)
      clear H3 HN HW hnr
      go_wp2_with fail
      all_goals
        go_loopg [5, 6] (n + 1) (fun g s5 _ wr => ∃ m v ra rn rc ws', s5 = .slice ra rn rc ∧ rn ≤ g ∧ Hid (LI o wr b1 b0 R m v ra rn rc ws'))
        case atStart => first
          | exact ⟨_, _, _, _, _, r, rfl, by omega, Lib.hid (HLI.out _ _ (fun h => by omega) (by omega) (by omega))⟩
          | exact ⟨_, _, _, _, _, r, rfl, by omega, Lib.hid (HLI.out _ _ (fun h => ⟨rfl, rfl⟩) (by omega) (by omega))⟩
        case' round => skip
        obtain ⟨m, v, ra, rn, rc, ws', rfl, hg, HL⟩ := hrel
        match ws', HL with
        | [], HL =>
          obtain rfl : rn = 0 := HL.out.n
          have hz : ¬ (0 : Int) < ((0 : Nat) : Int) := by omega
          have H5 := Lib.hid HL.out.h
          obtain ⟨ra, rc, rfl, -, -, -⟩ := (H5.out.pull 1 rfl).rowForm
          have hRm : some m = R := HL.out.r
          obtain rfl : true = ok := by rw [← HOK.out, ← hRm]; rfl
          have HM : Hid (∀ m1, R = some m1 → m = m1) := Lib.hid (fun m1 h => by rw [← hRm] at h; exact Option.some.inj h)
          clear HL hRm
          have c0 := (H5.out).cell 0 rfl
          have c1 := (H5.out).cell 1 rfl
          have c2 := (H5.out).cell 2 rfl
          have c3 := (H5.out).cell 3 rfl
          have c4 := (H5.out).cell 4 rfl
          have c5 := (H5.out).cell 5 rfl
          have c6 := (H5.out).cell 6 rfl
          have d0 := (H5.out.pull 2 rfl).cell 0 rfl
          have g0 := (H5.out.pull 2 rfl).free 0 rfl
          have d1 := (H5.out.pull 2 rfl).cell 1 rfl
          have g1 := (H5.out.pull 2 rfl).free 1 rfl
          have d2 := (H5.out.pull 2 rfl).cell 2 rfl
          have g2 := (H5.out.pull 2 rfl).free 2 rfl
          have d3 := (H5.out.pull 2 rfl).cell 3 rfl
          have g3 := (H5.out.pull 2 rfl).free 3 rfl
          have d4 := (H5.out.pull 2 rfl).cell 4 rfl
          have g4 := (H5.out.pull 2 rfl).free 4 rfl
          have d5 := (H5.out.pull 2 rfl).cell 5 rfl
          have g5 := (H5.out.pull 2 rfl).free 5 rfl
          have d6 := (H5.out.pull 2 rfl).cell 6 rfl
          have g6 := (H5.out.pull 2 rfl).free 6 rfl
          have HS7 := Lib.hid (sets7H (H5.out.pull 2 rfl) (.bool m.on) (.bool m.bc) (.bool m.oi) (.bool m.oo) (.bool m.nl) (.int .i64 m.rd) (.slice ra m.ps.length rc))
          go_wp2_with fail
          exact bodyPost_ret (v := .tuple #[.agg #[.bool m.on, .bool m.bc, .bool m.oi, .bool m.oo, .bool m.nl, .int .i64 m.rd, .slice ra m.ps.length rc], .bool true]) (by simp [results, Tryz.results24, go_sem, d0, d1, d2, d3, d4, d5, d6]) rfl ⟨m, .slice ra m.ps.length rc, rfl, rowS_of (HS7.out.pull 2 rfl), HM.out⟩
        | x :: r, HL =>
          have hrn := HL.out.n
          have hrn0 : 0 < rn := by rw [hrn]; simp
          have hrnc : (0 : Int) < (rn : Int) := by omega
          have hcc := HL.out.c
          have hmx := HL.out.mx
          have hp2 := HL.out.p
          obtain ⟨u, m2, hu⟩ : ∃ u m2, one m (x :: r) = (u, m2) := ⟨_, _, rfl⟩
          have hul : u ≤ rn := by have := one_used m x r; rw [hu] at this; rw [hrn]; exact this
          have HU := Lib.hid hu
          obtain ⟨B2, p2, rfl, -, -⟩ := HL.out.i (by simp)
          have HC := Lib.hid (readOne_calls o _ [cellsT b0 [.bool false, .bool false, .bool false, .bool false, .bool false, .int .i64 0, .slice none 0 0]] b1 m v _ rn rc (x :: r) HL.out.h HX.out HL.out.i hrn hrn0 HL.out.s (by omega) u m2 hu)
          have HRN := Lib.hid hrn
          clear hu hrn
          go_wp2_with fail
          refine HC.out.mono ?_
          rintro e w5 ⟨v5, rfl, h5⟩
          have H5 := Lib.hid h5
          clear h5 HC
          by_cases hu0 : u = 0
          · subst hu0
            have hRm : R = none := by
              have e := run_one m x r
              rw [HU.out] at e
              exact HL.out.r.symm.trans e
            obtain rfl : false = ok := by rw [← HOK.out, hRm]; rfl
            have HM : Hid (∀ m1, R = some m1 → m2 = m1) := Lib.hid (fun m1 h => by rw [hRm] at h; cases h)
            clear HL hRm
            obtain ⟨ra, rc, rfl, -, -, -⟩ := (H5.out.pull 1 rfl).rowForm
            have c0 := (H5.out).cell 0 rfl
            have c1 := (H5.out).cell 1 rfl
            have c2 := (H5.out).cell 2 rfl
            have c3 := (H5.out).cell 3 rfl
            have c4 := (H5.out).cell 4 rfl
            have c5 := (H5.out).cell 5 rfl
            have c6 := (H5.out).cell 6 rfl
            have d0 := (H5.out.pull 2 rfl).cell 0 rfl
            have g0 := (H5.out.pull 2 rfl).free 0 rfl
            have d1 := (H5.out.pull 2 rfl).cell 1 rfl
            have g1 := (H5.out.pull 2 rfl).free 1 rfl
            have d2 := (H5.out.pull 2 rfl).cell 2 rfl
            have g2 := (H5.out.pull 2 rfl).free 2 rfl
            have d3 := (H5.out.pull 2 rfl).cell 3 rfl
            have g3 := (H5.out.pull 2 rfl).free 3 rfl
            have d4 := (H5.out.pull 2 rfl).cell 4 rfl
            have g4 := (H5.out.pull 2 rfl).free 4 rfl
            have d5 := (H5.out.pull 2 rfl).cell 5 rfl
            have g5 := (H5.out.pull 2 rfl).free 5 rfl
            have d6 := (H5.out.pull 2 rfl).cell 6 rfl
            have g6 := (H5.out.pull 2 rfl).free 6 rfl
            have HS7 := Lib.hid (sets7H (H5.out.pull 2 rfl) (.bool m2.on) (.bool m2.bc) (.bool m2.oi) (.bool m2.oo) (.bool m2.nl) (.int .i64 m2.rd) (.slice ra m2.ps.length rc))
            go_wp2_with fail
            exact bodyPost_ret (v := .tuple #[.agg #[.bool m2.on, .bool m2.bc, .bool m2.oi, .bool m2.oo, .bool m2.nl, .int .i64 m2.rd, .slice ra m2.ps.length rc], .bool false]) (by simp [results, Tryz.results24, go_sem, d0, d1, d2, d3, d4, d5, d6]) rfl ⟨m2, .slice ra m2.ps.length rc, rfl, rowS_of (HS7.out.pull 2 rfl), HM.out⟩
          · have hub : ((u : Int) == 0) = false := by rw [beq_eq_false_iff_ne]; omega
            have hui : (u : Int) ≤ (rn : Int) := by omega
            have hrc : (rn : Int) ≤ (rc : Int) := by omega
            have HLS := Lib.hid (fun ra' rn' rc' h1 h2 h3 => HL.out.step (ra' := ra') (rn' := rn') (rc' := rc') HU.out hu0 H5.out h1 h2 h3)
            go_wp2_with fail
            all_goals
              go_roundg (gk - 1)
              case measure => omega
              case rel =>
                refine ⟨_, _, _, _, _, _, rfl, by omega, Lib.hid (HLS.out _ _ _ rfl ?_ (fun b p e hlt => ?_))⟩
                · first | rfl | omega
                · injection e with e
                  injection e with e1 e2
                  subst e1 e2
                  first
                    | rfl
                    | (exfalso; have := HRN.out; omega)
    | false =>
      have e0 : ((lowS x).toList == [111, 110]) = false := (lowS_is x wOn sm7).trans g0
      cases g1 : isW x wOff with
      | false =>
        have e1 : ((lowS x).toList == [111, 102, 102]) = false := (lowS_is x wOff sm8).trans g1
        have hRm : R = none := by
          rw [← HR.out]
          show (if isW x wOn = true then _ else if isW x wOff = true then _ else _) = _
          rw [g0, g1]; rfl
        obtain rfl : false = ok := by rw [← HOK.out, hRm]; rfl
        have HM : Hid (∀ m1, R = some m1 → zero = m1) := Lib.hid (fun m1 h => by rw [hRm] at h; cases h)
        clear hRm HR HW
        go_wp2_with fail
        refine HSm.out.mono ?_
        rintro e w2 ⟨rfl, hb2⟩
        have H2 := Lib.hid (H0.out.bel hb2)
        clear hb2 H0
        obtain ⟨ra, rc, e, -, -, -⟩ := (H2.out.pull 1 rfl).rowForm
        injection e with e1 e2 e3
        subst e1 e3
        clear e2
        have c0 := (H2.out).cell 0 rfl
        have c1 := (H2.out).cell 1 rfl
        have c2 := (H2.out).cell 2 rfl
        have c3 := (H2.out).cell 3 rfl
        have c4 := (H2.out).cell 4 rfl
        have c5 := (H2.out).cell 5 rfl
        have c6 := (H2.out).cell 6 rfl
        have d0 := (H2.out.pull 2 rfl).cell 0 rfl
        have g0 := (H2.out.pull 2 rfl).free 0 rfl
        have d1 := (H2.out.pull 2 rfl).cell 1 rfl
        have g1 := (H2.out.pull 2 rfl).free 1 rfl
        have d2 := (H2.out.pull 2 rfl).cell 2 rfl
        have g2 := (H2.out.pull 2 rfl).free 2 rfl
        have d3 := (H2.out.pull 2 rfl).cell 3 rfl
        have g3 := (H2.out.pull 2 rfl).free 3 rfl
        have d4 := (H2.out.pull 2 rfl).cell 4 rfl
        have g4 := (H2.out.pull 2 rfl).free 4 rfl
        have d5 := (H2.out.pull 2 rfl).cell 5 rfl
        have g5 := (H2.out.pull 2 rfl).free 5 rfl
        have d6 := (H2.out.pull 2 rfl).cell 6 rfl
        have g6 := (H2.out.pull 2 rfl).free 6 rfl
        have HS7 := Lib.hid (sets7H (H2.out.pull 2 rfl) (.bool zero.on) (.bool zero.bc) (.bool zero.oi) (.bool zero.oo) (.bool zero.nl) (.int .i64 zero.rd) (.slice none 0 0))
        go_wp2_with fail
        exact bodyPost_ret (v := .tuple #[.agg #[.bool zero.on, .bool zero.bc, .bool zero.oi, .bool zero.oo, .bool zero.nl, .int .i64 zero.rd, .slice none 0 0], .bool false]) (by simp [results, Tryz.results24, go_sem, d0, d1, d2, d3, d4, d5, d6]) rfl ⟨zero, .slice none 0 0, rfl, rowS_of (HS7.out.pull 2 rfl), HM.out⟩
      | true =>
        have e1 : ((lowS x).toList == [111, 102, 102]) = true := (lowS_is x wOff sm8).trans g1
        go_wp2_with fail
        refine HSm.out.mono ?_
        rintro e w3 ⟨rfl, hb2⟩
        have H3 := Lib.hid (H0.out.bel hb2)
        clear hb2 H0
        have hnr : n = r.length + 1 := by have := HN.out; simpa using this
        have HLI : Hid (∀ ra rc, (1 < n → ra = some ⟨B, p + 1, none⟩ ∧ rc = c - 1) → n - 1 ≤ rc → rc ≤ 9223372036854775807 → LI o w3 b1 b0 R zero (.slice none 0 0) ra (n - 1) rc r) := Lib.hid (fun ra rc hra h1 h2 =>
          ⟨by omega, h1, h2, HW.out.cut 1 ra (fun b' p' e hlt => by
            have e2 := (hra (by simp at hlt; omega)).1
            injection e with e
            injection e with e3 e4
            rw [e2, e3, e4]), fun y hy => HS.out y (List.mem_cons_of_mem _ hy), by
            have e : readM (x :: r) = run zero r := by
              show (if isW x wOn = true then _ else if isW x wOff = true then _ else _) = _
              rw [if_neg (by rw [g0]; decide), if_pos g1]
            rw [← e]; exact HR.out, by simp [zero]; omega, H3.out⟩)
        clear H3 HN HW hnr
        go_wp2_with fail
        all_goals
          go_loopg [5, 6] (n + 1) (fun g s5 _ wr => ∃ m v ra rn rc ws', s5 = .slice ra rn rc ∧ rn ≤ g ∧ Hid (LI o wr b1 b0 R m v ra rn rc ws'))
          case atStart => first
            | exact ⟨_, _, _, _, _, r, rfl, by omega, Lib.hid (HLI.out _ _ (fun h => by omega) (by omega) (by omega))⟩
            | exact ⟨_, _, _, _, _, r, rfl, by omega, Lib.hid (HLI.out _ _ (fun h => ⟨rfl, rfl⟩) (by omega) (by omega))⟩
          case' round => skip
          obtain ⟨m, v, ra, rn, rc, ws', rfl, hg, HL⟩ := hrel
          match ws', HL with
          | [], HL =>
            obtain rfl : rn = 0 := HL.out.n
            have hz : ¬ (0 : Int) < ((0 : Nat) : Int) := by omega
            have H5 := Lib.hid HL.out.h
            obtain ⟨ra, rc, rfl, -, -, -⟩ := (H5.out.pull 1 rfl).rowForm
            have hRm : some m = R := HL.out.r
            obtain rfl : true = ok := by rw [← HOK.out, ← hRm]; rfl
            have HM : Hid (∀ m1, R = some m1 → m = m1) := Lib.hid (fun m1 h => by rw [← hRm] at h; exact Option.some.inj h)
            clear HL hRm
            have c0 := (H5.out).cell 0 rfl
            have c1 := (H5.out).cell 1 rfl
            have c2 := (H5.out).cell 2 rfl
            have c3 := (H5.out).cell 3 rfl
            have c4 := (H5.out).cell 4 rfl
            have c5 := (H5.out).cell 5 rfl
            have c6 := (H5.out).cell 6 rfl
            have d0 := (H5.out.pull 2 rfl).cell 0 rfl
            have g0 := (H5.out.pull 2 rfl).free 0 rfl
            have d1 := (H5.out.pull 2 rfl).cell 1 rfl
            have g1 := (H5.out.pull 2 rfl).free 1 rfl
            have d2 := (H5.out.pull 2 rfl).cell 2 rfl
            have g2 := (H5.out.pull 2 rfl).free 2 rfl
            have d3 := (H5.out.pull 2 rfl).cell 3 rfl
            have g3 := (H5.out.pull 2 rfl).free 3 rfl
            have d4 := (H5.out.pull 2 rfl).cell 4 rfl
            have g4 := (H5.out.pull 2 rfl).free 4 rfl
            have d5 := (H5.out.pull 2 rfl).cell 5 rfl
            have g5 := (H5.out.pull 2 rfl).free 5 rfl
            have d6 := (H5.out.pull 2 rfl).cell 6 rfl
            have g6 := (H5.out.pull 2 rfl).free 6 rfl
            have HS7 := Lib.hid (sets7H (H5.out.pull 2 rfl) (.bool m.on) (.bool m.bc) (.bool m.oi) (.bool m.oo) (.bool m.nl) (.int .i64 m.rd) (.slice ra m.ps.length rc))
            go_wp2_with fail
            exact bodyPost_ret (v := .tuple #[.agg #[.bool m.on, .bool m.bc, .bool m.oi, .bool m.oo, .bool m.nl, .int .i64 m.rd, .slice ra m.ps.length rc], .bool true]) (by simp [results, Tryz.results24, go_sem, d0, d1, d2, d3, d4, d5, d6]) rfl ⟨m, .slice ra m.ps.length rc, rfl, rowS_of (HS7.out.pull 2 rfl), HM.out⟩
          | x :: r, HL =>
            have hrn := HL.out.n
            have hrn0 : 0 < rn := by rw [hrn]; simp
            have hrnc : (0 : Int) < (rn : Int) := by omega
            have hcc := HL.out.c
            have hmx := HL.out.mx
            have hp2 := HL.out.p
            obtain ⟨u, m2, hu⟩ : ∃ u m2, one m (x :: r) = (u, m2) := ⟨_, _, rfl⟩
            have hul : u ≤ rn := by have := one_used m x r; rw [hu] at this; rw [hrn]; exact this
            have HU := Lib.hid hu
            obtain ⟨B2, p2, rfl, -, -⟩ := HL.out.i (by simp)
            have HC := Lib.hid (readOne_calls o _ [cellsT b0 [.bool false, .bool false, .bool false, .bool false, .bool false, .int .i64 0, .slice none 0 0]] b1 m v _ rn rc (x :: r) HL.out.h HX.out HL.out.i hrn hrn0 HL.out.s (by omega) u m2 hu)
            have HRN := Lib.hid hrn
            clear hu hrn
            go_wp2_with fail
            refine HC.out.mono ?_
            rintro e w5 ⟨v5, rfl, h5⟩
            have H5 := Lib.hid h5
            clear h5 HC
            by_cases hu0 : u = 0
            · subst hu0
              have hRm : R = none := by
                have e := run_one m x r
                rw [HU.out] at e
                exact HL.out.r.symm.trans e
              obtain rfl : false = ok := by rw [← HOK.out, hRm]; rfl
              have HM : Hid (∀ m1, R = some m1 → m2 = m1) := Lib.hid (fun m1 h => by rw [hRm] at h; cases h)
              clear HL hRm
              obtain ⟨ra, rc, rfl, -, -, -⟩ := (H5.out.pull 1 rfl).rowForm
              have c0 := (H5.out).cell 0 rfl
              have c1 := (H5.out).cell 1 rfl
              have c2 := (H5.out).cell 2 rfl
              have c3 := (H5.out).cell 3 rfl
              have c4 := (H5.out).cell 4 rfl
              have c5 := (H5.out).cell 5 rfl
              have c6 := (H5.out).cell 6 rfl
              have d0 := (H5.out.pull 2 rfl).cell 0 rfl
              have g0 := (H5.out.pull 2 rfl).free 0 rfl
              have d1 := (H5.out.pull 2 rfl).cell 1 rfl
              have g1 := (H5.out.pull 2 rfl).free 1 rfl
              have d2 := (H5.out.pull 2 rfl).cell 2 rfl
              have g2 := (H5.out.pull 2 rfl).free 2 rfl
              have d3 := (H5.out.pull 2 rfl).cell 3 rfl
              have g3 := (H5.out.pull 2 rfl).free 3 rfl
              have d4 := (H5.out.pull 2 rfl).cell 4 rfl
              have g4 := (H5.out.pull 2 rfl).free 4 rfl
              have d5 := (H5.out.pull 2 rfl).cell 5 rfl
              have g5 := (H5.out.pull 2 rfl).free 5 rfl
              have d6 := (H5.out.pull 2 rfl).cell 6 rfl
              have g6 := (H5.out.pull 2 rfl).free 6 rfl
              have HS7 := Lib.hid (sets7H (H5.out.pull 2 rfl) (.bool m2.on) (.bool m2.bc) (.bool m2.oi) (.bool m2.oo) (.bool m2.nl) (.int .i64 m2.rd) (.slice ra m2.ps.length rc))
              go_wp2_with fail
              exact bodyPost_ret (v := .tuple #[.agg #[.bool m2.on, .bool m2.bc, .bool m2.oi, .bool m2.oo, .bool m2.nl, .int .i64 m2.rd, .slice ra m2.ps.length rc], .bool false]) (by simp [results, Tryz.results24, go_sem, d0, d1, d2, d3, d4, d5, d6]) rfl ⟨m2, .slice ra m2.ps.length rc, rfl, rowS_of (HS7.out.pull 2 rfl), HM.out⟩
            · have hub : ((u : Int) == 0) = false := by rw [beq_eq_false_iff_ne]; omega
              have hui : (u : Int) ≤ (rn : Int) := by omega
              have hrc : (rn : Int) ≤ (rc : Int) := by omega
              have HLS := Lib.hid (fun ra' rn' rc' h1 h2 h3 => HL.out.step (ra' := ra') (rn' := rn') (rc' := rc') HU.out hu0 H5.out h1 h2 h3)
              go_wp2_with fail
              all_goals
                go_roundg (gk - 1)
                case measure => omega
                case rel =>
                  refine ⟨_, _, _, _, _, _, rfl, by omega, Lib.hid (HLS.out _ _ _ rfl ?_ (fun b p e hlt => ?_))⟩
                  · first | rfl | omega
                  · injection e with e
                    injection e with e1 e2
                    subst e1 e2
                    first
                      | rfl
                      | (exfalso; have := HRN.out; omega)
end Go.Proofs.YtjpbpdjomfkkeaaGreatDoor.Ma
