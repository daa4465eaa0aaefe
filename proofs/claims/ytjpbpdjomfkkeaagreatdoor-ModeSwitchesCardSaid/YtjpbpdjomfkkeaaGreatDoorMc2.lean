/- Package mode: readTwo, readOne. No condition but bounds. -/
import Derived.Test.YtjpbpdjomfkkeaaGreatDoorMc1
import Derived.Deep.RegionLawGrows
namespace Go.Proofs.YtjpbpdjomfkkeaaGreatDoor.Ma
set_option linter.unusedVariables false
set_option linter.unusedSimpArgs false
open Go.ChangeShapes Go.WideShapes Go.ChangeAt Go.RowKit
open Go.Proofs.YtjpbpdjomfkkeaaGreatDoor.Sp (bstep bbox Hp Th cellsT rowT)
/-- A row of texts, as a thing. -/
def rowST (v : Value) (l : List BA) : Th := rowT 9 1 v l.length (cellsS l)
/-- A mode in a box of the call's own, its prefixes in a row of its own. -/
def modeH (b : Nat) (m : Md) (v : Value) : List Th := [cellsT b (mL m v), rowST v m.ps]
/-- What the first two words say: how many were used, and the mode then. -/
def two (m : Md) : List BA → Nat × Md
  | [] => (0, m)
  | [_] => (0, m)
  | w :: x :: _ => if isW w wRedirect then (if (Num.wp (tl x)).2 = 0 ∧ 0 ≤ (Num.wp (tl x)).1 ∧ (Num.wp (tl x)).1 ≤ 1000000000 then (2, { m with rd := (Num.wp (tl x)).1 }) else (0, m))
    else if isW w wPrefix then (2, { m with ps := m.ps ++ [x] }) else (0, m)
def one (m : Md) : List BA → Nat × Md
  | [] => (0, m)
  | w :: r => if isW w wBcast then (1, { m with bc := true }) else if isW w wOptin then (1, { m with oi := true }) else if isW w wOptout then (1, { m with oo := true }) else if isW w wNoloop then (1, { m with nl := true }) else two m (w :: r)
theorem run_one (m : Md) (w : BA) (r : List BA) : run m (w :: r) = if (one m (w :: r)).1 = 0 then none else run (one m (w :: r)).2 ((w :: r).drop (one m (w :: r)).1) := by
  cases h0 : isW w wBcast with
  | true => rw [run_bcast h0]; simp [one, h0]
  | false =>
    cases h1 : isW w wOptin with
    | true => rw [run_optin h0 h1]; simp [one, h0, h1]
    | false =>
      cases h2 : isW w wOptout with
      | true => rw [run_optout h0 h1 h2]; simp [one, h0, h1, h2]
      | false =>
        cases h3 : isW w wNoloop with
        | true => rw [run_noloop h0 h1 h2 h3]; simp [one, h0, h1, h2, h3]
        | false =>
          have hn : None4 w := ⟨h0, h1, h2, h3⟩
          have e : one m (w :: r) = two m (w :: r) := by simp [one, h0, h1, h2, h3]
          rw [e]
          cases r with
          | nil => rw [run_alone hn]; simp [two]
          | cons x r =>
            cases h4 : isW w wRedirect with
            | true =>
              by_cases h5 : (Num.wp (tl x)).2 = 0 ∧ 0 ≤ (Num.wp (tl x)).1 ∧ (Num.wp (tl x)).1 ≤ 1000000000
              · rw [run_redirect hn h4 h5]; simp [two, h4, h5]
              · rw [run_redirect_no hn h4 h5]
                have e2 : two m (w :: x :: r) = (0, m) := by
                  show (if isW w wRedirect = true then _ else _) = _
                  rw [if_pos h4, if_neg h5]
                rw [e2]; rfl
            | false =>
              cases h5 : isW w wPrefix with
              | true => rw [run_prefix hn h4 h5]; simp [two, h4, h5]
              | false => rw [run_no hn h4 h5]; simp [two, h4, h5]
theorem two_used (m : Md) (ws : List BA) : (two m ws).1 ≤ ws.length := by
  unfold two
  split
  · simp
  · simp
  · repeat' split
    all_goals simp
theorem one_used (m : Md) (w : BA) (r : List BA) : (one m (w :: r)).1 ≤ (w :: r).length := by
  show (if isW w wBcast = true then _ else _ : Nat × Md).1 ≤ _
  repeat' split
  all_goals first | exact two_used m _ | (simp; done)
theorem sm1 : Small wBcast := by unfold Small wBcast; decide
theorem sm2 : Small wOptin := by unfold Small wOptin; decide
theorem sm3 : Small wOptout := by unfold Small wOptout; decide
theorem sm4 : Small wNoloop := by unfold Small wNoloop; decide
theorem sm5 : Small wRedirect := by unfold Small wRedirect; decide
theorem sm6 : Small wPrefix := by unfold Small wPrefix; decide
theorem sm7 : Small wOn := by unfold Small wOn; decide
theorem sm8 : Small wOff := by unfold Small wOff; decide
/-- Texts that lie in the world o, read at a later one. -/
theorem InS.word {o w : World} {a : Option Addr} {x : BA} {r : List BA} (h : InS o a (x :: r)) (hb : Below o.heap.size o w) : ∃ b p, a = some ⟨b, p, none⟩ ∧ b < o.heap.size ∧ (∀ i (hi : i < (x :: r).length), w.cell? ⟨b, p + i, none⟩ = some (.string (x :: r)[i])) := by
  obtain ⟨b, p, e, hlt, hc⟩ := h (by simp)
  exact ⟨b, p, e, hlt, fun i hi => (hb.cell (p := ⟨b, p + i, none⟩) hlt).trans (hc i hi)⟩
set_option maxHeartbeats 16000000 in
set_option maxRecDepth 100000 in
theorem readTwo_calls (o w : World) (l : List Th) (b : Nat) (m : Md) (v : Value) (a : Option Addr) (n c : Nat) (ws : List BA) (hH : Hp o w (modeH b m v ++ l)) (hX : MCtx o) (hW : InS o a ws) (hn : n = ws.length) (hs : ∀ x ∈ ws, x.size ≤ 1000000) (hl : m.ps.length ≤ 100000)
    (u : Nat) (m' : Md) (hu : two m ws = (u, m')) :
    Calls Tryz.prog 38 #[.pointer (some ⟨b, 0, none⟩), .slice a n c] w fun e w' => ∃ v', e = .returned (.int .i64 u) ∧ Hp o w' (modeH b m' v' ++ l) := by
  have HN := Lib.hid hn
  clear hn
  have HH := Lib.hid hH
  have HX := Lib.hid (hX.below hH.below)
  have HU := Lib.hid hu
  have HW := Lib.hid hW
  have HS := Lib.hid hs
  clear hH hX hu hW hs
  match ws, HU, HW, HS, HN with
  | [], HU, HW, HS, HN =>
    have hn2 : (n : Int) < 2 := by have := HN.out; simp at this; omega
    have e := HU.out
    unfold two at e
    injection e with e1 e2
    subst e1 e2
    go_enter Tryz.func38, Tryz.ntmps38
    go_wp2_with fail
    go_ret
    exact ⟨_, rfl, HH.out⟩
  | [x], HU, HW, HS, HN =>
    have hn2 : (n : Int) < 2 := by have := HN.out; simp at this; omega
    have e := HU.out
    unfold two at e
    injection e with e1 e2
    subst e1 e2
    go_enter Tryz.func38, Tryz.ntmps38
    go_wp2_with fail
    go_ret
    exact ⟨_, rfl, HH.out⟩
  | x :: y :: r, HU, HW, HS, HN =>
    obtain ⟨B, p, rfl, hBlt, hc⟩ := HW.out.word HH.out.below
    have c0 : w.cell? ⟨B, p, none⟩ = some (.string x) := hc 0 (by simp)
    have c1 : w.cell? ⟨B, p + 1, none⟩ = some (.string y) := hc 1 (by simp)
    have HSm := Lib.hid (small_calls w x (HS.out x (by simp)) HX.out)
    have HPa := Lib.hid (fun W (hW : Below w.heap.size w W) a b hab => Parse_calls y (by have := HS.out y (by simp); omega) W (HX.out.c.below hW) a b hab)
    have hn2 : ¬ (n : Int) < 2 := by have := HN.out; simp at this; omega
    have hn1 : (1 : Int) < (n : Int) := by omega
    have hn0 : (0 : Int) < (n : Int) := by omega
    cases h5 : isW x wRedirect with
    | true =>
      have e5 : ((lowS x).toList == [114, 101, 100, 105, 114, 101, 99, 116]) = true := (lowS_is x wRedirect sm5).trans h5
      obtain ⟨pa, pe, hab⟩ : ∃ pa pe, Num.wp (tl y) = (pa, pe) := ⟨_, _, rfl⟩
      have HPb := Lib.hid (fun W hW => HPa.out W hW pa pe hab)
      have HU2 : Hid ((if pe = 0 ∧ 0 ≤ pa ∧ pa ≤ 1000000000 then (2, { m with rd := pa }) else (0, m)) = (u, m')) := Lib.hid (by
        have e := HU.out
        change (if isW x wRedirect = true then _ else _) = _ at e
        rw [if_pos h5, hab] at e
        exact e)
      clear HU HPa hab h5
      go_enter Tryz.func38, Tryz.ntmps38
      go_wp2_with fail
      refine HSm.out.mono ?_
      rintro e w2 ⟨rfl, hb2⟩
      have HB2 := Lib.hid hb2
      have d1 : w2.cell? ⟨B, p + 1, none⟩ = some (.string y) := (hb2.cell (p := ⟨B, p + 1, none⟩) (World.block_lt_of_cell? w _ c1)).trans c1
      clear hb2
      go_wp2_with fail
      refine (HPb.out _ HB2.out).mono ?_
      rintro e w3 ⟨rfl, hb3⟩
      have H3 := Lib.hid (HH.out.bel (bstep HB2.out hb3))
      clear hb3 HPb HSm HH HB2 d1 c0 c1
      by_cases g1 : pe = 0
      case neg =>
        have g1c : (!pe == 0) = true := by simpa using g1
        have e := HU2.out
        rw [if_neg (fun h => g1 h.1)] at e
        injection e with e1 e2
        subst e1 e2
        go_wp2_with fail
        go_ret
        exact ⟨_, rfl, H3.out⟩
      subst g1
      by_cases g2 : pa < 0
      case pos =>
        have e := HU2.out
        rw [if_neg (fun h => by omega)] at e
        injection e with e1 e2
        subst e1 e2
        go_wp2_with fail
        go_ret
        exact ⟨_, rfl, H3.out⟩
      by_cases g3 : 1000000000 < pa
      case pos =>
        have e := HU2.out
        rw [if_neg (fun h => by omega)] at e
        injection e with e1 e2
        subst e1 e2
        go_wp2_with fail
        go_ret
        exact ⟨_, rfl, H3.out⟩
      have e := HU2.out
      rw [if_pos ⟨rfl, by omega, by omega⟩] at e
      injection e with e1 e2
      subst e1 e2
      have d5 := H3.out.cell 5 rfl
      have f5 := H3.out.free 5 rfl
      have H4 := Lib.hid (H3.out.cellSet 5 (.int .i64 pa) rfl)
      clear H3
      go_wp2_with fail
      go_ret
      exact ⟨_, rfl, H4.out⟩
    | false =>
      have e5 : ((lowS x).toList == [114, 101, 100, 105, 114, 101, 99, 116]) = false := (lowS_is x wRedirect sm5).trans h5
      cases h6 : isW x wPrefix with
      | false =>
        have e6 : ((lowS x).toList == [112, 114, 101, 102, 105, 120]) = false := (lowS_is x wPrefix sm6).trans h6
        have e := HU.out
        change (if isW x wRedirect = true then _ else if isW x wPrefix = true then _ else _) = _ at e
        rw [h5, h6] at e
        injection e with e1 e2
        subst e1 e2
        go_enter Tryz.func38, Tryz.ntmps38
        go_wp2_with fail
        refine HSm.out.mono ?_
        rintro e w2 ⟨rfl, hb2⟩
        have H2 := Lib.hid (HH.out.bel hb2)
        clear hb2
        go_wp2_with fail
        go_ret
        exact ⟨_, rfl, H2.out⟩
      | true =>
        have e6 : ((lowS x).toList == [112, 114, 101, 102, 105, 120]) = true := (lowS_is x wPrefix sm6).trans h6
        have e := HU.out
        change (if isW x wRedirect = true then _ else if isW x wPrefix = true then _ else _) = _ at e
        rw [h5, h6] at e
        injection e with e1 e2
        subst e1 e2
        obtain ⟨ra, rc, rfl, -, -, -⟩ := (HH.out.pull 1 rfl).rowForm
        go_enter Tryz.func38, Tryz.ntmps38
        go_wp2_with fail
        refine HSm.out.mono ?_
        rintro e w2 ⟨rfl, hb2⟩
        have H2 := Lib.hid (HH.out.bel hb2)
        have d1 : w2.cell? ⟨B, p + 1, none⟩ = some (.string y) := (hb2.cell (p := ⟨B, p + 1, none⟩) (World.block_lt_of_cell? w _ c1)).trans c1
        clear hb2 HH HSm HPa c0 c1
        obtain ⟨i0, hi, hz0, hz1, hz2⟩ := info_parts iStr
        have hb6 : Below w2.heap.size w2 (w2.alloc (.cells #[.string y] 9)).drew := (bbox _).drew
        obtain ⟨a7, c7, w7, hrun, h7, hst⟩ := Sp.rowRun (P := Tryz.prog) (H2.out.pull 1 rfl) hb6 22 22 i0 (.string ⟨#[]⟩) 16 Tryz.underlying22 hi hz0 hz1 hz2 rfl (by decide) ⟨w2.heap.size, 0, none⟩ 1 1 [.string y] rfl
          (fun j u hj => by
            rw [Addr.add_lit, Nat.zero_add]
            show (w2.alloc _).cell? _ = _
            rw [World.cell?_alloc_new]
            simpa using hj)
          (fun u hu => by
            simp only [List.mem_cons, List.not_mem_nil, or_false] at hu
            rcases hu with rfl; rfl) (by unfold maxLen; omega) (by omega)
        have h8 : Hp o w7 (rowST (.slice a7 (m.ps.length + 1) c7) (m.ps ++ [y]) :: cellsT b (mL m (.slice ra m.ps.length rc)) :: l) := by
          unfold rowST
          rw [List.length_append, show cellsS (m.ps ++ [y]) = cellsS m.ps ++ [.string y] from List.map_append]
          exact h7
        have H7 := Lib.hid (h8.pull 1 rfl)
        have q6 := H2.out.cell 6 rfl
        have q6a : (w2.alloc (.cells #[.string y] 9)).cell? ⟨b, 6, none⟩ = some (.slice ra m.ps.length rc) := (H2.out.bel (bbox _)).cell 6 rfl
        have u6 := H7.out.cell 6 rfl
        have v6 := H7.out.free 6 rfl
        have H8 := Lib.hid (H7.out.cellSet 6 (.slice a7 (m.ps.length + 1) c7) rfl)
        clear hi hz0 hz1 hz2 h7 h8 hst hb6 H7 H2
        go_wp2_with fail
        go_region_law (
          refine Sp.step_app (o := ⟨some 48, _, _, _, _, _⟩) rfl (.tmp 43) (.tmp 47) rfl ?_ ?_ hrun ?_
          first | rfl | simp [Act.eval]
          first | rfl | simp [Act.eval])
        all_goals go_wp2_with fail
        all_goals go_ret
        all_goals exact ⟨_, rfl, by simpa [modeH, mL] using H8.out⟩
end Go.Proofs.YtjpbpdjomfkkeaaGreatDoor.Ma
