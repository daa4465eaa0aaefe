/- Package mode: readOne. No condition but bounds. -/
import Derived.Test.YtjpbpdjomfkkeaaGreatDoorMc2
namespace Go.Proofs.YtjpbpdjomfkkeaaGreatDoor.Ma
set_option linter.unusedVariables false
set_option linter.unusedSimpArgs false
open Go.ChangeShapes Go.WideShapes Go.ChangeAt Go.RowKit
open Go.Proofs.YtjpbpdjomfkkeaaGreatDoor.Sp (bstep bbox Hp Th cellsT rowT)
set_option maxHeartbeats 16000000 in
set_option maxRecDepth 100000 in
theorem readOne_calls (o w : World) (l : List Th) (b : Nat) (m : Md) (v : Value) (a : Option Addr) (n c : Nat) (ws : List BA) (hH : Hp o w (modeH b m v ++ l)) (hX : MCtx o) (hW : InS o a ws) (hn : n = ws.length) (h0 : 0 < n) (hs : ∀ x ∈ ws, x.size ≤ 1000000) (hl : m.ps.length ≤ 100000)
    (u : Nat) (m' : Md) (hu : one m ws = (u, m')) :
    Calls Tryz.prog 31 #[.pointer (some ⟨b, 0, none⟩), .slice a n c] w fun e w' => ∃ v', e = .returned (.int .i64 u) ∧ Hp o w' (modeH b m' v' ++ l) := by
  have HH := Lib.hid hH
  have HX := Lib.hid hX
  have HU := Lib.hid hu
  have HW := Lib.hid hW
  have HS := Lib.hid hs
  have HN := Lib.hid hn
  have hn0 : (0 : Int) < (n : Int) := by omega
  clear hH hX hu hW hs hn
  match ws, HU, HW, HS, HN with
  | [], HU, HW, HS, HN => have := HN.out; simp at this; omega
  | x :: r, HU, HW, HS, HN =>
    have HT : Hid (∀ W, Hp o W (modeH b m v ++ l) → two m (x :: r) = (u, m') → Calls Tryz.prog 38 #[.pointer (some ⟨b, 0, none⟩), .slice a n c] W fun e w' => ∃ v', e = .returned (.int .i64 u) ∧ Hp o w' (modeH b m' v' ++ l)) := Lib.hid (fun W hW' hu => readTwo_calls o W l b m v a n c (x :: r) hW' HX.out HW.out HN.out HS.out hl u m' hu)
    obtain ⟨B, p, rfl, hBlt, hc⟩ := HW.out.word HH.out.below
    have c0 : w.cell? ⟨B, p, none⟩ = some (.string x) := hc 0 (by simp)
    have HSm := Lib.hid (small_calls w x (HS.out x (by simp)) (HX.out.below HH.out.below))
    clear hc h0 HN
    cases g0 : isW x wBcast with
    | true =>
      have e0 : ((lowS x).toList == [98, 99, 97, 115, 116]) = true := (lowS_is x wBcast sm1).trans g0
      have e := HU.out
      change (if isW x wBcast = true then _ else if isW x wOptin = true then _ else if isW x wOptout = true then _ else if isW x wNoloop = true then _ else _) = _ at e
      rw [g0] at e
      injection e with q1 q2
      subst q1 q2
      clear HT
      go_enter Tryz.func31, Tryz.ntmps31
      go_wp2_with fail
      refine HSm.out.mono ?_
      rintro e w2 ⟨rfl, hb2⟩
      have H2 := Lib.hid (HH.out.bel hb2)
      clear hb2
      have d := H2.out.cell 1 rfl
      have df := H2.out.free 1 rfl
      have H4 := Lib.hid (H2.out.cellSet 1 (.bool true) rfl)
      clear H2
      go_wp2_with fail
      go_ret
      exact ⟨_, rfl, H4.out⟩
    | false =>
      have e0 : ((lowS x).toList == [98, 99, 97, 115, 116]) = false := (lowS_is x wBcast sm1).trans g0
      cases g1 : isW x wOptin with
      | true =>
        have e1 : ((lowS x).toList == [111, 112, 116, 105, 110]) = true := (lowS_is x wOptin sm2).trans g1
        have e := HU.out
        change (if isW x wBcast = true then _ else if isW x wOptin = true then _ else if isW x wOptout = true then _ else if isW x wNoloop = true then _ else _) = _ at e
        rw [g0, g1] at e
        injection e with q1 q2
        subst q1 q2
        clear HT
        go_enter Tryz.func31, Tryz.ntmps31
        go_wp2_with fail
        refine HSm.out.mono ?_
        rintro e w2 ⟨rfl, hb2⟩
        have H2 := Lib.hid (HH.out.bel hb2)
        clear hb2
        have d := H2.out.cell 2 rfl
        have df := H2.out.free 2 rfl
        have H4 := Lib.hid (H2.out.cellSet 2 (.bool true) rfl)
        clear H2
        go_wp2_with fail
        go_ret
        exact ⟨_, rfl, H4.out⟩
      | false =>
        have e1 : ((lowS x).toList == [111, 112, 116, 105, 110]) = false := (lowS_is x wOptin sm2).trans g1
        cases g2 : isW x wOptout with
        | true =>
          have e2 : ((lowS x).toList == [111, 112, 116, 111, 117, 116]) = true := (lowS_is x wOptout sm3).trans g2
          have e := HU.out
          change (if isW x wBcast = true then _ else if isW x wOptin = true then _ else if isW x wOptout = true then _ else if isW x wNoloop = true then _ else _) = _ at e
          rw [g0, g1, g2] at e
          injection e with q1 q2
          subst q1 q2
          clear HT
          go_enter Tryz.func31, Tryz.ntmps31
          go_wp2_with fail
          refine HSm.out.mono ?_
          rintro e w2 ⟨rfl, hb2⟩
          have H2 := Lib.hid (HH.out.bel hb2)
          clear hb2
          have d := H2.out.cell 3 rfl
          have df := H2.out.free 3 rfl
          have H4 := Lib.hid (H2.out.cellSet 3 (.bool true) rfl)
          clear H2
          go_wp2_with fail
          go_ret
          exact ⟨_, rfl, H4.out⟩
        | false =>
          have e2 : ((lowS x).toList == [111, 112, 116, 111, 117, 116]) = false := (lowS_is x wOptout sm3).trans g2
          cases g3 : isW x wNoloop with
          | true =>
            have e3 : ((lowS x).toList == [110, 111, 108, 111, 111, 112]) = true := (lowS_is x wNoloop sm4).trans g3
            have e := HU.out
            change (if isW x wBcast = true then _ else if isW x wOptin = true then _ else if isW x wOptout = true then _ else if isW x wNoloop = true then _ else _) = _ at e
            rw [g0, g1, g2, g3] at e
            injection e with q1 q2
            subst q1 q2
            clear HT
            go_enter Tryz.func31, Tryz.ntmps31
            go_wp2_with fail
            refine HSm.out.mono ?_
            rintro e w2 ⟨rfl, hb2⟩
            have H2 := Lib.hid (HH.out.bel hb2)
            clear hb2
            have d := H2.out.cell 4 rfl
            have df := H2.out.free 4 rfl
            have H4 := Lib.hid (H2.out.cellSet 4 (.bool true) rfl)
            clear H2
            go_wp2_with fail
            go_ret
            exact ⟨_, rfl, H4.out⟩
          | false =>
            have e3 : ((lowS x).toList == [110, 111, 108, 111, 111, 112]) = false := (lowS_is x wNoloop sm4).trans g3
            have e := HU.out
            change (if isW x wBcast = true then _ else if isW x wOptin = true then _ else if isW x wOptout = true then _ else if isW x wNoloop = true then _ else _) = _ at e
            rw [g0, g1, g2, g3] at e
            have HE : Hid (two m (x :: r) = (u, m')) := Lib.hid e
            clear e
            go_enter Tryz.func31, Tryz.ntmps31
            go_wp2_with fail
            refine HSm.out.mono ?_
            rintro e w2 ⟨rfl, hb2⟩
            have H2 := Lib.hid (HH.out.bel hb2)
            clear hb2
            go_wp2_with fail
            refine (HT.out _ H2.out HE.out).mono ?_
            rintro e w3 ⟨v3, rfl, h3⟩
            have H3 := Lib.hid h3
            clear h3
            go_wp2_with fail
            go_ret
            exact ⟨_, rfl, H3.out⟩
end Go.Proofs.YtjpbpdjomfkkeaaGreatDoor.Ma
