/- The document's Parse of layer 13. No condition but bounds. -/
import Derived.Test.YtjpbpdjomfkkeaaDoorMc5
import Derived.Test.YtjpbpdjomfkkeaaDoorMd2
import Derived.Test.YtjpbpdjomfkkeaaDoorMd3
import Derived.Test.YtjpbpdjomfkkeaaDoorMd4
import Derived.Test.YtjpbpdjomfkkeaaDoorRp
namespace Go.Proofs.YtjpbpdjomfkkeaaDoor.Ma
set_option linter.unusedVariables false
set_option linter.unusedSimpArgs false
open Go.ChangeShapes Go.WideShapes Go.ChangeAt Go.RowKit
open Go.Proofs.YtjpbpdjomfkkeaaDoor.Sp (bstep bbox Hp Th cellsT rowT)
theorem is_wBcast (W : World) (s : BA) (hs : s.size ≤ 1000000) (b : Bool) (hb : isW s wBcast = b) :
    Calls Tryd.prog 24 #[.string s, .string ⟨#[66, 67, 65, 83, 84]⟩] W fun e w' => e = .returned (.bool b) ∧ W = w' := refIsW_calls W s wBcast sm1 (by decide) hs b hb
theorem is_wOptin (W : World) (s : BA) (hs : s.size ≤ 1000000) (b : Bool) (hb : isW s wOptin = b) :
    Calls Tryd.prog 24 #[.string s, .string ⟨#[79, 80, 84, 73, 78]⟩] W fun e w' => e = .returned (.bool b) ∧ W = w' := refIsW_calls W s wOptin sm2 (by decide) hs b hb
theorem is_wOptout (W : World) (s : BA) (hs : s.size ≤ 1000000) (b : Bool) (hb : isW s wOptout = b) :
    Calls Tryd.prog 24 #[.string s, .string ⟨#[79, 80, 84, 79, 85, 84]⟩] W fun e w' => e = .returned (.bool b) ∧ W = w' := refIsW_calls W s wOptout sm3 (by decide) hs b hb
theorem is_wNoloop (W : World) (s : BA) (hs : s.size ≤ 1000000) (b : Bool) (hb : isW s wNoloop = b) :
    Calls Tryd.prog 24 #[.string s, .string ⟨#[78, 79, 76, 79, 79, 80]⟩] W fun e w' => e = .returned (.bool b) ∧ W = w' := refIsW_calls W s wNoloop sm4 (by decide) hs b hb
theorem is_wRedirect (W : World) (s : BA) (hs : s.size ≤ 1000000) (b : Bool) (hb : isW s wRedirect = b) :
    Calls Tryd.prog 24 #[.string s, .string ⟨#[82, 69, 68, 73, 82, 69, 67, 84]⟩] W fun e w' => e = .returned (.bool b) ∧ W = w' := refIsW_calls W s wRedirect sm5 (by decide) hs b hb
theorem is_wPrefix (W : World) (s : BA) (hs : s.size ≤ 1000000) (b : Bool) (hb : isW s wPrefix = b) :
    Calls Tryd.prog 24 #[.string s, .string ⟨#[80, 82, 69, 70, 73, 88]⟩] W fun e w' => e = .returned (.bool b) ∧ W = w' := refIsW_calls W s wPrefix sm6 (by decide) hs b hb
theorem is_wOn (W : World) (s : BA) (hs : s.size ≤ 1000000) (b : Bool) (hb : isW s wOn = b) :
    Calls Tryd.prog 24 #[.string s, .string ⟨#[79, 78]⟩] W fun e w' => e = .returned (.bool b) ∧ W = w' := refIsW_calls W s wOn sm7 (by decide) hs b hb
theorem is_wOff (W : World) (s : BA) (hs : s.size ≤ 1000000) (b : Bool) (hb : isW s wOff = b) :
    Calls Tryd.prog 24 #[.string s, .string ⟨#[79, 70, 70]⟩] W fun e w' => e = .returned (.bool b) ∧ W = w' := refIsW_calls W s wOff sm8 (by decide) hs b hb
theorem on_off {s : BA} (h : isW s wOn = true) : isW s wOff = false := by
  unfold isW at h ⊢
  rw [beq_iff_eq] at h
  rw [h]; rfl
/-- What the document's loop knows between two rounds. -/
structure LR (o wr : World) (b0 b1 b2 : Nat) (R : Option Md) (ws : List BA) (m : Md) (v : Value) (j : Nat) : Prop where
  r : run m (ws.drop j) = R
  p : m.ps.length ≤ j
  h : Hp o wr (modeH b2 m v ++ [cellsT b0 [.bool false, .bool false, .bool false, .bool false, .bool false, .int .i64 0, .slice none 0 0], cellsT b1 [.bool false, .bool false, .bool false, .bool false, .bool false, .int .i64 0, .slice none 0 0]])
theorem drop_two {ws : List BA} {j : Nat} (h : j < ws.length) : ws.drop j = ws[j] :: ws.drop (j + 1) := List.drop_eq_getElem_cons h
set_option maxHeartbeats 64000000 in
set_option maxRecDepth 100000 in
theorem refP_calls (o : World) (a : Option Addr) (n c : Nat) (ws : List BA) (hW : InS o a ws) (hn : n = ws.length) (hb : n ≤ 1000) (hs : ∀ x ∈ ws, x.size ≤ 1000000) (r : Md) (k : Int) (hr : parseM ws = (r, k)) :
    Calls Tryd.prog 13 #[.slice a n c] o fun e w' => ∃ v, e = .returned (.tuple #[mVv r v, .int .i64 k]) ∧ RowS o w' v r.ps := by
  have HN := Lib.hid hn
  have HS := Lib.hid hs
  have HW := Lib.hid hW
  have HR := Lib.hid hr
  clear hn hs hW hr
  have h2 := ((Hp.nil (Below.refl o.heap.size o)).cellsNew [.bool false, .bool false, .bool false, .bool false, .bool false, .int .i64 0, .slice none 0 0] 24).cellsNew [.bool false, .bool false, .bool false, .bool false, .bool false, .int .i64 0, .slice none 0 0] 24
  have e1 : (o.alloc (.cells (List.toArray [.bool false, .bool false, .bool false, .bool false, .bool false, .int .i64 0, .slice none 0 0]) 24)).heap.size = o.heap.size + 1 := by simp
  rw [e1] at h2
  have H0 : Hid (Hp o ((o.alloc (.cells #[.bool false, .bool false, .bool false, .bool false, .bool false, .int .i64 0, .slice none 0 0] 24)).alloc (.cells #[.bool false, .bool false, .bool false, .bool false, .bool false, .int .i64 0, .slice none 0 0] 24)) [cellsT o.heap.size [.bool false, .bool false, .bool false, .bool false, .bool false, .int .i64 0, .slice none 0 0], cellsT (o.heap.size + 1) [.bool false, .bool false, .bool false, .bool false, .bool false, .int .i64 0, .slice none 0 0]]) := Lib.hid (h2.pull 1 rfl)
  clear h2 e1
  unfold mVv
  go_enter Tryd.func13, Tryd.ntmps13
  go_upto_region 2 with fail
  generalize ((o.alloc (.cells #[.bool false, .bool false, .bool false, .bool false, .bool false, .int .i64 0, .slice none 0 0] 24)).alloc (.cells #[.bool false, .bool false, .bool false, .bool false, .bool false, .int .i64 0, .slice none 0 0] 24)) = w1 at *
  generalize hb1 : o.heap.size + 1 = b1 at *
  generalize hb0 : o.heap.size = b0 at *
  clear hb0 hb1
  match ws, HW, HN, HS, HR with
  | [], HW, HN, HS, HR =>
    obtain rfl : n = 0 := HN.out
    have e := HR.out
    injection e with e1 e2
    subst e1 e2
    have hz : ((0 : Int) == 0) = true := rfl
    have d0 := (H0.out.pull 0 rfl).cell 0 rfl
    have g0 := (H0.out.pull 0 rfl).free 0 rfl
    have d1 := (H0.out.pull 0 rfl).cell 1 rfl
    have g1 := (H0.out.pull 0 rfl).free 1 rfl
    have d2 := (H0.out.pull 0 rfl).cell 2 rfl
    have g2 := (H0.out.pull 0 rfl).free 2 rfl
    have d3 := (H0.out.pull 0 rfl).cell 3 rfl
    have g3 := (H0.out.pull 0 rfl).free 3 rfl
    have d4 := (H0.out.pull 0 rfl).cell 4 rfl
    have g4 := (H0.out.pull 0 rfl).free 4 rfl
    have d5 := (H0.out.pull 0 rfl).cell 5 rfl
    have g5 := (H0.out.pull 0 rfl).free 5 rfl
    have d6 := (H0.out.pull 0 rfl).cell 6 rfl
    have g6 := (H0.out.pull 0 rfl).free 6 rfl
    have z0 := (H0.out.pull 1 rfl).cell 0 rfl
    have z1 := (H0.out.pull 1 rfl).cell 1 rfl
    have z2 := (H0.out.pull 1 rfl).cell 2 rfl
    have z3 := (H0.out.pull 1 rfl).cell 3 rfl
    have z4 := (H0.out.pull 1 rfl).cell 4 rfl
    have z5 := (H0.out.pull 1 rfl).cell 5 rfl
    have z6 := (H0.out.pull 1 rfl).cell 6 rfl
    have HS7 := Lib.hid (sets7H (H0.out.pull 0 rfl) (.bool false) (.bool false) (.bool false) (.bool false) (.bool false) (.int .i64 0) (.slice none 0 0))
    go_wp2_with fail
    exact bodyPost_ret (v := .tuple #[.agg #[.bool false, .bool false, .bool false, .bool false, .bool false, .int .i64 0, .slice none 0 0], .int .i64 131]) (by simp [results, Tryd.results13, go_sem, d0, d1, d2, d3, d4, d5, d6]) rfl ⟨.slice none 0 0, rfl, rowS_nil HS7.out.below⟩
  | x0 :: r0, HW, HN, HS, HR =>
    obtain ⟨B, p, rfl, hBlt, hc0⟩ := HW.out.word H0.out.below
    have hn0 : (0 : Int) < (n : Int) := by have := HN.out; simp at this; omega
    have hnb : ((n : Int) == 0) = false := by rw [beq_eq_false_iff_ne]; omega
    have hx0s := HS.out x0 (by simp)
    have HCw : Hid (∀ W, Below o.heap.size o W → ∀ i (hi : i < (x0 :: r0).length), W.cell? ⟨B, p + i, none⟩ = some (.string (x0 :: r0)[i])) := Lib.hid (fun W hW i hi => by
      obtain ⟨b, q, e, hlt, hc⟩ := HW.out (by simp)
      injection e with e
      injection e with e3 e4
      subst e3 e4
      exact (hW.cell (p := ⟨B, p + i, none⟩) hlt).trans (hc i hi))
    have c00 : w1.cell? ⟨B, p, none⟩ = some (.string x0) := hc0 0 (by simp)
    have HC00 : Hid (∀ W, Below o.heap.size o W → W.cell? ⟨B, p, none⟩ = some (.string x0)) := Lib.hid (fun W hW => HCw.out W hW 0 (by simp))
    clear hc0
    obtain ⟨R, hR⟩ : ∃ R, run onM r0 = R := ⟨_, rfl⟩
    cases g0 : isW x0 wOn with
    | true =>
      have J0 := Lib.hid (fun W => is_wOn W x0 hx0s true g0)
      have J1 := Lib.hid (fun W => is_wOff W x0 hx0s false (on_off g0))
      have HNone : Hid (R = none → ((zero, 131) : Md × Int) = (r, k)) := Lib.hid (fun h => by
        rw [← HR.out]
        show _ = if isW x0 wOn = true then _ else _
        rw [if_pos g0, hR, h])
      have HEnd : Hid (∀ m, R = some m → endM m = (r, k)) := Lib.hid (fun m h => by
        rw [← HR.out]
        show _ = if isW x0 wOn = true then _ else _
        rw [if_pos g0, hR, h])
      clear HR
      go_upto_region 4 with fail
      refine (J0.out _).mono ?_
      rintro e w2 ⟨rfl, rfl⟩
      go_upto_region 4 with fail
      have h5 := ((H0.out.rowNil 9 1).cellsNew (mL onM (.slice none 0 0)) 24)
      have H5 : Hid (Hp o (w1.alloc (.cells #[.bool true, .bool false, .bool false, .bool false, .bool false, .int .i64 0, .slice none 0 0] 24)) (modeH w1.heap.size onM (.slice none 0 0) ++ [cellsT b0 [.bool false, .bool false, .bool false, .bool false, .bool false, .int .i64 0, .slice none 0 0], cellsT b1 [.bool false, .bool false, .bool false, .bool false, .bool false, .int .i64 0, .slice none 0 0]])) := Lib.hid h5
      clear h5 H0 c00
      go_upto_region 5 with fail
      generalize (w1.alloc (.cells #[.bool true, .bool false, .bool false, .bool false, .bool false, .int .i64 0, .slice none 0 0] 24)) = w3 at *
      generalize w1.heap.size = b2 at *
      obtain ⟨ws, hws⟩ : ∃ ws, x0 :: r0 = ws := ⟨_, rfl⟩
      have HL0 : Hid (LR o w3 b0 b1 b2 R ws onM (.slice none 0 0) 1) := Lib.hid ⟨by rw [← hws]; exact hR, by simp [onM, zero], H5.out⟩
      rw [hws] at HN HS HCw
      have hR0 := Lib.hid hR
      clear hws hR HW H5
      go_wp2_with fail
      go_loopg [6, 7, 8, 9] (n + 1) (fun g s6 _ _ _ wr => ∃ (j : Nat) (m : Md) (v : Value), s6 = .int .i64 j ∧ 1 ≤ j ∧ j ≤ n ∧ n - j ≤ g ∧ Hid (LR o wr b0 b1 b2 R ws m v j))
      case atStart => exact ⟨1, onM, _, rfl, by omega, by omega, by omega, HL0⟩
      case round =>
        obtain ⟨j, m, v, rfl, hj0, hj, hg, HL⟩ := hrel
        by_cases hjl : j < n
        case pos =>
          have hjc : (j : Int) < (n : Int) := by omega
          have hjw : j < ws.length := by have := HN.out; omega
          obtain ⟨x, hx⟩ : ∃ x, ws[j] = x := ⟨_, rfl⟩
          have c0 : wr.cell? ⟨B, p + j, none⟩ = some (.string x) := by rw [← hx]; exact HCw.out _ HL.out.h.below j hjw
          have hxs : x.size ≤ 1000000 := by rw [← hx]; exact HS.out _ (List.getElem_mem hjw)
          have HX : Hid (run m (x :: ws.drop (j + 1)) = R) := Lib.hid (by rw [← HL.out.r, drop_two hjw, hx])
          clear hx
          cases q0 : isW x wBcast with
          | true =>
            have I0 := Lib.hid (fun W => is_wBcast W x hxs true q0)
            have HX2 : Hid (run { m with bc := true } (ws.drop (j + 1)) = R) := Lib.hid (by rw [← HX.out, run_bcast q0])
            have HP := Lib.hid HL.out.p
            have H1 := Lib.hid HL.out.h
            clear HL HX
            go_wp2_with fail
            refine (I0.out _).mono ?_
            rintro e w2 ⟨rfl, rfl⟩
            have d := H1.out.cell 1 rfl
            have df := H1.out.free 1 rfl
            have H4 := Lib.hid (H1.out.cellSet 1 (.bool true) rfl)
            clear H1
            go_wp2_with fail
            go_roundg (gk - 1)
            case measure => omega
            case rel => exact ⟨j + 1, { m with bc := true }, v, by go_num, by omega, by omega, by omega, Lib.hid ⟨HX2.out, by have := HP.out; simp only; omega, H4.out⟩⟩
          | false =>
            have I0 := Lib.hid (fun W => is_wBcast W x hxs false q0)
            cases q1 : isW x wOptin with
            | true =>
              have I1 := Lib.hid (fun W => is_wOptin W x hxs true q1)
              have HX2 : Hid (run { m with oi := true } (ws.drop (j + 1)) = R) := Lib.hid (by rw [← HX.out, run_optin q0 q1])
              have HP := Lib.hid HL.out.p
              have H1 := Lib.hid HL.out.h
              clear HL HX
              go_wp2_with fail
              refine (I0.out _).mono ?_
              rintro e w2 ⟨rfl, rfl⟩
              go_wp2_with fail
              refine (I1.out _).mono ?_
              rintro e w2 ⟨rfl, rfl⟩
              have d := H1.out.cell 2 rfl
              have df := H1.out.free 2 rfl
              have H4 := Lib.hid (H1.out.cellSet 2 (.bool true) rfl)
              clear H1
              go_wp2_with fail
              go_roundg (gk - 1)
              case measure => omega
              case rel => exact ⟨j + 1, { m with oi := true }, v, by go_num, by omega, by omega, by omega, Lib.hid ⟨HX2.out, by have := HP.out; simp only; omega, H4.out⟩⟩
            | false =>
              have I1 := Lib.hid (fun W => is_wOptin W x hxs false q1)
              cases q2 : isW x wOptout with
              | true =>
                have I2 := Lib.hid (fun W => is_wOptout W x hxs true q2)
                have HX2 : Hid (run { m with oo := true } (ws.drop (j + 1)) = R) := Lib.hid (by rw [← HX.out, run_optout q0 q1 q2])
                have HP := Lib.hid HL.out.p
                have H1 := Lib.hid HL.out.h
                clear HL HX
                go_wp2_with fail
                refine (I0.out _).mono ?_
                rintro e w2 ⟨rfl, rfl⟩
                go_wp2_with fail
                refine (I1.out _).mono ?_
                rintro e w2 ⟨rfl, rfl⟩
                go_wp2_with fail
                refine (I2.out _).mono ?_
                rintro e w2 ⟨rfl, rfl⟩
                have d := H1.out.cell 3 rfl
                have df := H1.out.free 3 rfl
                have H4 := Lib.hid (H1.out.cellSet 3 (.bool true) rfl)
                clear H1
                go_wp2_with fail
                go_roundg (gk - 1)
                case measure => omega
                case rel => exact ⟨j + 1, { m with oo := true }, v, by go_num, by omega, by omega, by omega, Lib.hid ⟨HX2.out, by have := HP.out; simp only; omega, H4.out⟩⟩
              | false =>
                have I2 := Lib.hid (fun W => is_wOptout W x hxs false q2)
                cases q3 : isW x wNoloop with
                | true =>
                  have I3 := Lib.hid (fun W => is_wNoloop W x hxs true q3)
                  have HX2 : Hid (run { m with nl := true } (ws.drop (j + 1)) = R) := Lib.hid (by rw [← HX.out, run_noloop q0 q1 q2 q3])
                  have HP := Lib.hid HL.out.p
                  have H1 := Lib.hid HL.out.h
                  clear HL HX
                  go_wp2_with fail
                  refine (I0.out _).mono ?_
                  rintro e w2 ⟨rfl, rfl⟩
                  go_wp2_with fail
                  refine (I1.out _).mono ?_
                  rintro e w2 ⟨rfl, rfl⟩
                  go_wp2_with fail
                  refine (I2.out _).mono ?_
                  rintro e w2 ⟨rfl, rfl⟩
                  go_wp2_with fail
                  refine (I3.out _).mono ?_
                  rintro e w2 ⟨rfl, rfl⟩
                  have d := H1.out.cell 4 rfl
                  have df := H1.out.free 4 rfl
                  have H4 := Lib.hid (H1.out.cellSet 4 (.bool true) rfl)
                  clear H1
                  go_wp2_with fail
                  go_roundg (gk - 1)
                  case measure => omega
                  case rel => exact ⟨j + 1, { m with nl := true }, v, by go_num, by omega, by omega, by omega, Lib.hid ⟨HX2.out, by have := HP.out; simp only; omega, H4.out⟩⟩
                | false =>
                  have I3 := Lib.hid (fun W => is_wNoloop W x hxs false q3)
                  have HNn : Hid (None4 x) := Lib.hid ⟨q0, q1, q2, q3⟩
                  by_cases hj1 : j + 1 < n
                  case neg =>
                    have hjc1 : ¬ (j : Int) + 1 < (n : Int) := by omega
                    have hRn : R = none := by
                      have e : ws.drop (j + 1) = [] := List.drop_eq_nil_iff.2 (by have := HN.out; omega)
                      rw [← HX.out, e]; exact run_alone HNn.out
                    have H1 := Lib.hid HL.out.h
                    clear HL HX
                    have e := HNone.out hRn
                    injection e with e1 e2
                    subst e1 e2
                    cases q4 : isW x wRedirect with
                    | true =>
                      have I4 := Lib.hid (fun W => is_wRedirect W x hxs true q4)
                      cases q5 : isW x wPrefix with
                      | true =>
                        have I5 := Lib.hid (fun W => is_wPrefix W x hxs true q5)
                        have d0 := (H1.out.pull 2 rfl).cell 0 rfl
                        have g0 := (H1.out.pull 2 rfl).free 0 rfl
                        have d1 := (H1.out.pull 2 rfl).cell 1 rfl
                        have g1 := (H1.out.pull 2 rfl).free 1 rfl
                        have d2 := (H1.out.pull 2 rfl).cell 2 rfl
                        have g2 := (H1.out.pull 2 rfl).free 2 rfl
                        have d3 := (H1.out.pull 2 rfl).cell 3 rfl
                        have g3 := (H1.out.pull 2 rfl).free 3 rfl
                        have d4 := (H1.out.pull 2 rfl).cell 4 rfl
                        have g4 := (H1.out.pull 2 rfl).free 4 rfl
                        have d5 := (H1.out.pull 2 rfl).cell 5 rfl
                        have g5 := (H1.out.pull 2 rfl).free 5 rfl
                        have d6 := (H1.out.pull 2 rfl).cell 6 rfl
                        have g6 := (H1.out.pull 2 rfl).free 6 rfl
                        have z0 := (H1.out.pull 3 rfl).cell 0 rfl
                        have z1 := (H1.out.pull 3 rfl).cell 1 rfl
                        have z2 := (H1.out.pull 3 rfl).cell 2 rfl
                        have z3 := (H1.out.pull 3 rfl).cell 3 rfl
                        have z4 := (H1.out.pull 3 rfl).cell 4 rfl
                        have z5 := (H1.out.pull 3 rfl).cell 5 rfl
                        have z6 := (H1.out.pull 3 rfl).cell 6 rfl
                        have HS7 := Lib.hid (sets7H (H1.out.pull 2 rfl) (.bool false) (.bool false) (.bool false) (.bool false) (.bool false) (.int .i64 0) (.slice none 0 0))
                        go_wp2_with fail
                        refine (I0.out _).mono ?_
                        rintro e w2 ⟨rfl, rfl⟩
                        go_wp2_with fail
                        refine (I1.out _).mono ?_
                        rintro e w2 ⟨rfl, rfl⟩
                        go_wp2_with fail
                        refine (I2.out _).mono ?_
                        rintro e w2 ⟨rfl, rfl⟩
                        go_wp2_with fail
                        refine (I3.out _).mono ?_
                        rintro e w2 ⟨rfl, rfl⟩
                        go_wp2_with fail
                        refine (I4.out _).mono ?_
                        rintro e w2 ⟨rfl, rfl⟩
                        go_wp2_with fail
                        refine (I5.out _).mono ?_
                        rintro e w2 ⟨rfl, rfl⟩
                        go_wp2_with fail
                        exact bodyPost_ret (v := .tuple #[.agg #[.bool false, .bool false, .bool false, .bool false, .bool false, .int .i64 0, .slice none 0 0], .int .i64 131]) (by simp [results, Tryd.results13, go_sem, d0, d1, d2, d3, d4, d5, d6]) rfl ⟨.slice none 0 0, rfl, rowS_nil HS7.out.below⟩
                      | false =>
                        have I5 := Lib.hid (fun W => is_wPrefix W x hxs false q5)
                        have d0 := (H1.out.pull 2 rfl).cell 0 rfl
                        have g0 := (H1.out.pull 2 rfl).free 0 rfl
                        have d1 := (H1.out.pull 2 rfl).cell 1 rfl
                        have g1 := (H1.out.pull 2 rfl).free 1 rfl
                        have d2 := (H1.out.pull 2 rfl).cell 2 rfl
                        have g2 := (H1.out.pull 2 rfl).free 2 rfl
                        have d3 := (H1.out.pull 2 rfl).cell 3 rfl
                        have g3 := (H1.out.pull 2 rfl).free 3 rfl
                        have d4 := (H1.out.pull 2 rfl).cell 4 rfl
                        have g4 := (H1.out.pull 2 rfl).free 4 rfl
                        have d5 := (H1.out.pull 2 rfl).cell 5 rfl
                        have g5 := (H1.out.pull 2 rfl).free 5 rfl
                        have d6 := (H1.out.pull 2 rfl).cell 6 rfl
                        have g6 := (H1.out.pull 2 rfl).free 6 rfl
                        have z0 := (H1.out.pull 3 rfl).cell 0 rfl
                        have z1 := (H1.out.pull 3 rfl).cell 1 rfl
                        have z2 := (H1.out.pull 3 rfl).cell 2 rfl
                        have z3 := (H1.out.pull 3 rfl).cell 3 rfl
                        have z4 := (H1.out.pull 3 rfl).cell 4 rfl
                        have z5 := (H1.out.pull 3 rfl).cell 5 rfl
                        have z6 := (H1.out.pull 3 rfl).cell 6 rfl
                        have HS7 := Lib.hid (sets7H (H1.out.pull 2 rfl) (.bool false) (.bool false) (.bool false) (.bool false) (.bool false) (.int .i64 0) (.slice none 0 0))
                        go_wp2_with fail
                        refine (I0.out _).mono ?_
                        rintro e w2 ⟨rfl, rfl⟩
                        go_wp2_with fail
                        refine (I1.out _).mono ?_
                        rintro e w2 ⟨rfl, rfl⟩
                        go_wp2_with fail
                        refine (I2.out _).mono ?_
                        rintro e w2 ⟨rfl, rfl⟩
                        go_wp2_with fail
                        refine (I3.out _).mono ?_
                        rintro e w2 ⟨rfl, rfl⟩
                        go_wp2_with fail
                        refine (I4.out _).mono ?_
                        rintro e w2 ⟨rfl, rfl⟩
                        go_wp2_with fail
                        refine (I5.out _).mono ?_
                        rintro e w2 ⟨rfl, rfl⟩
                        go_wp2_with fail
                        exact bodyPost_ret (v := .tuple #[.agg #[.bool false, .bool false, .bool false, .bool false, .bool false, .int .i64 0, .slice none 0 0], .int .i64 131]) (by simp [results, Tryd.results13, go_sem, d0, d1, d2, d3, d4, d5, d6]) rfl ⟨.slice none 0 0, rfl, rowS_nil HS7.out.below⟩
                    | false =>
                      have I4 := Lib.hid (fun W => is_wRedirect W x hxs false q4)
                      cases q5 : isW x wPrefix with
                      | true =>
                        have I5 := Lib.hid (fun W => is_wPrefix W x hxs true q5)
                        have d0 := (H1.out.pull 2 rfl).cell 0 rfl
                        have g0 := (H1.out.pull 2 rfl).free 0 rfl
                        have d1 := (H1.out.pull 2 rfl).cell 1 rfl
                        have g1 := (H1.out.pull 2 rfl).free 1 rfl
                        have d2 := (H1.out.pull 2 rfl).cell 2 rfl
                        have g2 := (H1.out.pull 2 rfl).free 2 rfl
                        have d3 := (H1.out.pull 2 rfl).cell 3 rfl
                        have g3 := (H1.out.pull 2 rfl).free 3 rfl
                        have d4 := (H1.out.pull 2 rfl).cell 4 rfl
                        have g4 := (H1.out.pull 2 rfl).free 4 rfl
                        have d5 := (H1.out.pull 2 rfl).cell 5 rfl
                        have g5 := (H1.out.pull 2 rfl).free 5 rfl
                        have d6 := (H1.out.pull 2 rfl).cell 6 rfl
                        have g6 := (H1.out.pull 2 rfl).free 6 rfl
                        have z0 := (H1.out.pull 3 rfl).cell 0 rfl
                        have z1 := (H1.out.pull 3 rfl).cell 1 rfl
                        have z2 := (H1.out.pull 3 rfl).cell 2 rfl
                        have z3 := (H1.out.pull 3 rfl).cell 3 rfl
                        have z4 := (H1.out.pull 3 rfl).cell 4 rfl
                        have z5 := (H1.out.pull 3 rfl).cell 5 rfl
                        have z6 := (H1.out.pull 3 rfl).cell 6 rfl
                        have HS7 := Lib.hid (sets7H (H1.out.pull 2 rfl) (.bool false) (.bool false) (.bool false) (.bool false) (.bool false) (.int .i64 0) (.slice none 0 0))
                        go_wp2_with fail
                        refine (I0.out _).mono ?_
                        rintro e w2 ⟨rfl, rfl⟩
                        go_wp2_with fail
                        refine (I1.out _).mono ?_
                        rintro e w2 ⟨rfl, rfl⟩
                        go_wp2_with fail
                        refine (I2.out _).mono ?_
                        rintro e w2 ⟨rfl, rfl⟩
                        go_wp2_with fail
                        refine (I3.out _).mono ?_
                        rintro e w2 ⟨rfl, rfl⟩
                        go_wp2_with fail
                        refine (I4.out _).mono ?_
                        rintro e w2 ⟨rfl, rfl⟩
                        go_wp2_with fail
                        refine (I5.out _).mono ?_
                        rintro e w2 ⟨rfl, rfl⟩
                        go_wp2_with fail
                        exact bodyPost_ret (v := .tuple #[.agg #[.bool false, .bool false, .bool false, .bool false, .bool false, .int .i64 0, .slice none 0 0], .int .i64 131]) (by simp [results, Tryd.results13, go_sem, d0, d1, d2, d3, d4, d5, d6]) rfl ⟨.slice none 0 0, rfl, rowS_nil HS7.out.below⟩
                      | false =>
                        have I5 := Lib.hid (fun W => is_wPrefix W x hxs false q5)
                        have d0 := (H1.out.pull 2 rfl).cell 0 rfl
                        have g0 := (H1.out.pull 2 rfl).free 0 rfl
                        have d1 := (H1.out.pull 2 rfl).cell 1 rfl
                        have g1 := (H1.out.pull 2 rfl).free 1 rfl
                        have d2 := (H1.out.pull 2 rfl).cell 2 rfl
                        have g2 := (H1.out.pull 2 rfl).free 2 rfl
                        have d3 := (H1.out.pull 2 rfl).cell 3 rfl
                        have g3 := (H1.out.pull 2 rfl).free 3 rfl
                        have d4 := (H1.out.pull 2 rfl).cell 4 rfl
                        have g4 := (H1.out.pull 2 rfl).free 4 rfl
                        have d5 := (H1.out.pull 2 rfl).cell 5 rfl
                        have g5 := (H1.out.pull 2 rfl).free 5 rfl
                        have d6 := (H1.out.pull 2 rfl).cell 6 rfl
                        have g6 := (H1.out.pull 2 rfl).free 6 rfl
                        have z0 := (H1.out.pull 3 rfl).cell 0 rfl
                        have z1 := (H1.out.pull 3 rfl).cell 1 rfl
                        have z2 := (H1.out.pull 3 rfl).cell 2 rfl
                        have z3 := (H1.out.pull 3 rfl).cell 3 rfl
                        have z4 := (H1.out.pull 3 rfl).cell 4 rfl
                        have z5 := (H1.out.pull 3 rfl).cell 5 rfl
                        have z6 := (H1.out.pull 3 rfl).cell 6 rfl
                        have HS7 := Lib.hid (sets7H (H1.out.pull 2 rfl) (.bool false) (.bool false) (.bool false) (.bool false) (.bool false) (.int .i64 0) (.slice none 0 0))
                        go_wp2_with fail
                        refine (I0.out _).mono ?_
                        rintro e w2 ⟨rfl, rfl⟩
                        go_wp2_with fail
                        refine (I1.out _).mono ?_
                        rintro e w2 ⟨rfl, rfl⟩
                        go_wp2_with fail
                        refine (I2.out _).mono ?_
                        rintro e w2 ⟨rfl, rfl⟩
                        go_wp2_with fail
                        refine (I3.out _).mono ?_
                        rintro e w2 ⟨rfl, rfl⟩
                        go_wp2_with fail
                        refine (I4.out _).mono ?_
                        rintro e w2 ⟨rfl, rfl⟩
                        go_wp2_with fail
                        refine (I5.out _).mono ?_
                        rintro e w2 ⟨rfl, rfl⟩
                        go_wp2_with fail
                        exact bodyPost_ret (v := .tuple #[.agg #[.bool false, .bool false, .bool false, .bool false, .bool false, .int .i64 0, .slice none 0 0], .int .i64 131]) (by simp [results, Tryd.results13, go_sem, d0, d1, d2, d3, d4, d5, d6]) rfl ⟨.slice none 0 0, rfl, rowS_nil HS7.out.below⟩
                  have hjc1 : (j : Int) + 1 < (n : Int) := by omega
                  have hj1w : j + 1 < ws.length := by have := HN.out; omega
                  obtain ⟨y, hy⟩ : ∃ y, ws[j + 1] = y := ⟨_, rfl⟩
                  have c1 : wr.cell? ⟨B, p + (j + 1), none⟩ = some (.string y) := by rw [← hy]; exact HCw.out _ HL.out.h.below (j + 1) hj1w
                  have hys : y.size ≤ 1000000 := by rw [← hy]; exact HS.out _ (List.getElem_mem hj1w)
                  have HX3 : Hid (run m (x :: y :: ws.drop (j + 2)) = R) := Lib.hid (by rw [← HX.out, drop_two hj1w, hy])
                  clear HX hy
                  have hw1 : IntKind.i64.wrap ((j : Int) + 1) = (j : Int) + 1 := by rw [IntKind.wrap_i64]; omega
                  have hw2 : IntKind.i64.wrap ((j : Int) + 1 + 1) = (j : Int) + 1 + 1 := by rw [IntKind.wrap_i64]; omega
                  have hj0 : (0 : Int) ≤ (j : Int) + 1 := by omega
                  cases q4 : isW x wRedirect with
                  | true =>
                    have I4 := Lib.hid (fun W => is_wRedirect W x hxs true q4)
                    obtain ⟨pa, pe, hab⟩ : ∃ pa pe, Num.wp (tl y) = (pa, pe) := ⟨_, _, rfl⟩
                    have HPb := Lib.hid (fun W => refParse_calls y hys W pa pe hab)
                    have HY : Hid ((if pe = 0 ∧ 0 ≤ pa ∧ pa ≤ 1000000000 then run { m with rd := pa } (ws.drop (j + 2)) else none) = R) := Lib.hid (by
                      rw [← HX3.out]
                      by_cases hc : (Num.wp (tl y)).2 = 0 ∧ 0 ≤ (Num.wp (tl y)).1 ∧ (Num.wp (tl y)).1 ≤ 1000000000
                      · rw [run_redirect HNn.out q4 hc]
                        rw [hab] at hc ⊢
                        rw [if_pos hc]
                      · rw [run_redirect_no HNn.out q4 hc]
                        rw [hab] at hc
                        rw [if_neg hc])
                    clear HX3 hab q4
                    have H1 := Lib.hid HL.out.h
                    have HP := Lib.hid HL.out.p
                    clear HL
                    by_cases g1 : pe = 0 ∧ 0 ≤ pa ∧ pa ≤ 1000000000
                    case neg =>
                      have hRn : R = none := by rw [← HY.out, if_neg g1]
                      have e := HNone.out hRn
                      injection e with e1 e2
                      subst e1 e2
                      by_cases g2 : pe = 0
                      case neg =>
                        have g2c : (!pe == 0) = true := by simpa using g2
                        have d0 := (H1.out.pull 2 rfl).cell 0 rfl
                        have g0 := (H1.out.pull 2 rfl).free 0 rfl
                        have d1 := (H1.out.pull 2 rfl).cell 1 rfl
                        have g1 := (H1.out.pull 2 rfl).free 1 rfl
                        have d2 := (H1.out.pull 2 rfl).cell 2 rfl
                        have g2 := (H1.out.pull 2 rfl).free 2 rfl
                        have d3 := (H1.out.pull 2 rfl).cell 3 rfl
                        have g3 := (H1.out.pull 2 rfl).free 3 rfl
                        have d4 := (H1.out.pull 2 rfl).cell 4 rfl
                        have g4 := (H1.out.pull 2 rfl).free 4 rfl
                        have d5 := (H1.out.pull 2 rfl).cell 5 rfl
                        have g5 := (H1.out.pull 2 rfl).free 5 rfl
                        have d6 := (H1.out.pull 2 rfl).cell 6 rfl
                        have g6 := (H1.out.pull 2 rfl).free 6 rfl
                        have z0 := (H1.out.pull 3 rfl).cell 0 rfl
                        have z1 := (H1.out.pull 3 rfl).cell 1 rfl
                        have z2 := (H1.out.pull 3 rfl).cell 2 rfl
                        have z3 := (H1.out.pull 3 rfl).cell 3 rfl
                        have z4 := (H1.out.pull 3 rfl).cell 4 rfl
                        have z5 := (H1.out.pull 3 rfl).cell 5 rfl
                        have z6 := (H1.out.pull 3 rfl).cell 6 rfl
                        have HS7 := Lib.hid (sets7H (H1.out.pull 2 rfl) (.bool false) (.bool false) (.bool false) (.bool false) (.bool false) (.int .i64 0) (.slice none 0 0))
                        go_wp2_with fail
                        refine (I0.out _).mono ?_
                        rintro e w2 ⟨rfl, rfl⟩
                        go_wp2_with fail
                        refine (I1.out _).mono ?_
                        rintro e w2 ⟨rfl, rfl⟩
                        go_wp2_with fail
                        refine (I2.out _).mono ?_
                        rintro e w2 ⟨rfl, rfl⟩
                        go_wp2_with fail
                        refine (I3.out _).mono ?_
                        rintro e w2 ⟨rfl, rfl⟩
                        go_wp2_with fail
                        refine (I4.out _).mono ?_
                        rintro e w2 ⟨rfl, rfl⟩
                        go_wp2_with fail
                        refine (HPb.out _).mono ?_
                        rintro e w2 ⟨rfl, rfl⟩
                        go_wp2_with fail
                        exact bodyPost_ret (v := .tuple #[.agg #[.bool false, .bool false, .bool false, .bool false, .bool false, .int .i64 0, .slice none 0 0], .int .i64 131]) (by simp [results, Tryd.results13, go_sem, d0, d1, d2, d3, d4, d5, d6]) rfl ⟨.slice none 0 0, rfl, rowS_nil HS7.out.below⟩
                      subst g2
                      by_cases g3 : pa < 0
                      case pos =>
                        have d0 := (H1.out.pull 2 rfl).cell 0 rfl
                        have g0 := (H1.out.pull 2 rfl).free 0 rfl
                        have d1 := (H1.out.pull 2 rfl).cell 1 rfl
                        have g1 := (H1.out.pull 2 rfl).free 1 rfl
                        have d2 := (H1.out.pull 2 rfl).cell 2 rfl
                        have g2 := (H1.out.pull 2 rfl).free 2 rfl
                        have d3 := (H1.out.pull 2 rfl).cell 3 rfl
                        have g3 := (H1.out.pull 2 rfl).free 3 rfl
                        have d4 := (H1.out.pull 2 rfl).cell 4 rfl
                        have g4 := (H1.out.pull 2 rfl).free 4 rfl
                        have d5 := (H1.out.pull 2 rfl).cell 5 rfl
                        have g5 := (H1.out.pull 2 rfl).free 5 rfl
                        have d6 := (H1.out.pull 2 rfl).cell 6 rfl
                        have g6 := (H1.out.pull 2 rfl).free 6 rfl
                        have z0 := (H1.out.pull 3 rfl).cell 0 rfl
                        have z1 := (H1.out.pull 3 rfl).cell 1 rfl
                        have z2 := (H1.out.pull 3 rfl).cell 2 rfl
                        have z3 := (H1.out.pull 3 rfl).cell 3 rfl
                        have z4 := (H1.out.pull 3 rfl).cell 4 rfl
                        have z5 := (H1.out.pull 3 rfl).cell 5 rfl
                        have z6 := (H1.out.pull 3 rfl).cell 6 rfl
                        have HS7 := Lib.hid (sets7H (H1.out.pull 2 rfl) (.bool false) (.bool false) (.bool false) (.bool false) (.bool false) (.int .i64 0) (.slice none 0 0))
                        go_wp2_with fail
                        refine (I0.out _).mono ?_
                        rintro e w2 ⟨rfl, rfl⟩
                        go_wp2_with fail
                        refine (I1.out _).mono ?_
                        rintro e w2 ⟨rfl, rfl⟩
                        go_wp2_with fail
                        refine (I2.out _).mono ?_
                        rintro e w2 ⟨rfl, rfl⟩
                        go_wp2_with fail
                        refine (I3.out _).mono ?_
                        rintro e w2 ⟨rfl, rfl⟩
                        go_wp2_with fail
                        refine (I4.out _).mono ?_
                        rintro e w2 ⟨rfl, rfl⟩
                        go_wp2_with fail
                        refine (HPb.out _).mono ?_
                        rintro e w2 ⟨rfl, rfl⟩
                        go_wp2_with fail
                        exact bodyPost_ret (v := .tuple #[.agg #[.bool false, .bool false, .bool false, .bool false, .bool false, .int .i64 0, .slice none 0 0], .int .i64 131]) (by simp [results, Tryd.results13, go_sem, d0, d1, d2, d3, d4, d5, d6]) rfl ⟨.slice none 0 0, rfl, rowS_nil HS7.out.below⟩
                      have g4 : 1000000000 < pa := by omega
                      have d0 := (H1.out.pull 2 rfl).cell 0 rfl
                      have g0 := (H1.out.pull 2 rfl).free 0 rfl
                      have d1 := (H1.out.pull 2 rfl).cell 1 rfl
                      have g1 := (H1.out.pull 2 rfl).free 1 rfl
                      have d2 := (H1.out.pull 2 rfl).cell 2 rfl
                      have g2 := (H1.out.pull 2 rfl).free 2 rfl
                      have d3 := (H1.out.pull 2 rfl).cell 3 rfl
                      have g3 := (H1.out.pull 2 rfl).free 3 rfl
                      have d4 := (H1.out.pull 2 rfl).cell 4 rfl
                      have g4 := (H1.out.pull 2 rfl).free 4 rfl
                      have d5 := (H1.out.pull 2 rfl).cell 5 rfl
                      have g5 := (H1.out.pull 2 rfl).free 5 rfl
                      have d6 := (H1.out.pull 2 rfl).cell 6 rfl
                      have g6 := (H1.out.pull 2 rfl).free 6 rfl
                      have z0 := (H1.out.pull 3 rfl).cell 0 rfl
                      have z1 := (H1.out.pull 3 rfl).cell 1 rfl
                      have z2 := (H1.out.pull 3 rfl).cell 2 rfl
                      have z3 := (H1.out.pull 3 rfl).cell 3 rfl
                      have z4 := (H1.out.pull 3 rfl).cell 4 rfl
                      have z5 := (H1.out.pull 3 rfl).cell 5 rfl
                      have z6 := (H1.out.pull 3 rfl).cell 6 rfl
                      have HS7 := Lib.hid (sets7H (H1.out.pull 2 rfl) (.bool false) (.bool false) (.bool false) (.bool false) (.bool false) (.int .i64 0) (.slice none 0 0))
                      go_wp2_with fail
                      refine (I0.out _).mono ?_
                      rintro e w2 ⟨rfl, rfl⟩
                      go_wp2_with fail
                      refine (I1.out _).mono ?_
                      rintro e w2 ⟨rfl, rfl⟩
                      go_wp2_with fail
                      refine (I2.out _).mono ?_
                      rintro e w2 ⟨rfl, rfl⟩
                      go_wp2_with fail
                      refine (I3.out _).mono ?_
                      rintro e w2 ⟨rfl, rfl⟩
                      go_wp2_with fail
                      refine (I4.out _).mono ?_
                      rintro e w2 ⟨rfl, rfl⟩
                      go_wp2_with fail
                      refine (HPb.out _).mono ?_
                      rintro e w2 ⟨rfl, rfl⟩
                      go_wp2_with fail
                      exact bodyPost_ret (v := .tuple #[.agg #[.bool false, .bool false, .bool false, .bool false, .bool false, .int .i64 0, .slice none 0 0], .int .i64 131]) (by simp [results, Tryd.results13, go_sem, d0, d1, d2, d3, d4, d5, d6]) rfl ⟨.slice none 0 0, rfl, rowS_nil HS7.out.below⟩
                    have hRy : run { m with rd := pa } (ws.drop (j + 2)) = R := by rw [← HY.out, if_pos g1]
                    have HRy := Lib.hid hRy
                    obtain ⟨rfl, g2, g3⟩ := g1
                    have g2c : ¬ pa < 0 := by omega
                    have g3c : ¬ 1000000000 < pa := by omega
                    clear hRy HY
                    go_wp2_with fail
                    refine (I0.out _).mono ?_
                    rintro e w2 ⟨rfl, rfl⟩
                    go_wp2_with fail
                    refine (I1.out _).mono ?_
                    rintro e w2 ⟨rfl, rfl⟩
                    go_wp2_with fail
                    refine (I2.out _).mono ?_
                    rintro e w2 ⟨rfl, rfl⟩
                    go_wp2_with fail
                    refine (I3.out _).mono ?_
                    rintro e w2 ⟨rfl, rfl⟩
                    go_wp2_with fail
                    refine (I4.out _).mono ?_
                    rintro e w2 ⟨rfl, rfl⟩
                    go_wp2_with fail
                    refine (HPb.out _).mono ?_
                    rintro e w2 ⟨rfl, rfl⟩
                    have d := H1.out.cell 5 rfl
                    have df := H1.out.free 5 rfl
                    have H4 := Lib.hid (H1.out.cellSet 5 (.int .i64 pa) rfl)
                    clear H1
                    go_wp2_with fail
                    go_roundg (gk - 1)
                    case measure => omega
                    case rel => exact ⟨j + 2, { m with rd := pa }, v, by go_num, by omega, by omega, by omega, Lib.hid ⟨HRy.out, by have := HP.out; simp only; omega, H4.out⟩⟩
                  | false =>
                    have I4 := Lib.hid (fun W => is_wRedirect W x hxs false q4)
                    cases q5 : isW x wPrefix with
                    | false =>
                      have I5 := Lib.hid (fun W => is_wPrefix W x hxs false q5)
                      have hRn : R = none := by rw [← HX3.out]; exact run_no HNn.out q4 q5
                      have H1 := Lib.hid HL.out.h
                      clear HL HX3
                      have e := HNone.out hRn
                      injection e with e1 e2
                      subst e1 e2
                      have d0 := (H1.out.pull 2 rfl).cell 0 rfl
                      have g0 := (H1.out.pull 2 rfl).free 0 rfl
                      have d1 := (H1.out.pull 2 rfl).cell 1 rfl
                      have g1 := (H1.out.pull 2 rfl).free 1 rfl
                      have d2 := (H1.out.pull 2 rfl).cell 2 rfl
                      have g2 := (H1.out.pull 2 rfl).free 2 rfl
                      have d3 := (H1.out.pull 2 rfl).cell 3 rfl
                      have g3 := (H1.out.pull 2 rfl).free 3 rfl
                      have d4 := (H1.out.pull 2 rfl).cell 4 rfl
                      have g4 := (H1.out.pull 2 rfl).free 4 rfl
                      have d5 := (H1.out.pull 2 rfl).cell 5 rfl
                      have g5 := (H1.out.pull 2 rfl).free 5 rfl
                      have d6 := (H1.out.pull 2 rfl).cell 6 rfl
                      have g6 := (H1.out.pull 2 rfl).free 6 rfl
                      have z0 := (H1.out.pull 3 rfl).cell 0 rfl
                      have z1 := (H1.out.pull 3 rfl).cell 1 rfl
                      have z2 := (H1.out.pull 3 rfl).cell 2 rfl
                      have z3 := (H1.out.pull 3 rfl).cell 3 rfl
                      have z4 := (H1.out.pull 3 rfl).cell 4 rfl
                      have z5 := (H1.out.pull 3 rfl).cell 5 rfl
                      have z6 := (H1.out.pull 3 rfl).cell 6 rfl
                      have HS7 := Lib.hid (sets7H (H1.out.pull 2 rfl) (.bool false) (.bool false) (.bool false) (.bool false) (.bool false) (.int .i64 0) (.slice none 0 0))
                      go_wp2_with fail
                      refine (I0.out _).mono ?_
                      rintro e w2 ⟨rfl, rfl⟩
                      go_wp2_with fail
                      refine (I1.out _).mono ?_
                      rintro e w2 ⟨rfl, rfl⟩
                      go_wp2_with fail
                      refine (I2.out _).mono ?_
                      rintro e w2 ⟨rfl, rfl⟩
                      go_wp2_with fail
                      refine (I3.out _).mono ?_
                      rintro e w2 ⟨rfl, rfl⟩
                      go_wp2_with fail
                      refine (I4.out _).mono ?_
                      rintro e w2 ⟨rfl, rfl⟩
                      go_wp2_with fail
                      refine (I5.out _).mono ?_
                      rintro e w2 ⟨rfl, rfl⟩
                      go_wp2_with fail
                      exact bodyPost_ret (v := .tuple #[.agg #[.bool false, .bool false, .bool false, .bool false, .bool false, .int .i64 0, .slice none 0 0], .int .i64 131]) (by simp [results, Tryd.results13, go_sem, d0, d1, d2, d3, d4, d5, d6]) rfl ⟨.slice none 0 0, rfl, rowS_nil HS7.out.below⟩
                    | true =>
                      have I5 := Lib.hid (fun W => is_wPrefix W x hxs true q5)
                      have HY : Hid (run { m with ps := m.ps ++ [y] } (ws.drop (j + 2)) = R) := Lib.hid (by rw [← HX3.out, run_prefix HNn.out q4 q5])
                      have H1 := Lib.hid HL.out.h
                      have HP := Lib.hid HL.out.p
                      clear HL HX3
                      obtain ⟨ra, rc, rfl, -, -, -⟩ := (H1.out.pull 1 rfl).rowForm
                      obtain ⟨i0, hi0, hz0, hz1, hz2⟩ := info_parts iStr
                      have hb6 : Below wr.heap.size wr (wr.alloc (.cells #[.string y] 9)).drew := (bbox _).drew
                      have hmps : m.ps.length ≤ 1000000 := by have := HP.out; omega
                      obtain ⟨a7, c7, w7, hrun, h7, hst⟩ := Sp.rowRun (P := Tryd.prog) (H1.out.pull 1 rfl) hb6 22 22 i0 (.string ⟨#[]⟩) 16 Tryd.underlying22 hi0 hz0 hz1 hz2 rfl (by decide) ⟨wr.heap.size, 0, none⟩ 1 1 [.string y] rfl
                        (fun j u hj => by
                          rw [Addr.add_lit, Nat.zero_add]
                          show (wr.alloc _).cell? _ = _
                          rw [World.cell?_alloc_new]
                          simpa using hj)
                        (fun u hu => by
                          simp only [List.mem_cons, List.not_mem_nil, or_false] at hu
                          rcases hu with rfl; rfl) (by unfold maxLen; omega) (by omega)
                      have h8 : Hp o w7 (rowST (.slice a7 (m.ps.length + 1) c7) (m.ps ++ [y]) :: cellsT b2 (mL m (.slice ra m.ps.length rc)) :: [cellsT b0 [.bool false, .bool false, .bool false, .bool false, .bool false, .int .i64 0, .slice none 0 0], cellsT b1 [.bool false, .bool false, .bool false, .bool false, .bool false, .int .i64 0, .slice none 0 0]]) := by
                        unfold rowST
                        rw [List.length_append, show cellsS (m.ps ++ [y]) = cellsS m.ps ++ [.string y] from List.map_append]
                        exact h7
                      have H7 := Lib.hid (h8.pull 1 rfl)
                      have s6 := H1.out.cell 6 rfl
                      have s6a : (wr.alloc (.cells #[.string y] 9)).cell? ⟨b2, 6, none⟩ = some (.slice ra m.ps.length rc) := (H1.out.bel (bbox _)).cell 6 rfl
                      have u6 := H7.out.cell 6 rfl
                      have v6 := H7.out.free 6 rfl
                      have H8 := Lib.hid (H7.out.cellSet 6 (.slice a7 (m.ps.length + 1) c7) rfl)
                      clear hi0 hz0 hz1 hz2 h7 h8 hst hb6 H7 H1
                      go_wp2_with fail
                      refine (I0.out _).mono ?_
                      rintro e w2 ⟨rfl, rfl⟩
                      go_wp2_with fail
                      refine (I1.out _).mono ?_
                      rintro e w2 ⟨rfl, rfl⟩
                      go_wp2_with fail
                      refine (I2.out _).mono ?_
                      rintro e w2 ⟨rfl, rfl⟩
                      go_wp2_with fail
                      refine (I3.out _).mono ?_
                      rintro e w2 ⟨rfl, rfl⟩
                      go_wp2_with fail
                      refine (I4.out _).mono ?_
                      rintro e w2 ⟨rfl, rfl⟩
                      go_wp2_with fail
                      refine (I5.out _).mono ?_
                      rintro e w2 ⟨rfl, rfl⟩
                      go_wp2_with fail
                      go_region_law (
                        refine Sp.step_app (o := ⟨some 109, _, _, _, _, _⟩) rfl (.tmp 103) (.tmp 108) rfl ?_ ?_ hrun ?_
                        first | rfl | simp [Act.eval]
                        first | rfl | simp [Act.eval])
                      all_goals go_wp2_with fail
                      all_goals go_roundg (gk - 1)
                      all_goals first
                        | omega
                        | exact ⟨j + 2, { m with ps := m.ps ++ [y] }, .slice a7 (m.ps.length + 1) c7, by go_num, by omega, by omega, by omega, Lib.hid ⟨HY.out, by have := HP.out; simp; omega, by simpa [modeH, mL] using H8.out⟩⟩
        case neg =>
          have hjc : ¬ (j : Int) < (n : Int) := by omega
          have hRm : some m = R := by
            have e : ws.drop j = [] := List.drop_eq_nil_iff.2 (by have := HN.out; omega)
            rw [← HL.out.r, e]; rfl
          have HE := Lib.hid (HEnd.out m hRm.symm)
          have H1 := Lib.hid HL.out.h
          have hps : m.ps.length ≤ 1000 := by have := HL.out.p; omega
          have c00 := HC00.out _ H1.out.below
          have HRm := Lib.hid hRm
          clear HL hRm HNone HEnd
          obtain ⟨ra, rc, rfl, -, -, hrz⟩ := (H1.out.pull 1 rfl).rowForm
          have HSo := Lib.hid (fun W (hb : Below wr.heap.size wr W) => sorted_calls W ra rc m.ps.length m.ps rfl (by
            obtain ⟨x, y, e, -, -, -, h⟩ := (rowS_of ((H1.out.bel hb).pull 1 rfl)).slice
            injection e with e1 e2 e3
            rw [e1]; exact h) (by omega))
          have x6 := H1.out.cell 6 rfl
          go_wp2_with fail
          refine (J1.out _).mono ?_
          rintro e w2 ⟨rfl, rfl⟩
          go_wp2_with fail
          refine (HSo.out _ (Below.refl _ _)).mono ?_
          rintro e w5 ⟨v5, rfl, hR5⟩
          have HLn := Lib.hid (srt_len m.ps)
          have HLs : Hid (srt m.ps = srt m.ps) := Lib.hid rfl
          obtain ⟨L, hL⟩ : ∃ L, srt m.ps = L := ⟨_, rfl⟩
          rw [hL] at hR5 HLn
          have HLe := Lib.hid hL
          obtain ⟨sa, sc, rfl, -, -, -, -⟩ := hR5.slice
          have h6 := ((H1.out.rowAdd hR5.bel hR5.row (Nat.le_refl _)).dropAt 2 rfl).pull 1 rfl
          have y6 := h6.cell 6 rfl
          have z6 := h6.free 6 rfl
          have H7 := Lib.hid (h6.cellSet 6 (.slice sa L.length sc) rfl)
          clear h6 hR5 HSo H1 x6 c00 hL HLs
          go_upto_region 30 with fail
          clear y6 z6
          generalize (w5.setCell ⟨b2, 6, none⟩ (.slice sa L.length sc)) = w6 at *
          have hon : m.on = true := run_on r0 onM m (hR0.out.trans HRm.out.symm)
          have hLn : L.length = m.ps.length := HLn.out
          have H7 : Hid (Hp o w6 (cellsT b2 [.bool m.on, .bool m.bc, .bool m.oi, .bool m.oo, .bool m.nl, .int .i64 m.rd, .slice sa L.length sc] :: rowST (.slice sa L.length sc) L :: [cellsT b0 [.bool false, .bool false, .bool false, .bool false, .bool false, .int .i64 0, .slice none 0 0], cellsT b1 [.bool false, .bool false, .bool false, .bool false, .bool false, .int .i64 0, .slice none 0 0]])) := H7
          rw [hon] at H7
          cases hbc : m.bc with
          | false =>
            rw [hbc] at H7
            have HL : Hid (allOf m = L) := Lib.hid (by unfold allOf; rw [if_neg (fun h => by rw [hbc] at h; cases h.1)]; exact HLe.out)
            have HLl : Hid (L.length ≤ 1000000) := Lib.hid (by omega)
            clear hLn
            have HE2 : Hid ((if rightB { m with ps := L } then ({ m with ps := L }, 0) else (zero, 132)) = (r, k)) := Lib.hid (by have e := HE.out; unfold endM at e; rw [HL.out] at e; exact e)
            have HRi := Lib.hid (rightB_iff { m with ps := L })
            generalize rightB { m with ps := L } = rb at *
            have HRt := Lib.hid (refRight_calls _ { m with ps := L } sa sc (by obtain ⟨x, y, e, -, -, -, h⟩ := (rowS_of (H7.out.pull 1 rfl)).slice; injection e with e1 e2 e3; rw [e1]; exact h) (by obtain ⟨x, y, e, h, -, -, -⟩ := (rowS_of (H7.out.pull 1 rfl)).slice; injection e with e1 e2 e3; rw [e3]; exact h) HLl.out rb HRi.out)
            unfold mV at HRt
            simp only [hon, hbc] at HRt
            clear HE HL HRi
            have x0 := (H7.out).cell 0 rfl
            have x1 := (H7.out).cell 1 rfl
            have x2 := (H7.out).cell 2 rfl
            have x3 := (H7.out).cell 3 rfl
            have x4 := (H7.out).cell 4 rfl
            have x5 := (H7.out).cell 5 rfl
            have x6 := (H7.out).cell 6 rfl
            go_wp2_with fail
            refine HRt.out.mono ?_
            rintro e w8 ⟨rfl, hb8⟩
            have H8 := Lib.hid (H7.out.bel hb8)
            clear hb8 HRt H7 x0 x1 x2 x3 x4 x5 x6
            cases rb with
            | false =>
              have e := HE2.out
              simp only [Bool.false_eq_true, if_false] at e
              injection e with e1 e2
              subst e1 e2
              have d0 := (H8.out.pull 2 rfl).cell 0 rfl
              have g0 := (H8.out.pull 2 rfl).free 0 rfl
              have d1 := (H8.out.pull 2 rfl).cell 1 rfl
              have g1 := (H8.out.pull 2 rfl).free 1 rfl
              have d2 := (H8.out.pull 2 rfl).cell 2 rfl
              have g2 := (H8.out.pull 2 rfl).free 2 rfl
              have d3 := (H8.out.pull 2 rfl).cell 3 rfl
              have g3 := (H8.out.pull 2 rfl).free 3 rfl
              have d4 := (H8.out.pull 2 rfl).cell 4 rfl
              have g4 := (H8.out.pull 2 rfl).free 4 rfl
              have d5 := (H8.out.pull 2 rfl).cell 5 rfl
              have g5 := (H8.out.pull 2 rfl).free 5 rfl
              have d6 := (H8.out.pull 2 rfl).cell 6 rfl
              have g6 := (H8.out.pull 2 rfl).free 6 rfl
              have z0 := (H8.out.pull 3 rfl).cell 0 rfl
              have z1 := (H8.out.pull 3 rfl).cell 1 rfl
              have z2 := (H8.out.pull 3 rfl).cell 2 rfl
              have z3 := (H8.out.pull 3 rfl).cell 3 rfl
              have z4 := (H8.out.pull 3 rfl).cell 4 rfl
              have z5 := (H8.out.pull 3 rfl).cell 5 rfl
              have z6 := (H8.out.pull 3 rfl).cell 6 rfl
              have HS7 := Lib.hid (sets7H (H8.out.pull 2 rfl) (.bool false) (.bool false) (.bool false) (.bool false) (.bool false) (.int .i64 0) (.slice none 0 0))
              go_wp2_with fail
              exact bodyPost_ret (v := .tuple #[.agg #[.bool false, .bool false, .bool false, .bool false, .bool false, .int .i64 0, .slice none 0 0], .int .i64 132]) (by simp [results, Tryd.results13, go_sem, d0, d1, d2, d3, d4, d5, d6]) rfl ⟨.slice none 0 0, rfl, rowS_nil HS7.out.below⟩
            | true =>
              have e := HE2.out
              simp only [if_true] at e
              injection e with e1 e2
              subst e1 e2
              have x0 := (H8.out).cell 0 rfl
              have x1 := (H8.out).cell 1 rfl
              have x2 := (H8.out).cell 2 rfl
              have x3 := (H8.out).cell 3 rfl
              have x4 := (H8.out).cell 4 rfl
              have x5 := (H8.out).cell 5 rfl
              have x6 := (H8.out).cell 6 rfl
              have d0 := (H8.out.pull 2 rfl).cell 0 rfl
              have g0 := (H8.out.pull 2 rfl).free 0 rfl
              have d1 := (H8.out.pull 2 rfl).cell 1 rfl
              have g1 := (H8.out.pull 2 rfl).free 1 rfl
              have d2 := (H8.out.pull 2 rfl).cell 2 rfl
              have g2 := (H8.out.pull 2 rfl).free 2 rfl
              have d3 := (H8.out.pull 2 rfl).cell 3 rfl
              have g3 := (H8.out.pull 2 rfl).free 3 rfl
              have d4 := (H8.out.pull 2 rfl).cell 4 rfl
              have g4 := (H8.out.pull 2 rfl).free 4 rfl
              have d5 := (H8.out.pull 2 rfl).cell 5 rfl
              have g5 := (H8.out.pull 2 rfl).free 5 rfl
              have d6 := (H8.out.pull 2 rfl).cell 6 rfl
              have g6 := (H8.out.pull 2 rfl).free 6 rfl
              have HS7 := Lib.hid (sets7H (H8.out.pull 2 rfl) (.bool true) (.bool false) (.bool m.oi) (.bool m.oo) (.bool m.nl) (.int .i64 m.rd) (.slice sa L.length sc))
              go_wp2_with fail
              exact bodyPost_ret (v := .tuple #[.agg #[.bool true, .bool false, .bool m.oi, .bool m.oo, .bool m.nl, .int .i64 m.rd, .slice sa L.length sc], .int .i64 0]) (by simp [results, Tryd.results13, go_sem, d0, d1, d2, d3, d4, d5, d6]) rfl ⟨.slice sa L.length sc, by first | rfl | simp [mVv, *], rowS_of (HS7.out.pull 2 rfl)⟩
          | true =>
            rw [hbc] at H7
            by_cases h0 : L.length = 0
            case neg =>
              have HL : Hid (allOf m = L) := Lib.hid (by unfold allOf; rw [if_neg (fun h => h0 (by omega))]; exact HLe.out)
              have HLl : Hid (L.length ≤ 1000000) := Lib.hid (by omega)
              have h0b : ((L.length : Int) == 0) = false := by rw [beq_eq_false_iff_ne]; omega
              clear hLn
              have HE2 : Hid ((if rightB { m with ps := L } then ({ m with ps := L }, 0) else (zero, 132)) = (r, k)) := Lib.hid (by have e := HE.out; unfold endM at e; rw [HL.out] at e; exact e)
              have HRi := Lib.hid (rightB_iff { m with ps := L })
              generalize rightB { m with ps := L } = rb at *
              have HRt := Lib.hid (refRight_calls _ { m with ps := L } sa sc (by obtain ⟨x, y, e, -, -, -, h⟩ := (rowS_of (H7.out.pull 1 rfl)).slice; injection e with e1 e2 e3; rw [e1]; exact h) (by obtain ⟨x, y, e, h, -, -, -⟩ := (rowS_of (H7.out.pull 1 rfl)).slice; injection e with e1 e2 e3; rw [e3]; exact h) HLl.out rb HRi.out)
              unfold mV at HRt
              simp only [hon, hbc] at HRt
              clear HE HL HRi
              have x0 := (H7.out).cell 0 rfl
              have x1 := (H7.out).cell 1 rfl
              have x2 := (H7.out).cell 2 rfl
              have x3 := (H7.out).cell 3 rfl
              have x4 := (H7.out).cell 4 rfl
              have x5 := (H7.out).cell 5 rfl
              have x6 := (H7.out).cell 6 rfl
              go_wp2_with fail
              refine HRt.out.mono ?_
              rintro e w8 ⟨rfl, hb8⟩
              have H8 := Lib.hid (H7.out.bel hb8)
              clear hb8 HRt H7 x0 x1 x2 x3 x4 x5 x6
              cases rb with
              | false =>
                have e := HE2.out
                simp only [Bool.false_eq_true, if_false] at e
                injection e with e1 e2
                subst e1 e2
                have d0 := (H8.out.pull 2 rfl).cell 0 rfl
                have g0 := (H8.out.pull 2 rfl).free 0 rfl
                have d1 := (H8.out.pull 2 rfl).cell 1 rfl
                have g1 := (H8.out.pull 2 rfl).free 1 rfl
                have d2 := (H8.out.pull 2 rfl).cell 2 rfl
                have g2 := (H8.out.pull 2 rfl).free 2 rfl
                have d3 := (H8.out.pull 2 rfl).cell 3 rfl
                have g3 := (H8.out.pull 2 rfl).free 3 rfl
                have d4 := (H8.out.pull 2 rfl).cell 4 rfl
                have g4 := (H8.out.pull 2 rfl).free 4 rfl
                have d5 := (H8.out.pull 2 rfl).cell 5 rfl
                have g5 := (H8.out.pull 2 rfl).free 5 rfl
                have d6 := (H8.out.pull 2 rfl).cell 6 rfl
                have g6 := (H8.out.pull 2 rfl).free 6 rfl
                have z0 := (H8.out.pull 3 rfl).cell 0 rfl
                have z1 := (H8.out.pull 3 rfl).cell 1 rfl
                have z2 := (H8.out.pull 3 rfl).cell 2 rfl
                have z3 := (H8.out.pull 3 rfl).cell 3 rfl
                have z4 := (H8.out.pull 3 rfl).cell 4 rfl
                have z5 := (H8.out.pull 3 rfl).cell 5 rfl
                have z6 := (H8.out.pull 3 rfl).cell 6 rfl
                have HS7 := Lib.hid (sets7H (H8.out.pull 2 rfl) (.bool false) (.bool false) (.bool false) (.bool false) (.bool false) (.int .i64 0) (.slice none 0 0))
                go_wp2_with fail
                exact bodyPost_ret (v := .tuple #[.agg #[.bool false, .bool false, .bool false, .bool false, .bool false, .int .i64 0, .slice none 0 0], .int .i64 132]) (by simp [results, Tryd.results13, go_sem, d0, d1, d2, d3, d4, d5, d6]) rfl ⟨.slice none 0 0, rfl, rowS_nil HS7.out.below⟩
              | true =>
                have e := HE2.out
                simp only [if_true] at e
                injection e with e1 e2
                subst e1 e2
                have x0 := (H8.out).cell 0 rfl
                have x1 := (H8.out).cell 1 rfl
                have x2 := (H8.out).cell 2 rfl
                have x3 := (H8.out).cell 3 rfl
                have x4 := (H8.out).cell 4 rfl
                have x5 := (H8.out).cell 5 rfl
                have x6 := (H8.out).cell 6 rfl
                have d0 := (H8.out.pull 2 rfl).cell 0 rfl
                have g0 := (H8.out.pull 2 rfl).free 0 rfl
                have d1 := (H8.out.pull 2 rfl).cell 1 rfl
                have g1 := (H8.out.pull 2 rfl).free 1 rfl
                have d2 := (H8.out.pull 2 rfl).cell 2 rfl
                have g2 := (H8.out.pull 2 rfl).free 2 rfl
                have d3 := (H8.out.pull 2 rfl).cell 3 rfl
                have g3 := (H8.out.pull 2 rfl).free 3 rfl
                have d4 := (H8.out.pull 2 rfl).cell 4 rfl
                have g4 := (H8.out.pull 2 rfl).free 4 rfl
                have d5 := (H8.out.pull 2 rfl).cell 5 rfl
                have g5 := (H8.out.pull 2 rfl).free 5 rfl
                have d6 := (H8.out.pull 2 rfl).cell 6 rfl
                have g6 := (H8.out.pull 2 rfl).free 6 rfl
                have HS7 := Lib.hid (sets7H (H8.out.pull 2 rfl) (.bool true) (.bool true) (.bool m.oi) (.bool m.oo) (.bool m.nl) (.int .i64 m.rd) (.slice sa L.length sc))
                go_wp2_with fail
                exact bodyPost_ret (v := .tuple #[.agg #[.bool true, .bool true, .bool m.oi, .bool m.oo, .bool m.nl, .int .i64 m.rd, .slice sa L.length sc], .int .i64 0]) (by simp [results, Tryd.results13, go_sem, d0, d1, d2, d3, d4, d5, d6]) rfl ⟨.slice sa L.length sc, by first | rfl | simp [mVv, *], rowS_of (HS7.out.pull 2 rfl)⟩
            case pos =>
              have HL : Hid (allOf m = [mk []]) := Lib.hid (by unfold allOf; rw [if_pos ⟨hbc, by omega⟩])
              have h0b : ((L.length : Int) == 0) = true := by rw [h0]; rfl
              have hrow : (w6.alloc (.cells #[.string ⟨#[]⟩] 9)).ownsRow w6.heap.size 9 1 (.slice (some ⟨w6.heap.size, 0, none⟩) 1 1) [mk []].length (cellsS [mk []]) :=
                ⟨rfl, .inr ⟨w6.heap.size, 1, #[.string ⟨#[]⟩], rfl, Nat.le_refl _, heap_alloc_new w6 _, Nat.le_refl _, by unfold maxLen; omega, rfl, rfl⟩⟩
              have x1 := H7.out.cell 1 rfl
              have x6 := H7.out.cell 6 rfl
              have h4 := (((H7.out.dropAt 1 rfl).rowAdd (bbox _) hrow (Nat.le_refl _)).pull 1 rfl)
              have f6 := h4.free 6 rfl
              have y6 := h4.cell 6 rfl
              have h5 := h4.cellSet 6 (.slice (some ⟨w6.heap.size, 0, none⟩) 1 1) rfl
              have H5a : Hid (Hp o ((w6.alloc (.cells #[.string ⟨#[]⟩] 9)).setCell ⟨b2, 6, none⟩ (.slice (some ⟨w6.heap.size, 0, none⟩) 1 1)) (cellsT b2 [.bool true, .bool true, .bool m.oi, .bool m.oo, .bool m.nl, .int .i64 m.rd, .slice (some ⟨w6.heap.size, 0, none⟩) 1 1] :: rowST (.slice (some ⟨w6.heap.size, 0, none⟩) 1 1) [mk []] :: [cellsT b0 [.bool false, .bool false, .bool false, .bool false, .bool false, .int .i64 0, .slice none 0 0], cellsT b1 [.bool false, .bool false, .bool false, .bool false, .bool false, .int .i64 0, .slice none 0 0]])) := Lib.hid h5
              clear h4 h5 hrow H7
              go_upto_region 32 with fail
              clear f6 y6 x1 x6
              generalize ((w6.alloc (.cells #[.string ⟨#[]⟩] 9)).setCell ⟨b2, 6, none⟩ (.slice (some ⟨w6.heap.size, 0, none⟩) 1 1)) = w7 at *
              generalize (some (⟨w6.heap.size, 0, none⟩ : Addr)) = sa2 at *
              have HLl : Hid ([mk []].length ≤ 1000000) := Lib.hid (by simp)
              clear hLn h0 h0b HLe HLn
              have HE2 : Hid ((if rightB { m with ps := [mk []] } then ({ m with ps := [mk []] }, 0) else (zero, 132)) = (r, k)) := Lib.hid (by have e := HE.out; unfold endM at e; rw [HL.out] at e; exact e)
              have HRi := Lib.hid (rightB_iff { m with ps := [mk []] })
              generalize rightB { m with ps := [mk []] } = rb at *
              have HRt := Lib.hid (refRight_calls _ { m with ps := [mk []] } sa2 1 (by obtain ⟨x, y, e, -, -, -, h⟩ := (rowS_of (H5a.out.pull 1 rfl)).slice; injection e with e1 e2 e3; rw [e1]; exact h) (by obtain ⟨x, y, e, h, -, -, -⟩ := (rowS_of (H5a.out.pull 1 rfl)).slice; injection e with e1 e2 e3; rw [e3]; exact h) HLl.out rb HRi.out)
              unfold mV at HRt
              simp only [hon, hbc] at HRt
              clear HE HL HRi
              have x0 := (H5a.out).cell 0 rfl
              have x1 := (H5a.out).cell 1 rfl
              have x2 := (H5a.out).cell 2 rfl
              have x3 := (H5a.out).cell 3 rfl
              have x4 := (H5a.out).cell 4 rfl
              have x5 := (H5a.out).cell 5 rfl
              have x6 := (H5a.out).cell 6 rfl
              go_wp2_with fail
              refine HRt.out.mono ?_
              rintro e w8 ⟨rfl, hb8⟩
              have H8 := Lib.hid (H5a.out.bel hb8)
              clear hb8 HRt H5a x0 x1 x2 x3 x4 x5 x6
              cases rb with
              | false =>
                have e := HE2.out
                simp only [Bool.false_eq_true, if_false] at e
                injection e with e1 e2
                subst e1 e2
                have d0 := (H8.out.pull 2 rfl).cell 0 rfl
                have g0 := (H8.out.pull 2 rfl).free 0 rfl
                have d1 := (H8.out.pull 2 rfl).cell 1 rfl
                have g1 := (H8.out.pull 2 rfl).free 1 rfl
                have d2 := (H8.out.pull 2 rfl).cell 2 rfl
                have g2 := (H8.out.pull 2 rfl).free 2 rfl
                have d3 := (H8.out.pull 2 rfl).cell 3 rfl
                have g3 := (H8.out.pull 2 rfl).free 3 rfl
                have d4 := (H8.out.pull 2 rfl).cell 4 rfl
                have g4 := (H8.out.pull 2 rfl).free 4 rfl
                have d5 := (H8.out.pull 2 rfl).cell 5 rfl
                have g5 := (H8.out.pull 2 rfl).free 5 rfl
                have d6 := (H8.out.pull 2 rfl).cell 6 rfl
                have g6 := (H8.out.pull 2 rfl).free 6 rfl
                have z0 := (H8.out.pull 3 rfl).cell 0 rfl
                have z1 := (H8.out.pull 3 rfl).cell 1 rfl
                have z2 := (H8.out.pull 3 rfl).cell 2 rfl
                have z3 := (H8.out.pull 3 rfl).cell 3 rfl
                have z4 := (H8.out.pull 3 rfl).cell 4 rfl
                have z5 := (H8.out.pull 3 rfl).cell 5 rfl
                have z6 := (H8.out.pull 3 rfl).cell 6 rfl
                have HS7 := Lib.hid (sets7H (H8.out.pull 2 rfl) (.bool false) (.bool false) (.bool false) (.bool false) (.bool false) (.int .i64 0) (.slice none 0 0))
                go_wp2_with fail
                exact bodyPost_ret (v := .tuple #[.agg #[.bool false, .bool false, .bool false, .bool false, .bool false, .int .i64 0, .slice none 0 0], .int .i64 132]) (by simp [results, Tryd.results13, go_sem, d0, d1, d2, d3, d4, d5, d6]) rfl ⟨.slice none 0 0, rfl, rowS_nil HS7.out.below⟩
              | true =>
                have e := HE2.out
                simp only [if_true] at e
                injection e with e1 e2
                subst e1 e2
                have x0 := (H8.out).cell 0 rfl
                have x1 := (H8.out).cell 1 rfl
                have x2 := (H8.out).cell 2 rfl
                have x3 := (H8.out).cell 3 rfl
                have x4 := (H8.out).cell 4 rfl
                have x5 := (H8.out).cell 5 rfl
                have x6 := (H8.out).cell 6 rfl
                have d0 := (H8.out.pull 2 rfl).cell 0 rfl
                have g0 := (H8.out.pull 2 rfl).free 0 rfl
                have d1 := (H8.out.pull 2 rfl).cell 1 rfl
                have g1 := (H8.out.pull 2 rfl).free 1 rfl
                have d2 := (H8.out.pull 2 rfl).cell 2 rfl
                have g2 := (H8.out.pull 2 rfl).free 2 rfl
                have d3 := (H8.out.pull 2 rfl).cell 3 rfl
                have g3 := (H8.out.pull 2 rfl).free 3 rfl
                have d4 := (H8.out.pull 2 rfl).cell 4 rfl
                have g4 := (H8.out.pull 2 rfl).free 4 rfl
                have d5 := (H8.out.pull 2 rfl).cell 5 rfl
                have g5 := (H8.out.pull 2 rfl).free 5 rfl
                have d6 := (H8.out.pull 2 rfl).cell 6 rfl
                have g6 := (H8.out.pull 2 rfl).free 6 rfl
                have HS7 := Lib.hid (sets7H (H8.out.pull 2 rfl) (.bool true) (.bool true) (.bool m.oi) (.bool m.oo) (.bool m.nl) (.int .i64 m.rd) (.slice sa2 1 1))
                go_wp2_with fail
                exact bodyPost_ret (v := .tuple #[.agg #[.bool true, .bool true, .bool m.oi, .bool m.oo, .bool m.nl, .int .i64 m.rd, .slice sa2 1 1], .int .i64 0]) (by simp [results, Tryd.results13, go_sem, d0, d1, d2, d3, d4, d5, d6]) rfl ⟨.slice sa2 1 1, by first | rfl | simp [mVv, *], rowS_of (HS7.out.pull 2 rfl)⟩
    | false =>
      cases g1 : isW x0 wOff with
      | true =>
        have J0 := Lib.hid (fun W => is_wOn W x0 hx0s false g0)
        have J1 := Lib.hid (fun W => is_wOff W x0 hx0s true g1)
        have HNone : Hid (R = none → ((zero, 131) : Md × Int) = (r, k)) := Lib.hid (fun h => by
          rw [← HR.out]
          show _ = if isW x0 wOn = true then _ else if isW x0 wOff = true then _ else _
          rw [if_neg (by rw [g0]; decide), if_pos g1, run_any r0 onM zero (hR.trans h)])
        have HEnd : Hid (∀ m, R = some m → ((zero, 0) : Md × Int) = (r, k)) := Lib.hid (fun m h => by
          rw [← HR.out]
          show _ = if isW x0 wOn = true then _ else if isW x0 wOff = true then _ else _
          rw [if_neg (by rw [g0]; decide), if_pos g1]
          cases hz : run zero r0 with
          | none => rw [run_any r0 zero onM hz] at hR; rw [h] at hR; cases hR
          | some q => rfl)
        clear HR
        go_upto_region 4 with fail
        refine (J0.out _).mono ?_
        rintro e w2 ⟨rfl, rfl⟩
        go_upto_region 4 with fail
        refine (J1.out _).mono ?_
        rintro e w2 ⟨rfl, rfl⟩
        go_upto_region 4 with fail
        have h5 := ((H0.out.rowNil 9 1).cellsNew (mL onM (.slice none 0 0)) 24)
        have H5 : Hid (Hp o (w1.alloc (.cells #[.bool true, .bool false, .bool false, .bool false, .bool false, .int .i64 0, .slice none 0 0] 24)) (modeH w1.heap.size onM (.slice none 0 0) ++ [cellsT b0 [.bool false, .bool false, .bool false, .bool false, .bool false, .int .i64 0, .slice none 0 0], cellsT b1 [.bool false, .bool false, .bool false, .bool false, .bool false, .int .i64 0, .slice none 0 0]])) := Lib.hid h5
        clear h5 H0 c00
        go_upto_region 5 with fail
        generalize (w1.alloc (.cells #[.bool true, .bool false, .bool false, .bool false, .bool false, .int .i64 0, .slice none 0 0] 24)) = w3 at *
        generalize w1.heap.size = b2 at *
        obtain ⟨ws, hws⟩ : ∃ ws, x0 :: r0 = ws := ⟨_, rfl⟩
        have HL0 : Hid (LR o w3 b0 b1 b2 R ws onM (.slice none 0 0) 1) := Lib.hid ⟨by rw [← hws]; exact hR, by simp [onM, zero], H5.out⟩
        rw [hws] at HN HS HCw
        have hR0 := Lib.hid hR
        clear hws hR HW H5
        go_wp2_with fail
        go_loopg [6, 7, 8, 9] (n + 1) (fun g s6 _ _ _ wr => ∃ (j : Nat) (m : Md) (v : Value), s6 = .int .i64 j ∧ 1 ≤ j ∧ j ≤ n ∧ n - j ≤ g ∧ Hid (LR o wr b0 b1 b2 R ws m v j))
        case atStart => exact ⟨1, onM, _, rfl, by omega, by omega, by omega, HL0⟩
        case round =>
          obtain ⟨j, m, v, rfl, hj0, hj, hg, HL⟩ := hrel
          by_cases hjl : j < n
          case pos =>
            have hjc : (j : Int) < (n : Int) := by omega
            have hjw : j < ws.length := by have := HN.out; omega
            obtain ⟨x, hx⟩ : ∃ x, ws[j] = x := ⟨_, rfl⟩
            have c0 : wr.cell? ⟨B, p + j, none⟩ = some (.string x) := by rw [← hx]; exact HCw.out _ HL.out.h.below j hjw
            have hxs : x.size ≤ 1000000 := by rw [← hx]; exact HS.out _ (List.getElem_mem hjw)
            have HX : Hid (run m (x :: ws.drop (j + 1)) = R) := Lib.hid (by rw [← HL.out.r, drop_two hjw, hx])
            clear hx
            cases q0 : isW x wBcast with
            | true =>
              have I0 := Lib.hid (fun W => is_wBcast W x hxs true q0)
              have HX2 : Hid (run { m with bc := true } (ws.drop (j + 1)) = R) := Lib.hid (by rw [← HX.out, run_bcast q0])
              have HP := Lib.hid HL.out.p
              have H1 := Lib.hid HL.out.h
              clear HL HX
              go_wp2_with fail
              refine (I0.out _).mono ?_
              rintro e w2 ⟨rfl, rfl⟩
              have d := H1.out.cell 1 rfl
              have df := H1.out.free 1 rfl
              have H4 := Lib.hid (H1.out.cellSet 1 (.bool true) rfl)
              clear H1
              go_wp2_with fail
              go_roundg (gk - 1)
              case measure => omega
              case rel => exact ⟨j + 1, { m with bc := true }, v, by go_num, by omega, by omega, by omega, Lib.hid ⟨HX2.out, by have := HP.out; simp only; omega, H4.out⟩⟩
            | false =>
              have I0 := Lib.hid (fun W => is_wBcast W x hxs false q0)
              cases q1 : isW x wOptin with
              | true =>
                have I1 := Lib.hid (fun W => is_wOptin W x hxs true q1)
                have HX2 : Hid (run { m with oi := true } (ws.drop (j + 1)) = R) := Lib.hid (by rw [← HX.out, run_optin q0 q1])
                have HP := Lib.hid HL.out.p
                have H1 := Lib.hid HL.out.h
                clear HL HX
                go_wp2_with fail
                refine (I0.out _).mono ?_
                rintro e w2 ⟨rfl, rfl⟩
                go_wp2_with fail
                refine (I1.out _).mono ?_
                rintro e w2 ⟨rfl, rfl⟩
                have d := H1.out.cell 2 rfl
                have df := H1.out.free 2 rfl
                have H4 := Lib.hid (H1.out.cellSet 2 (.bool true) rfl)
                clear H1
                go_wp2_with fail
                go_roundg (gk - 1)
                case measure => omega
                case rel => exact ⟨j + 1, { m with oi := true }, v, by go_num, by omega, by omega, by omega, Lib.hid ⟨HX2.out, by have := HP.out; simp only; omega, H4.out⟩⟩
              | false =>
                have I1 := Lib.hid (fun W => is_wOptin W x hxs false q1)
                cases q2 : isW x wOptout with
                | true =>
                  have I2 := Lib.hid (fun W => is_wOptout W x hxs true q2)
                  have HX2 : Hid (run { m with oo := true } (ws.drop (j + 1)) = R) := Lib.hid (by rw [← HX.out, run_optout q0 q1 q2])
                  have HP := Lib.hid HL.out.p
                  have H1 := Lib.hid HL.out.h
                  clear HL HX
                  go_wp2_with fail
                  refine (I0.out _).mono ?_
                  rintro e w2 ⟨rfl, rfl⟩
                  go_wp2_with fail
                  refine (I1.out _).mono ?_
                  rintro e w2 ⟨rfl, rfl⟩
                  go_wp2_with fail
                  refine (I2.out _).mono ?_
                  rintro e w2 ⟨rfl, rfl⟩
                  have d := H1.out.cell 3 rfl
                  have df := H1.out.free 3 rfl
                  have H4 := Lib.hid (H1.out.cellSet 3 (.bool true) rfl)
                  clear H1
                  go_wp2_with fail
                  go_roundg (gk - 1)
                  case measure => omega
                  case rel => exact ⟨j + 1, { m with oo := true }, v, by go_num, by omega, by omega, by omega, Lib.hid ⟨HX2.out, by have := HP.out; simp only; omega, H4.out⟩⟩
                | false =>
                  have I2 := Lib.hid (fun W => is_wOptout W x hxs false q2)
                  cases q3 : isW x wNoloop with
                  | true =>
                    have I3 := Lib.hid (fun W => is_wNoloop W x hxs true q3)
                    have HX2 : Hid (run { m with nl := true } (ws.drop (j + 1)) = R) := Lib.hid (by rw [← HX.out, run_noloop q0 q1 q2 q3])
                    have HP := Lib.hid HL.out.p
                    have H1 := Lib.hid HL.out.h
                    clear HL HX
                    go_wp2_with fail
                    refine (I0.out _).mono ?_
                    rintro e w2 ⟨rfl, rfl⟩
                    go_wp2_with fail
                    refine (I1.out _).mono ?_
                    rintro e w2 ⟨rfl, rfl⟩
                    go_wp2_with fail
                    refine (I2.out _).mono ?_
                    rintro e w2 ⟨rfl, rfl⟩
                    go_wp2_with fail
                    refine (I3.out _).mono ?_
                    rintro e w2 ⟨rfl, rfl⟩
                    have d := H1.out.cell 4 rfl
                    have df := H1.out.free 4 rfl
                    have H4 := Lib.hid (H1.out.cellSet 4 (.bool true) rfl)
                    clear H1
                    go_wp2_with fail
                    go_roundg (gk - 1)
                    case measure => omega
                    case rel => exact ⟨j + 1, { m with nl := true }, v, by go_num, by omega, by omega, by omega, Lib.hid ⟨HX2.out, by have := HP.out; simp only; omega, H4.out⟩⟩
                  | false =>
                    have I3 := Lib.hid (fun W => is_wNoloop W x hxs false q3)
                    have HNn : Hid (None4 x) := Lib.hid ⟨q0, q1, q2, q3⟩
                    by_cases hj1 : j + 1 < n
                    case neg =>
                      have hjc1 : ¬ (j : Int) + 1 < (n : Int) := by omega
                      have hRn : R = none := by
                        have e : ws.drop (j + 1) = [] := List.drop_eq_nil_iff.2 (by have := HN.out; omega)
                        rw [← HX.out, e]; exact run_alone HNn.out
                      have H1 := Lib.hid HL.out.h
                      clear HL HX
                      have e := HNone.out hRn
                      injection e with e1 e2
                      subst e1 e2
                      cases q4 : isW x wRedirect with
                      | true =>
                        have I4 := Lib.hid (fun W => is_wRedirect W x hxs true q4)
                        cases q5 : isW x wPrefix with
                        | true =>
                          have I5 := Lib.hid (fun W => is_wPrefix W x hxs true q5)
                          have d0 := (H1.out.pull 2 rfl).cell 0 rfl
                          have g0 := (H1.out.pull 2 rfl).free 0 rfl
                          have d1 := (H1.out.pull 2 rfl).cell 1 rfl
                          have g1 := (H1.out.pull 2 rfl).free 1 rfl
                          have d2 := (H1.out.pull 2 rfl).cell 2 rfl
                          have g2 := (H1.out.pull 2 rfl).free 2 rfl
                          have d3 := (H1.out.pull 2 rfl).cell 3 rfl
                          have g3 := (H1.out.pull 2 rfl).free 3 rfl
                          have d4 := (H1.out.pull 2 rfl).cell 4 rfl
                          have g4 := (H1.out.pull 2 rfl).free 4 rfl
                          have d5 := (H1.out.pull 2 rfl).cell 5 rfl
                          have g5 := (H1.out.pull 2 rfl).free 5 rfl
                          have d6 := (H1.out.pull 2 rfl).cell 6 rfl
                          have g6 := (H1.out.pull 2 rfl).free 6 rfl
                          have z0 := (H1.out.pull 3 rfl).cell 0 rfl
                          have z1 := (H1.out.pull 3 rfl).cell 1 rfl
                          have z2 := (H1.out.pull 3 rfl).cell 2 rfl
                          have z3 := (H1.out.pull 3 rfl).cell 3 rfl
                          have z4 := (H1.out.pull 3 rfl).cell 4 rfl
                          have z5 := (H1.out.pull 3 rfl).cell 5 rfl
                          have z6 := (H1.out.pull 3 rfl).cell 6 rfl
                          have HS7 := Lib.hid (sets7H (H1.out.pull 2 rfl) (.bool false) (.bool false) (.bool false) (.bool false) (.bool false) (.int .i64 0) (.slice none 0 0))
                          go_wp2_with fail
                          refine (I0.out _).mono ?_
                          rintro e w2 ⟨rfl, rfl⟩
                          go_wp2_with fail
                          refine (I1.out _).mono ?_
                          rintro e w2 ⟨rfl, rfl⟩
                          go_wp2_with fail
                          refine (I2.out _).mono ?_
                          rintro e w2 ⟨rfl, rfl⟩
                          go_wp2_with fail
                          refine (I3.out _).mono ?_
                          rintro e w2 ⟨rfl, rfl⟩
                          go_wp2_with fail
                          refine (I4.out _).mono ?_
                          rintro e w2 ⟨rfl, rfl⟩
                          go_wp2_with fail
                          refine (I5.out _).mono ?_
                          rintro e w2 ⟨rfl, rfl⟩
                          go_wp2_with fail
                          exact bodyPost_ret (v := .tuple #[.agg #[.bool false, .bool false, .bool false, .bool false, .bool false, .int .i64 0, .slice none 0 0], .int .i64 131]) (by simp [results, Tryd.results13, go_sem, d0, d1, d2, d3, d4, d5, d6]) rfl ⟨.slice none 0 0, rfl, rowS_nil HS7.out.below⟩
                        | false =>
                          have I5 := Lib.hid (fun W => is_wPrefix W x hxs false q5)
                          have d0 := (H1.out.pull 2 rfl).cell 0 rfl
                          have g0 := (H1.out.pull 2 rfl).free 0 rfl
                          have d1 := (H1.out.pull 2 rfl).cell 1 rfl
                          have g1 := (H1.out.pull 2 rfl).free 1 rfl
                          have d2 := (H1.out.pull 2 rfl).cell 2 rfl
                          have g2 := (H1.out.pull 2 rfl).free 2 rfl
                          have d3 := (H1.out.pull 2 rfl).cell 3 rfl
                          have g3 := (H1.out.pull 2 rfl).free 3 rfl
                          have d4 := (H1.out.pull 2 rfl).cell 4 rfl
                          have g4 := (H1.out.pull 2 rfl).free 4 rfl
                          have d5 := (H1.out.pull 2 rfl).cell 5 rfl
                          have g5 := (H1.out.pull 2 rfl).free 5 rfl
                          have d6 := (H1.out.pull 2 rfl).cell 6 rfl
                          have g6 := (H1.out.pull 2 rfl).free 6 rfl
                          have z0 := (H1.out.pull 3 rfl).cell 0 rfl
                          have z1 := (H1.out.pull 3 rfl).cell 1 rfl
                          have z2 := (H1.out.pull 3 rfl).cell 2 rfl
                          have z3 := (H1.out.pull 3 rfl).cell 3 rfl
                          have z4 := (H1.out.pull 3 rfl).cell 4 rfl
                          have z5 := (H1.out.pull 3 rfl).cell 5 rfl
                          have z6 := (H1.out.pull 3 rfl).cell 6 rfl
                          have HS7 := Lib.hid (sets7H (H1.out.pull 2 rfl) (.bool false) (.bool false) (.bool false) (.bool false) (.bool false) (.int .i64 0) (.slice none 0 0))
                          go_wp2_with fail
                          refine (I0.out _).mono ?_
                          rintro e w2 ⟨rfl, rfl⟩
                          go_wp2_with fail
                          refine (I1.out _).mono ?_
                          rintro e w2 ⟨rfl, rfl⟩
                          go_wp2_with fail
                          refine (I2.out _).mono ?_
                          rintro e w2 ⟨rfl, rfl⟩
                          go_wp2_with fail
                          refine (I3.out _).mono ?_
                          rintro e w2 ⟨rfl, rfl⟩
                          go_wp2_with fail
                          refine (I4.out _).mono ?_
                          rintro e w2 ⟨rfl, rfl⟩
                          go_wp2_with fail
                          refine (I5.out _).mono ?_
                          rintro e w2 ⟨rfl, rfl⟩
                          go_wp2_with fail
                          exact bodyPost_ret (v := .tuple #[.agg #[.bool false, .bool false, .bool false, .bool false, .bool false, .int .i64 0, .slice none 0 0], .int .i64 131]) (by simp [results, Tryd.results13, go_sem, d0, d1, d2, d3, d4, d5, d6]) rfl ⟨.slice none 0 0, rfl, rowS_nil HS7.out.below⟩
                      | false =>
                        have I4 := Lib.hid (fun W => is_wRedirect W x hxs false q4)
                        cases q5 : isW x wPrefix with
                        | true =>
                          have I5 := Lib.hid (fun W => is_wPrefix W x hxs true q5)
                          have d0 := (H1.out.pull 2 rfl).cell 0 rfl
                          have g0 := (H1.out.pull 2 rfl).free 0 rfl
                          have d1 := (H1.out.pull 2 rfl).cell 1 rfl
                          have g1 := (H1.out.pull 2 rfl).free 1 rfl
                          have d2 := (H1.out.pull 2 rfl).cell 2 rfl
                          have g2 := (H1.out.pull 2 rfl).free 2 rfl
                          have d3 := (H1.out.pull 2 rfl).cell 3 rfl
                          have g3 := (H1.out.pull 2 rfl).free 3 rfl
                          have d4 := (H1.out.pull 2 rfl).cell 4 rfl
                          have g4 := (H1.out.pull 2 rfl).free 4 rfl
                          have d5 := (H1.out.pull 2 rfl).cell 5 rfl
                          have g5 := (H1.out.pull 2 rfl).free 5 rfl
                          have d6 := (H1.out.pull 2 rfl).cell 6 rfl
                          have g6 := (H1.out.pull 2 rfl).free 6 rfl
                          have z0 := (H1.out.pull 3 rfl).cell 0 rfl
                          have z1 := (H1.out.pull 3 rfl).cell 1 rfl
                          have z2 := (H1.out.pull 3 rfl).cell 2 rfl
                          have z3 := (H1.out.pull 3 rfl).cell 3 rfl
                          have z4 := (H1.out.pull 3 rfl).cell 4 rfl
                          have z5 := (H1.out.pull 3 rfl).cell 5 rfl
                          have z6 := (H1.out.pull 3 rfl).cell 6 rfl
                          have HS7 := Lib.hid (sets7H (H1.out.pull 2 rfl) (.bool false) (.bool false) (.bool false) (.bool false) (.bool false) (.int .i64 0) (.slice none 0 0))
                          go_wp2_with fail
                          refine (I0.out _).mono ?_
                          rintro e w2 ⟨rfl, rfl⟩
                          go_wp2_with fail
                          refine (I1.out _).mono ?_
                          rintro e w2 ⟨rfl, rfl⟩
                          go_wp2_with fail
                          refine (I2.out _).mono ?_
                          rintro e w2 ⟨rfl, rfl⟩
                          go_wp2_with fail
                          refine (I3.out _).mono ?_
                          rintro e w2 ⟨rfl, rfl⟩
                          go_wp2_with fail
                          refine (I4.out _).mono ?_
                          rintro e w2 ⟨rfl, rfl⟩
                          go_wp2_with fail
                          refine (I5.out _).mono ?_
                          rintro e w2 ⟨rfl, rfl⟩
                          go_wp2_with fail
                          exact bodyPost_ret (v := .tuple #[.agg #[.bool false, .bool false, .bool false, .bool false, .bool false, .int .i64 0, .slice none 0 0], .int .i64 131]) (by simp [results, Tryd.results13, go_sem, d0, d1, d2, d3, d4, d5, d6]) rfl ⟨.slice none 0 0, rfl, rowS_nil HS7.out.below⟩
                        | false =>
                          have I5 := Lib.hid (fun W => is_wPrefix W x hxs false q5)
                          have d0 := (H1.out.pull 2 rfl).cell 0 rfl
                          have g0 := (H1.out.pull 2 rfl).free 0 rfl
                          have d1 := (H1.out.pull 2 rfl).cell 1 rfl
                          have g1 := (H1.out.pull 2 rfl).free 1 rfl
                          have d2 := (H1.out.pull 2 rfl).cell 2 rfl
                          have g2 := (H1.out.pull 2 rfl).free 2 rfl
                          have d3 := (H1.out.pull 2 rfl).cell 3 rfl
                          have g3 := (H1.out.pull 2 rfl).free 3 rfl
                          have d4 := (H1.out.pull 2 rfl).cell 4 rfl
                          have g4 := (H1.out.pull 2 rfl).free 4 rfl
                          have d5 := (H1.out.pull 2 rfl).cell 5 rfl
                          have g5 := (H1.out.pull 2 rfl).free 5 rfl
                          have d6 := (H1.out.pull 2 rfl).cell 6 rfl
                          have g6 := (H1.out.pull 2 rfl).free 6 rfl
                          have z0 := (H1.out.pull 3 rfl).cell 0 rfl
                          have z1 := (H1.out.pull 3 rfl).cell 1 rfl
                          have z2 := (H1.out.pull 3 rfl).cell 2 rfl
                          have z3 := (H1.out.pull 3 rfl).cell 3 rfl
                          have z4 := (H1.out.pull 3 rfl).cell 4 rfl
                          have z5 := (H1.out.pull 3 rfl).cell 5 rfl
                          have z6 := (H1.out.pull 3 rfl).cell 6 rfl
                          have HS7 := Lib.hid (sets7H (H1.out.pull 2 rfl) (.bool false) (.bool false) (.bool false) (.bool false) (.bool false) (.int .i64 0) (.slice none 0 0))
                          go_wp2_with fail
                          refine (I0.out _).mono ?_
                          rintro e w2 ⟨rfl, rfl⟩
                          go_wp2_with fail
                          refine (I1.out _).mono ?_
                          rintro e w2 ⟨rfl, rfl⟩
                          go_wp2_with fail
                          refine (I2.out _).mono ?_
                          rintro e w2 ⟨rfl, rfl⟩
                          go_wp2_with fail
                          refine (I3.out _).mono ?_
                          rintro e w2 ⟨rfl, rfl⟩
                          go_wp2_with fail
                          refine (I4.out _).mono ?_
                          rintro e w2 ⟨rfl, rfl⟩
                          go_wp2_with fail
                          refine (I5.out _).mono ?_
                          rintro e w2 ⟨rfl, rfl⟩
                          go_wp2_with fail
                          exact bodyPost_ret (v := .tuple #[.agg #[.bool false, .bool false, .bool false, .bool false, .bool false, .int .i64 0, .slice none 0 0], .int .i64 131]) (by simp [results, Tryd.results13, go_sem, d0, d1, d2, d3, d4, d5, d6]) rfl ⟨.slice none 0 0, rfl, rowS_nil HS7.out.below⟩
                    have hjc1 : (j : Int) + 1 < (n : Int) := by omega
                    have hj1w : j + 1 < ws.length := by have := HN.out; omega
                    obtain ⟨y, hy⟩ : ∃ y, ws[j + 1] = y := ⟨_, rfl⟩
                    have c1 : wr.cell? ⟨B, p + (j + 1), none⟩ = some (.string y) := by rw [← hy]; exact HCw.out _ HL.out.h.below (j + 1) hj1w
                    have hys : y.size ≤ 1000000 := by rw [← hy]; exact HS.out _ (List.getElem_mem hj1w)
                    have HX3 : Hid (run m (x :: y :: ws.drop (j + 2)) = R) := Lib.hid (by rw [← HX.out, drop_two hj1w, hy])
                    clear HX hy
                    have hw1 : IntKind.i64.wrap ((j : Int) + 1) = (j : Int) + 1 := by rw [IntKind.wrap_i64]; omega
                    have hw2 : IntKind.i64.wrap ((j : Int) + 1 + 1) = (j : Int) + 1 + 1 := by rw [IntKind.wrap_i64]; omega
                    have hj0 : (0 : Int) ≤ (j : Int) + 1 := by omega
                    cases q4 : isW x wRedirect with
                    | true =>
                      have I4 := Lib.hid (fun W => is_wRedirect W x hxs true q4)
                      obtain ⟨pa, pe, hab⟩ : ∃ pa pe, Num.wp (tl y) = (pa, pe) := ⟨_, _, rfl⟩
                      have HPb := Lib.hid (fun W => refParse_calls y hys W pa pe hab)
                      have HY : Hid ((if pe = 0 ∧ 0 ≤ pa ∧ pa ≤ 1000000000 then run { m with rd := pa } (ws.drop (j + 2)) else none) = R) := Lib.hid (by
                        rw [← HX3.out]
                        by_cases hc : (Num.wp (tl y)).2 = 0 ∧ 0 ≤ (Num.wp (tl y)).1 ∧ (Num.wp (tl y)).1 ≤ 1000000000
                        · rw [run_redirect HNn.out q4 hc]
                          rw [hab] at hc ⊢
                          rw [if_pos hc]
                        · rw [run_redirect_no HNn.out q4 hc]
                          rw [hab] at hc
                          rw [if_neg hc])
                      clear HX3 hab q4
                      have H1 := Lib.hid HL.out.h
                      have HP := Lib.hid HL.out.p
                      clear HL
                      by_cases g1 : pe = 0 ∧ 0 ≤ pa ∧ pa ≤ 1000000000
                      case neg =>
                        have hRn : R = none := by rw [← HY.out, if_neg g1]
                        have e := HNone.out hRn
                        injection e with e1 e2
                        subst e1 e2
                        by_cases g2 : pe = 0
                        case neg =>
                          have g2c : (!pe == 0) = true := by simpa using g2
                          have d0 := (H1.out.pull 2 rfl).cell 0 rfl
                          have g0 := (H1.out.pull 2 rfl).free 0 rfl
                          have d1 := (H1.out.pull 2 rfl).cell 1 rfl
                          have g1 := (H1.out.pull 2 rfl).free 1 rfl
                          have d2 := (H1.out.pull 2 rfl).cell 2 rfl
                          have g2 := (H1.out.pull 2 rfl).free 2 rfl
                          have d3 := (H1.out.pull 2 rfl).cell 3 rfl
                          have g3 := (H1.out.pull 2 rfl).free 3 rfl
                          have d4 := (H1.out.pull 2 rfl).cell 4 rfl
                          have g4 := (H1.out.pull 2 rfl).free 4 rfl
                          have d5 := (H1.out.pull 2 rfl).cell 5 rfl
                          have g5 := (H1.out.pull 2 rfl).free 5 rfl
                          have d6 := (H1.out.pull 2 rfl).cell 6 rfl
                          have g6 := (H1.out.pull 2 rfl).free 6 rfl
                          have z0 := (H1.out.pull 3 rfl).cell 0 rfl
                          have z1 := (H1.out.pull 3 rfl).cell 1 rfl
                          have z2 := (H1.out.pull 3 rfl).cell 2 rfl
                          have z3 := (H1.out.pull 3 rfl).cell 3 rfl
                          have z4 := (H1.out.pull 3 rfl).cell 4 rfl
                          have z5 := (H1.out.pull 3 rfl).cell 5 rfl
                          have z6 := (H1.out.pull 3 rfl).cell 6 rfl
                          have HS7 := Lib.hid (sets7H (H1.out.pull 2 rfl) (.bool false) (.bool false) (.bool false) (.bool false) (.bool false) (.int .i64 0) (.slice none 0 0))
                          go_wp2_with fail
                          refine (I0.out _).mono ?_
                          rintro e w2 ⟨rfl, rfl⟩
                          go_wp2_with fail
                          refine (I1.out _).mono ?_
                          rintro e w2 ⟨rfl, rfl⟩
                          go_wp2_with fail
                          refine (I2.out _).mono ?_
                          rintro e w2 ⟨rfl, rfl⟩
                          go_wp2_with fail
                          refine (I3.out _).mono ?_
                          rintro e w2 ⟨rfl, rfl⟩
                          go_wp2_with fail
                          refine (I4.out _).mono ?_
                          rintro e w2 ⟨rfl, rfl⟩
                          go_wp2_with fail
                          refine (HPb.out _).mono ?_
                          rintro e w2 ⟨rfl, rfl⟩
                          go_wp2_with fail
                          exact bodyPost_ret (v := .tuple #[.agg #[.bool false, .bool false, .bool false, .bool false, .bool false, .int .i64 0, .slice none 0 0], .int .i64 131]) (by simp [results, Tryd.results13, go_sem, d0, d1, d2, d3, d4, d5, d6]) rfl ⟨.slice none 0 0, rfl, rowS_nil HS7.out.below⟩
                        subst g2
                        by_cases g3 : pa < 0
                        case pos =>
                          have d0 := (H1.out.pull 2 rfl).cell 0 rfl
                          have g0 := (H1.out.pull 2 rfl).free 0 rfl
                          have d1 := (H1.out.pull 2 rfl).cell 1 rfl
                          have g1 := (H1.out.pull 2 rfl).free 1 rfl
                          have d2 := (H1.out.pull 2 rfl).cell 2 rfl
                          have g2 := (H1.out.pull 2 rfl).free 2 rfl
                          have d3 := (H1.out.pull 2 rfl).cell 3 rfl
                          have g3 := (H1.out.pull 2 rfl).free 3 rfl
                          have d4 := (H1.out.pull 2 rfl).cell 4 rfl
                          have g4 := (H1.out.pull 2 rfl).free 4 rfl
                          have d5 := (H1.out.pull 2 rfl).cell 5 rfl
                          have g5 := (H1.out.pull 2 rfl).free 5 rfl
                          have d6 := (H1.out.pull 2 rfl).cell 6 rfl
                          have g6 := (H1.out.pull 2 rfl).free 6 rfl
                          have z0 := (H1.out.pull 3 rfl).cell 0 rfl
                          have z1 := (H1.out.pull 3 rfl).cell 1 rfl
                          have z2 := (H1.out.pull 3 rfl).cell 2 rfl
                          have z3 := (H1.out.pull 3 rfl).cell 3 rfl
                          have z4 := (H1.out.pull 3 rfl).cell 4 rfl
                          have z5 := (H1.out.pull 3 rfl).cell 5 rfl
                          have z6 := (H1.out.pull 3 rfl).cell 6 rfl
                          have HS7 := Lib.hid (sets7H (H1.out.pull 2 rfl) (.bool false) (.bool false) (.bool false) (.bool false) (.bool false) (.int .i64 0) (.slice none 0 0))
                          go_wp2_with fail
                          refine (I0.out _).mono ?_
                          rintro e w2 ⟨rfl, rfl⟩
                          go_wp2_with fail
                          refine (I1.out _).mono ?_
                          rintro e w2 ⟨rfl, rfl⟩
                          go_wp2_with fail
                          refine (I2.out _).mono ?_
                          rintro e w2 ⟨rfl, rfl⟩
                          go_wp2_with fail
                          refine (I3.out _).mono ?_
                          rintro e w2 ⟨rfl, rfl⟩
                          go_wp2_with fail
                          refine (I4.out _).mono ?_
                          rintro e w2 ⟨rfl, rfl⟩
                          go_wp2_with fail
                          refine (HPb.out _).mono ?_
                          rintro e w2 ⟨rfl, rfl⟩
                          go_wp2_with fail
                          exact bodyPost_ret (v := .tuple #[.agg #[.bool false, .bool false, .bool false, .bool false, .bool false, .int .i64 0, .slice none 0 0], .int .i64 131]) (by simp [results, Tryd.results13, go_sem, d0, d1, d2, d3, d4, d5, d6]) rfl ⟨.slice none 0 0, rfl, rowS_nil HS7.out.below⟩
                        have g4 : 1000000000 < pa := by omega
                        have d0 := (H1.out.pull 2 rfl).cell 0 rfl
                        have g0 := (H1.out.pull 2 rfl).free 0 rfl
                        have d1 := (H1.out.pull 2 rfl).cell 1 rfl
                        have g1 := (H1.out.pull 2 rfl).free 1 rfl
                        have d2 := (H1.out.pull 2 rfl).cell 2 rfl
                        have g2 := (H1.out.pull 2 rfl).free 2 rfl
                        have d3 := (H1.out.pull 2 rfl).cell 3 rfl
                        have g3 := (H1.out.pull 2 rfl).free 3 rfl
                        have d4 := (H1.out.pull 2 rfl).cell 4 rfl
                        have g4 := (H1.out.pull 2 rfl).free 4 rfl
                        have d5 := (H1.out.pull 2 rfl).cell 5 rfl
                        have g5 := (H1.out.pull 2 rfl).free 5 rfl
                        have d6 := (H1.out.pull 2 rfl).cell 6 rfl
                        have g6 := (H1.out.pull 2 rfl).free 6 rfl
                        have z0 := (H1.out.pull 3 rfl).cell 0 rfl
                        have z1 := (H1.out.pull 3 rfl).cell 1 rfl
                        have z2 := (H1.out.pull 3 rfl).cell 2 rfl
                        have z3 := (H1.out.pull 3 rfl).cell 3 rfl
                        have z4 := (H1.out.pull 3 rfl).cell 4 rfl
                        have z5 := (H1.out.pull 3 rfl).cell 5 rfl
                        have z6 := (H1.out.pull 3 rfl).cell 6 rfl
                        have HS7 := Lib.hid (sets7H (H1.out.pull 2 rfl) (.bool false) (.bool false) (.bool false) (.bool false) (.bool false) (.int .i64 0) (.slice none 0 0))
                        go_wp2_with fail
                        refine (I0.out _).mono ?_
                        rintro e w2 ⟨rfl, rfl⟩
                        go_wp2_with fail
                        refine (I1.out _).mono ?_
                        rintro e w2 ⟨rfl, rfl⟩
                        go_wp2_with fail
                        refine (I2.out _).mono ?_
                        rintro e w2 ⟨rfl, rfl⟩
                        go_wp2_with fail
                        refine (I3.out _).mono ?_
                        rintro e w2 ⟨rfl, rfl⟩
                        go_wp2_with fail
                        refine (I4.out _).mono ?_
                        rintro e w2 ⟨rfl, rfl⟩
                        go_wp2_with fail
                        refine (HPb.out _).mono ?_
                        rintro e w2 ⟨rfl, rfl⟩
                        go_wp2_with fail
                        exact bodyPost_ret (v := .tuple #[.agg #[.bool false, .bool false, .bool false, .bool false, .bool false, .int .i64 0, .slice none 0 0], .int .i64 131]) (by simp [results, Tryd.results13, go_sem, d0, d1, d2, d3, d4, d5, d6]) rfl ⟨.slice none 0 0, rfl, rowS_nil HS7.out.below⟩
                      have hRy : run { m with rd := pa } (ws.drop (j + 2)) = R := by rw [← HY.out, if_pos g1]
                      have HRy := Lib.hid hRy
                      obtain ⟨rfl, g2, g3⟩ := g1
                      have g2c : ¬ pa < 0 := by omega
                      have g3c : ¬ 1000000000 < pa := by omega
                      clear hRy HY
                      go_wp2_with fail
                      refine (I0.out _).mono ?_
                      rintro e w2 ⟨rfl, rfl⟩
                      go_wp2_with fail
                      refine (I1.out _).mono ?_
                      rintro e w2 ⟨rfl, rfl⟩
                      go_wp2_with fail
                      refine (I2.out _).mono ?_
                      rintro e w2 ⟨rfl, rfl⟩
                      go_wp2_with fail
                      refine (I3.out _).mono ?_
                      rintro e w2 ⟨rfl, rfl⟩
                      go_wp2_with fail
                      refine (I4.out _).mono ?_
                      rintro e w2 ⟨rfl, rfl⟩
                      go_wp2_with fail
                      refine (HPb.out _).mono ?_
                      rintro e w2 ⟨rfl, rfl⟩
                      have d := H1.out.cell 5 rfl
                      have df := H1.out.free 5 rfl
                      have H4 := Lib.hid (H1.out.cellSet 5 (.int .i64 pa) rfl)
                      clear H1
                      go_wp2_with fail
                      go_roundg (gk - 1)
                      case measure => omega
                      case rel => exact ⟨j + 2, { m with rd := pa }, v, by go_num, by omega, by omega, by omega, Lib.hid ⟨HRy.out, by have := HP.out; simp only; omega, H4.out⟩⟩
                    | false =>
                      have I4 := Lib.hid (fun W => is_wRedirect W x hxs false q4)
                      cases q5 : isW x wPrefix with
                      | false =>
                        have I5 := Lib.hid (fun W => is_wPrefix W x hxs false q5)
                        have hRn : R = none := by rw [← HX3.out]; exact run_no HNn.out q4 q5
                        have H1 := Lib.hid HL.out.h
                        clear HL HX3
                        have e := HNone.out hRn
                        injection e with e1 e2
                        subst e1 e2
                        have d0 := (H1.out.pull 2 rfl).cell 0 rfl
                        have g0 := (H1.out.pull 2 rfl).free 0 rfl
                        have d1 := (H1.out.pull 2 rfl).cell 1 rfl
                        have g1 := (H1.out.pull 2 rfl).free 1 rfl
                        have d2 := (H1.out.pull 2 rfl).cell 2 rfl
                        have g2 := (H1.out.pull 2 rfl).free 2 rfl
                        have d3 := (H1.out.pull 2 rfl).cell 3 rfl
                        have g3 := (H1.out.pull 2 rfl).free 3 rfl
                        have d4 := (H1.out.pull 2 rfl).cell 4 rfl
                        have g4 := (H1.out.pull 2 rfl).free 4 rfl
                        have d5 := (H1.out.pull 2 rfl).cell 5 rfl
                        have g5 := (H1.out.pull 2 rfl).free 5 rfl
                        have d6 := (H1.out.pull 2 rfl).cell 6 rfl
                        have g6 := (H1.out.pull 2 rfl).free 6 rfl
                        have z0 := (H1.out.pull 3 rfl).cell 0 rfl
                        have z1 := (H1.out.pull 3 rfl).cell 1 rfl
                        have z2 := (H1.out.pull 3 rfl).cell 2 rfl
                        have z3 := (H1.out.pull 3 rfl).cell 3 rfl
                        have z4 := (H1.out.pull 3 rfl).cell 4 rfl
                        have z5 := (H1.out.pull 3 rfl).cell 5 rfl
                        have z6 := (H1.out.pull 3 rfl).cell 6 rfl
                        have HS7 := Lib.hid (sets7H (H1.out.pull 2 rfl) (.bool false) (.bool false) (.bool false) (.bool false) (.bool false) (.int .i64 0) (.slice none 0 0))
                        go_wp2_with fail
                        refine (I0.out _).mono ?_
                        rintro e w2 ⟨rfl, rfl⟩
                        go_wp2_with fail
                        refine (I1.out _).mono ?_
                        rintro e w2 ⟨rfl, rfl⟩
                        go_wp2_with fail
                        refine (I2.out _).mono ?_
                        rintro e w2 ⟨rfl, rfl⟩
                        go_wp2_with fail
                        refine (I3.out _).mono ?_
                        rintro e w2 ⟨rfl, rfl⟩
                        go_wp2_with fail
                        refine (I4.out _).mono ?_
                        rintro e w2 ⟨rfl, rfl⟩
                        go_wp2_with fail
                        refine (I5.out _).mono ?_
                        rintro e w2 ⟨rfl, rfl⟩
                        go_wp2_with fail
                        exact bodyPost_ret (v := .tuple #[.agg #[.bool false, .bool false, .bool false, .bool false, .bool false, .int .i64 0, .slice none 0 0], .int .i64 131]) (by simp [results, Tryd.results13, go_sem, d0, d1, d2, d3, d4, d5, d6]) rfl ⟨.slice none 0 0, rfl, rowS_nil HS7.out.below⟩
                      | true =>
                        have I5 := Lib.hid (fun W => is_wPrefix W x hxs true q5)
                        have HY : Hid (run { m with ps := m.ps ++ [y] } (ws.drop (j + 2)) = R) := Lib.hid (by rw [← HX3.out, run_prefix HNn.out q4 q5])
                        have H1 := Lib.hid HL.out.h
                        have HP := Lib.hid HL.out.p
                        clear HL HX3
                        obtain ⟨ra, rc, rfl, -, -, -⟩ := (H1.out.pull 1 rfl).rowForm
                        obtain ⟨i0, hi0, hz0, hz1, hz2⟩ := info_parts iStr
                        have hb6 : Below wr.heap.size wr (wr.alloc (.cells #[.string y] 9)).drew := (bbox _).drew
                        have hmps : m.ps.length ≤ 1000000 := by have := HP.out; omega
                        obtain ⟨a7, c7, w7, hrun, h7, hst⟩ := Sp.rowRun (P := Tryd.prog) (H1.out.pull 1 rfl) hb6 22 22 i0 (.string ⟨#[]⟩) 16 Tryd.underlying22 hi0 hz0 hz1 hz2 rfl (by decide) ⟨wr.heap.size, 0, none⟩ 1 1 [.string y] rfl
                          (fun j u hj => by
                            rw [Addr.add_lit, Nat.zero_add]
                            show (wr.alloc _).cell? _ = _
                            rw [World.cell?_alloc_new]
                            simpa using hj)
                          (fun u hu => by
                            simp only [List.mem_cons, List.not_mem_nil, or_false] at hu
                            rcases hu with rfl; rfl) (by unfold maxLen; omega) (by omega)
                        have h8 : Hp o w7 (rowST (.slice a7 (m.ps.length + 1) c7) (m.ps ++ [y]) :: cellsT b2 (mL m (.slice ra m.ps.length rc)) :: [cellsT b0 [.bool false, .bool false, .bool false, .bool false, .bool false, .int .i64 0, .slice none 0 0], cellsT b1 [.bool false, .bool false, .bool false, .bool false, .bool false, .int .i64 0, .slice none 0 0]]) := by
                          unfold rowST
                          rw [List.length_append, show cellsS (m.ps ++ [y]) = cellsS m.ps ++ [.string y] from List.map_append]
                          exact h7
                        have H7 := Lib.hid (h8.pull 1 rfl)
                        have s6 := H1.out.cell 6 rfl
                        have s6a : (wr.alloc (.cells #[.string y] 9)).cell? ⟨b2, 6, none⟩ = some (.slice ra m.ps.length rc) := (H1.out.bel (bbox _)).cell 6 rfl
                        have u6 := H7.out.cell 6 rfl
                        have v6 := H7.out.free 6 rfl
                        have H8 := Lib.hid (H7.out.cellSet 6 (.slice a7 (m.ps.length + 1) c7) rfl)
                        clear hi0 hz0 hz1 hz2 h7 h8 hst hb6 H7 H1
                        go_wp2_with fail
                        refine (I0.out _).mono ?_
                        rintro e w2 ⟨rfl, rfl⟩
                        go_wp2_with fail
                        refine (I1.out _).mono ?_
                        rintro e w2 ⟨rfl, rfl⟩
                        go_wp2_with fail
                        refine (I2.out _).mono ?_
                        rintro e w2 ⟨rfl, rfl⟩
                        go_wp2_with fail
                        refine (I3.out _).mono ?_
                        rintro e w2 ⟨rfl, rfl⟩
                        go_wp2_with fail
                        refine (I4.out _).mono ?_
                        rintro e w2 ⟨rfl, rfl⟩
                        go_wp2_with fail
                        refine (I5.out _).mono ?_
                        rintro e w2 ⟨rfl, rfl⟩
                        go_wp2_with fail
                        go_region_law (
                          refine Sp.step_app (o := ⟨some 109, _, _, _, _, _⟩) rfl (.tmp 103) (.tmp 108) rfl ?_ ?_ hrun ?_
                          first | rfl | simp [Act.eval]
                          first | rfl | simp [Act.eval])
                        all_goals go_wp2_with fail
                        all_goals go_roundg (gk - 1)
                        all_goals first
                          | omega
                          | exact ⟨j + 2, { m with ps := m.ps ++ [y] }, .slice a7 (m.ps.length + 1) c7, by go_num, by omega, by omega, by omega, Lib.hid ⟨HY.out, by have := HP.out; simp; omega, by simpa [modeH, mL] using H8.out⟩⟩
          case neg =>
            have hjc : ¬ (j : Int) < (n : Int) := by omega
            have hRm : some m = R := by
              have e : ws.drop j = [] := List.drop_eq_nil_iff.2 (by have := HN.out; omega)
              rw [← HL.out.r, e]; rfl
            have HE := Lib.hid (HEnd.out m hRm.symm)
            have H1 := Lib.hid HL.out.h
            have hps : m.ps.length ≤ 1000 := by have := HL.out.p; omega
            have c00 := HC00.out _ H1.out.below
            have HRm := Lib.hid hRm
            clear HL hRm HNone HEnd
            have e := HE.out
            injection e with e1 e2
            subst e1 e2
            have d0 := (H1.out.pull 2 rfl).cell 0 rfl
            have g0 := (H1.out.pull 2 rfl).free 0 rfl
            have d1 := (H1.out.pull 2 rfl).cell 1 rfl
            have g1 := (H1.out.pull 2 rfl).free 1 rfl
            have d2 := (H1.out.pull 2 rfl).cell 2 rfl
            have g2 := (H1.out.pull 2 rfl).free 2 rfl
            have d3 := (H1.out.pull 2 rfl).cell 3 rfl
            have g3 := (H1.out.pull 2 rfl).free 3 rfl
            have d4 := (H1.out.pull 2 rfl).cell 4 rfl
            have g4 := (H1.out.pull 2 rfl).free 4 rfl
            have d5 := (H1.out.pull 2 rfl).cell 5 rfl
            have g5 := (H1.out.pull 2 rfl).free 5 rfl
            have d6 := (H1.out.pull 2 rfl).cell 6 rfl
            have g6 := (H1.out.pull 2 rfl).free 6 rfl
            have z0 := (H1.out.pull 3 rfl).cell 0 rfl
            have z1 := (H1.out.pull 3 rfl).cell 1 rfl
            have z2 := (H1.out.pull 3 rfl).cell 2 rfl
            have z3 := (H1.out.pull 3 rfl).cell 3 rfl
            have z4 := (H1.out.pull 3 rfl).cell 4 rfl
            have z5 := (H1.out.pull 3 rfl).cell 5 rfl
            have z6 := (H1.out.pull 3 rfl).cell 6 rfl
            have HS7 := Lib.hid (sets7H (H1.out.pull 2 rfl) (.bool false) (.bool false) (.bool false) (.bool false) (.bool false) (.int .i64 0) (.slice none 0 0))
            go_wp2_with fail
            refine (J1.out _).mono ?_
            rintro e w2 ⟨rfl, rfl⟩
            go_wp2_with fail
            exact bodyPost_ret (v := .tuple #[.agg #[.bool false, .bool false, .bool false, .bool false, .bool false, .int .i64 0, .slice none 0 0], .int .i64 0]) (by simp [results, Tryd.results13, go_sem, d0, d1, d2, d3, d4, d5, d6]) rfl ⟨.slice none 0 0, rfl, rowS_nil HS7.out.below⟩
      | false =>
        have J0 := Lib.hid (fun W => is_wOn W x0 hx0s false g0)
        have J1 := Lib.hid (fun W => is_wOff W x0 hx0s false g1)
        have e : ((zero, 131) : Md × Int) = (r, k) := by
          rw [← HR.out]
          show _ = if isW x0 wOn = true then _ else if isW x0 wOff = true then _ else _
          rw [if_neg (by rw [g0]; decide), if_neg (by rw [g1]; decide)]
        injection e with e1 e2
        subst e1 e2
        clear HR
        go_wp2_with fail
        refine (J0.out _).mono ?_
        rintro e w2 ⟨rfl, rfl⟩
        go_wp2_with fail
        refine (J1.out _).mono ?_
        rintro e w2 ⟨rfl, rfl⟩
        have d0 := (H0.out.pull 0 rfl).cell 0 rfl
        have g0 := (H0.out.pull 0 rfl).free 0 rfl
        have d1 := (H0.out.pull 0 rfl).cell 1 rfl
        have g1 := (H0.out.pull 0 rfl).free 1 rfl
        have d2 := (H0.out.pull 0 rfl).cell 2 rfl
        have g2 := (H0.out.pull 0 rfl).free 2 rfl
        have d3 := (H0.out.pull 0 rfl).cell 3 rfl
        have g3 := (H0.out.pull 0 rfl).free 3 rfl
        have d4 := (H0.out.pull 0 rfl).cell 4 rfl
        have g4 := (H0.out.pull 0 rfl).free 4 rfl
        have d5 := (H0.out.pull 0 rfl).cell 5 rfl
        have g5 := (H0.out.pull 0 rfl).free 5 rfl
        have d6 := (H0.out.pull 0 rfl).cell 6 rfl
        have g6 := (H0.out.pull 0 rfl).free 6 rfl
        have z0 := (H0.out.pull 1 rfl).cell 0 rfl
        have z1 := (H0.out.pull 1 rfl).cell 1 rfl
        have z2 := (H0.out.pull 1 rfl).cell 2 rfl
        have z3 := (H0.out.pull 1 rfl).cell 3 rfl
        have z4 := (H0.out.pull 1 rfl).cell 4 rfl
        have z5 := (H0.out.pull 1 rfl).cell 5 rfl
        have z6 := (H0.out.pull 1 rfl).cell 6 rfl
        have HS7 := Lib.hid (sets7H (H0.out.pull 0 rfl) (.bool false) (.bool false) (.bool false) (.bool false) (.bool false) (.int .i64 0) (.slice none 0 0))
        go_wp2_with fail
        exact bodyPost_ret (v := .tuple #[.agg #[.bool false, .bool false, .bool false, .bool false, .bool false, .int .i64 0, .slice none 0 0], .int .i64 131]) (by simp [results, Tryd.results13, go_sem, d0, d1, d2, d3, d4, d5, d6]) rfl ⟨.slice none 0 0, rfl, rowS_nil HS7.out.below⟩
end Go.Proofs.YtjpbpdjomfkkeaaDoor.Ma
