/- The walk of the law LinesParses: true. Conditions: what start-up lays ('PCtx'); the variable MaxLen holds some int; how the slice lies. -/
import Derived.Test.YtenhgjpoigkdgaaDoorLr8
import Derived.Test.YtenhgjpoigkdgaaDoorLo2
import Derived.Test.YtenhgjpoigkdgaaDoorLq4
namespace Go.Proofs.YtenhgjpoigkdgaaDoor.Ln
open Go.ChangeShapes Go.WideShapes Go.ChangeAt Go.RowKit
/-- The words, the bytes, the error's number of an answer of Parse. -/
def pW : Lw.R (List (List UInt8)) → List (List UInt8)
  | .got ws _ => ws
  | _ => []
def pU : Lw.R (List (List UInt8)) → Nat
  | .got _ u => u
  | _ => 0
def pE : Lw.R (List (List UInt8)) → Int
  | .bad => 61
  | _ => 0
def xW : Option (List (List UInt8)) → List (List UInt8)
  | some ws => ws
  | none => []
def xE : Option (List (List UInt8)) → Int
  | some _ => 0
  | none => 61
theorem ParseAns.plain {o : Lw.R (List (List UInt8))} {w w' : World} {e : Ending} (h : ParseAns o w e w') :
    Below w.heap.size w w' ∧ ∃ a c, e = .returned (.tuple #[.slice a (pW o).length c, .int .i64 (pU o : Nat), .int .i64 (pE o)]) ∧ (pW o).length ≤ c ∧ c ≤ 9223372036854775807 ∧ InS w' a (pW o) := by
  obtain ⟨hb, ⟨rfl, rfl⟩ | ⟨rfl, rfl⟩ | ⟨ws, u, v, rfl, rfl, hS⟩⟩ := h
  · exact ⟨hb, none, 0, rfl, Nat.le_refl _, by omega, fun i hi => absurd hi (Nat.not_lt_zero _)⟩
  · exact ⟨hb, none, 0, rfl, Nat.le_refl _, by omega, fun i hi => absurd hi (Nat.not_lt_zero _)⟩
  · obtain ⟨a, c, rfl, h1, h2, h3⟩ := (Lie.of hS).facts
    exact ⟨hb, a, c, rfl, h1, h2, h3⟩
theorem WordsAns.plain {o : Option (List (List UInt8))} {w w' : World} {e : Ending} (h : WordsAns o w e w') :
    Below w.heap.size w w' ∧ ∃ a c, e = .returned (.tuple #[.slice a (xW o).length c, .int .i64 (xE o)]) ∧ (xW o).length ≤ c ∧ c ≤ 9223372036854775807 ∧ InS w' a (xW o) := by
  obtain ⟨hb, ⟨rfl, rfl⟩ | ⟨ws, v, rfl, rfl, hS⟩⟩ := h
  · exact ⟨hb, none, 0, rfl, Nat.le_refl _, by omega, fun i hi => absurd hi (Nat.not_lt_zero _)⟩
  · obtain ⟨a, c, rfl, h1, h2, h3⟩ := (Lie.of hS).facts
    exact ⟨hb, a, c, rfl, h1, h2, h3⟩
theorem pW_len (l : List UInt8) : (pW (Lw.parseR l)).length ≤ 64 := by
  cases h : Lw.parseR l with
  | bad => simp [pW]
  | short => simp [pW]
  | got ws u => exact (Lw.parseR_got h).2.2.1
theorem xW_len (l : List UInt8) : (xW (Lw.wrun (.gap []) l)).length ≤ 64 := by
  cases h : Lw.wrun (.gap []) l with
  | none => simp [xW]
  | some ws => exact (Lw.wrun_some _ _ _ _ (Nat.le_refl _) h).1
set_option maxHeartbeats 8000000 in
set_option maxRecDepth 1000000 in
theorem linesParses (a : Option Addr) (c : Nat) (l : List UInt8) (w : World) (hB : InB w a c l) (h0 : a = none → c = 0) (x : ByteArray) (hc : PCtx w) (hmx : MaxOk w) :
    Calls Tryd.prog 3 #[.slice a l.length c, .string x] w fun e w' => e = .returned (.bool true) ∧ Below w.heap.size w w' := by
  have HA := Lib.hid (alive_calls w hc hmx)
  have HP := Lib.hid (fun (w1 : World) (h : Below w.heap.size w w1) (hl : l.length ≤ 1000000) => parse_calls l hl a c h0 w1 (hc.below h) (hmx.below h) (hB.below h))
  have HV := Lib.hid (fun (w1 : World) (h : Below w.heap.size w w1) => (hB.below h).conv)
  have HR := Lib.hid rparse_calls
  have HW := Lib.hid (fun (s : ByteArray) (hs : s.size ≤ 1000000) (w1 : World) (h : Below w.heap.size w w1) => words_calls s hs w1 (hc.below h).toLCtx)
  have HRW := Lib.hid rwords_calls
  have hcap := hB.cap
  have hcm := hB.max
  clear hc hmx hB
  go_enter Tryd.func3, Tryd.ntmps3
  go_wp2_with fail
  refine HA.out.mono ?_; rintro en w1 ⟨rfl, hb1⟩
  have Hb1 := Lib.hid hb1
  clear hb1
  by_cases hl : (20000 : Int) < (l.length : Int)
  case pos =>
    go_wp2_with fail
    go_ret
    exact ⟨rfl, Hb1.out⟩
  by_cases hx : (5000 : Int) < (x.size : Int)
  case pos =>
    go_wp2_with fail
    go_ret
    exact ⟨rfl, Hb1.out⟩
  have hp := HP.out w1 Hb1.out (by omega)
  have hpl := pW_len l
  have hxl := xW_len x.data.toList
  obtain ⟨S, hS, hSs, hSd⟩ : ∃ S : ByteArray, (⟨l.toArray⟩ : ByteArray) = S ∧ S.size = l.length ∧ S.data.toList = l := ⟨_, rfl, size_of l, bytes_of l⟩
  have hr := fun w => HR.out S (by omega) w
  rw [hSd] at hr
  rw [hS] at HV
  generalize Lw.parseR l = o at *
  have hw := fun w1 h => HW.out x (by omega) w1 h
  have hrw := fun w => HRW.out x (by omega) w
  generalize Lw.wrun (.gap []) x.data.toList = q at *
  have Hp := Lib.hid hp
  have Hr := Lib.hid hr
  have Hw := Lib.hid hw
  have Hrw := Lib.hid hrw
  clear hp hr hw hrw HP HR HW HRW HA hS hSd
  go_wp2_with fail
  refine Hp.out.mono ?_; intro en w2 hans
  obtain ⟨hb2, a2, c2, rfl, hd2, hm2, hI2⟩ := hans.plain
  have Hb2 := Lib.hid (bstep Hb1.out hb2)
  have HI2 := Lib.hid hI2
  have hcv := HV.out w2 Hb2.out
  clear hans hb2 hI2
  go_wp2_with fail
  refine (Hr.out _).mono ?_; intro en w3 hans
  obtain ⟨hb3, a3, c3, rfl, hd3, hm3, hI3⟩ := hans.plain
  have Hb3 := Lib.hid (bstep Hb2.out hb3)
  have HI23 := Lib.hid (HI2.out.below hb3)
  have HI3 := Lib.hid hI3
  clear hans hb3 hI3 hcv
  go_wp2_with fail
  refine (Hw.out _ Hb3.out).mono ?_; intro en w4 hans
  obtain ⟨hb4, a4, c4, rfl, hd4, hm4, hI4⟩ := hans.plain
  have Hb4 := Lib.hid (bstep Hb3.out hb4)
  have HI24 := Lib.hid (HI23.out.below hb4)
  have HI34 := Lib.hid (HI3.out.below hb4)
  have HI4 := Lib.hid hI4
  clear hans hb4 hI4
  go_wp2_with fail
  refine (Hrw.out _).mono ?_; intro en w5 hans
  obtain ⟨hb5, a5, c5, rfl, hd5, hm5, hI5⟩ := hans.plain
  have Hb5 := Lib.hid (bstep Hb4.out hb5)
  have HS1 := Lib.hid (same_calls w5 a2 a3 c2 c3 (pW o) hpl (HI24.out.below hb5) (HI34.out.below hb5) hd2 hm2)
  have HS2 := Lib.hid (fun (w6 : World) (h : Below w5.heap.size w5 w6) => same_calls w6 a4 a5 c4 c5 (xW q) hxl ((HI4.out.below hb5).below h) (hI5.below h) hd4 hm4)
  clear hans hb5 hI5
  go_wp2_with fail
  refine HS1.out.mono ?_; rintro en w6 ⟨rfl, hb6⟩
  have HS3 := Lib.hid (HS2.out w6 hb6)
  have Hb6 := Lib.hid (bstep Hb5.out hb6)
  clear hb6
  go_wp2_with fail
  refine HS3.out.mono ?_; rintro en w7 ⟨rfl, hb7⟩
  have Hb7 := Lib.hid (bstep Hb6.out hb7)
  clear hb7
  go_wp2_with fail
  go_ret
  exact ⟨rfl, Hb7.out⟩
end Go.Proofs.YtenhgjpoigkdgaaDoor.Ln
