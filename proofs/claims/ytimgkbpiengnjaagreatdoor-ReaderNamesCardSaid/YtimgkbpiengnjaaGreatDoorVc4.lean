/- Package value's Check, and textFits at the kinds whose texts are not looked into. Conditions: as isRight's. -/
import Derived.Test.YtimgkbpiengnjaaGreatDoorVc3
namespace Go.Proofs.YtimgkbpiengnjaaGreatDoor
open Go.ChangeShapes Go.WideShapes Go.ChangeAt Go.RowKit

def checkN (v : Val) : Int := if good v 8 && decide (v.count ≤ 1000) then 0 else 31
def Checked (v : Val) (w : World) (e : Ending) (w' : World) : Prop := e = .returned (.int .i64 (checkN v)) ∧ Below w.heap.size w w'

set_option maxHeartbeats 2000000 in
theorem check_calls (v : Val) (S : Nat → Prop) (w : World) (hS : ∀ b, S b → b < w.heap.size) (hl : Lies S w v) (hf : v.fits) :
    Calls Tryz.prog 20 #[v.agg] w (Checked v w) := by
  cases v with
  | no => exact hl.elim
  | mk k t z r f a c n K =>
    have hW : Below w.heap.size w ((w.alloc (.cells #[.int .i64 k, .string t, .int .i64 z, .float .f64 r, .bool f, .slice a n c] 26)).alloc (.cells #[.int .i64 1000] 3)) :=
      ((Below.refl _ _).alloc (Nat.le_refl _) _).alloc (by simp) _
    have ha : At ((w.alloc (.cells #[.int .i64 k, .string t, .int .i64 z, .float .f64 r, .bool f, .slice a n c] 26)).alloc (.cells #[.int .i64 1000] 3)) w.heap.size 0 (.mk k t z r f a c n K) := by
      refine ⟨?_, ?_, ?_, ?_, ?_, ?_⟩ <;> go_simp
    have hcall := isRight_calls (.mk k t z r f a c n K) S _ w.heap.size 0 (w.heap.size + 1) 1000 8 (fun b hb => by have := hS b hb; omega) (hl.below hW hS) hf (by omega) ha (by go_simp) (by go_simp) (by simp) (by omega) (by omega)
    have Hcall := Lib.hid hcall
    have HW := Lib.hid hW
    have Hc : Hid (checkN (.mk k t z r f a c n K) = if good (.mk k t z r f a c n K) 8 && decide ((Val.mk k t z r f a c n K).count ≤ 1000) then 0 else 31) := Lib.hid rfl
    clear hl hf ha hcall hW hS
    unfold Val.agg
    go_enter Tryz.func20, Tryz.ntmps20
    go_wp2_with fail
    refine Hcall.out.mono ?_; rintro en w3 ⟨x, rfl, hb3, -, -, -, -⟩
    have Hb := Lib.hid (HW.out.trans (hb3.mono (by omega)))
    clear hb3
    cases hg : (good (.mk k t z r f a c n K) 8 && decide ((Val.mk k t z r f a c n K).count ≤ 1000)) with
    | true =>
      have Hg := Lib.hid hg
      clear hg
      go_wp2_with fail
      go_ret
      exact ⟨by rw [Hc.out, Hg.out]; rfl, Hb.out⟩
    | false =>
      have Hg := Lib.hid hg
      clear hg
      go_wp2_with fail
      go_ret
      exact ⟨by rw [Hc.out, Hg.out]; rfl, Hb.out⟩

theorem long_no {t : ByteArray} (h : ¬ t.size ≤ 4096) (k : Int) : textB k t.data.toList = false := by
  have : t.data.toList.length = t.size := Array.length_toList
  unfold textB
  rw [this, decide_eq_false h]; rfl
theorem short_yes {t : ByteArray} (h : t.size ≤ 4096) (k : Int) : textB k t.data.toList = (if k = 1 ∨ k = 2 then !(t.data.toList.any fun b => b == 13 || b == 10) else if k = 4 ∨ k = 10 then true else if k = 9 then bigB t.data.toList
    else if k = 11 then decide (4 ≤ t.data.toList.length) && t.data.toList.getD 3 0 == 58 else if 3 ≤ k ∧ k ≤ 14 then t.data.toList.isEmpty else false) := by
  have : t.data.toList.length = t.size := Array.length_toList
  unfold textB
  rw [this, decide_eq_true h]; rfl
theorem fits_long (k : Int) (t : ByteArray) (h : ¬ t.size ≤ 4096) (hm : t.size ≤ 9223372036854775807) : Fits k t := by
  intro w
  rw [long_no h]
  replace h : 4096 < t.size := by omega
  go_enter Tryz.func42, Tryz.ntmps42
  go_wp2_with fail
  go_ret
  exact ⟨rfl, Below.refl _ _⟩
theorem fits_bulk (k : Int) (t : ByteArray) (hk : k = 4 ∨ k = 10) (hm : t.size ≤ 9223372036854775807) : Fits k t := by
  by_cases h : t.size ≤ 4096
  case neg => exact fits_long k t h hm
  intro w
  rw [short_yes h]
  rcases hk with rfl | rfl
  all_goals
    go_enter Tryz.func42, Tryz.ntmps42
    go_wp2_with fail
    go_ret
    exact ⟨rfl, Below.refl _ _⟩
theorem fits_none (k : Int) (t : ByteArray) (hk : k = 3 ∨ k = 5 ∨ k = 6 ∨ k = 7 ∨ k = 8 ∨ k = 12 ∨ k = 13 ∨ k = 14) (hm : t.size ≤ 9223372036854775807) : Fits k t := by
  by_cases h : t.size ≤ 4096
  case neg => exact fits_long k t h hm
  intro w
  rw [short_yes h]
  have e : t.toList = t.data.toList := ByteArray.toList_eq t
  cases he : t.data.toList.isEmpty with
  | true =>
    have h1 : t.toList = [] := by rw [e]; simpa using he
    have h2 : (!t.toList.isEmpty) = false := by rw [e, he]; rfl
    clear e he
    rcases hk with rfl | rfl | rfl | rfl | rfl | rfl | rfl | rfl
    all_goals
      go_enter Tryz.func42, Tryz.ntmps42
      go_wp2_with fail
      go_ret
      exact ⟨rfl, Below.refl _ _⟩
  | false =>
    have h1 : t.toList.isEmpty = false := by rw [e, he]
    clear e he
    rcases hk with rfl | rfl | rfl | rfl | rfl | rfl | rfl | rfl
    all_goals
      go_enter Tryz.func42, Tryz.ntmps42
      go_wp2_with fail
      go_ret
      exact ⟨rfl, Below.refl _ _⟩
theorem fits_other (k : Int) (t : ByteArray) (hk : k < 1 ∨ 14 < k) (hm : t.size ≤ 9223372036854775807) : Fits k t := by
  by_cases h : t.size ≤ 4096
  case neg => exact fits_long k t h hm
  intro w
  have e1 : (k == 1) = false := by rw [beq_eq_false_iff_ne]; omega
  have e2 : (k == 2) = false := by rw [beq_eq_false_iff_ne]; omega
  have e3 : (k == 3) = false := by rw [beq_eq_false_iff_ne]; omega
  have e4 : (k == 4) = false := by rw [beq_eq_false_iff_ne]; omega
  have e5 : (k == 5) = false := by rw [beq_eq_false_iff_ne]; omega
  have e6 : (k == 6) = false := by rw [beq_eq_false_iff_ne]; omega
  have e7 : (k == 7) = false := by rw [beq_eq_false_iff_ne]; omega
  have e8 : (k == 8) = false := by rw [beq_eq_false_iff_ne]; omega
  have e9 : (k == 9) = false := by rw [beq_eq_false_iff_ne]; omega
  have e10 : (k == 10) = false := by rw [beq_eq_false_iff_ne]; omega
  have e11 : (k == 11) = false := by rw [beq_eq_false_iff_ne]; omega
  have e12 : (k == 12) = false := by rw [beq_eq_false_iff_ne]; omega
  have e13 : (k == 13) = false := by rw [beq_eq_false_iff_ne]; omega
  have e14 : (k == 14) = false := by rw [beq_eq_false_iff_ne]; omega
  rw [short_yes h, if_neg (by omega), if_neg (by omega), if_neg (by omega), if_neg (by omega), if_neg (by omega)]
  clear hk
  go_enter Tryz.func42, Tryz.ntmps42
  go_wp2_with fail
  go_ret
  exact ⟨rfl, Below.refl _ _⟩
end Go.Proofs.YtimgkbpiengnjaaGreatDoor
