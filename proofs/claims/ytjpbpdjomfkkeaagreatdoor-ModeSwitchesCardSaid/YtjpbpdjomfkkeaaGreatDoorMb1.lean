/- Package mode: Caching, Tracks, goTogether, follows, Flags. No condition but bounds. -/
import Derived.Test.YtjpbpdjomfkkeaaGreatDoorMa3
namespace Go.Proofs.YtjpbpdjomfkkeaaGreatDoor.Ma
set_option linter.unusedVariables false
set_option linter.unusedSimpArgs false
open Go.ChangeShapes Go.WideShapes Go.ChangeAt Go.RowKit
open Go.Proofs.YtjpbpdjomfkkeaaGreatDoor.Sp (bstep bbox)
/-- A mode as a value. -/
def mV (m : Md) (a : Option Addr) (c : Nat) : Value := .agg #[.bool m.on, .bool m.bc, .bool m.oi, .bool m.oo, .bool m.nl, .int .i64 m.rd, .slice a m.ps.length c]
/-- A mode as it lies. -/
def MdV (w : World) (v : Value) (m : Md) : Prop := ∃ a c, v = mV m a c ∧ m.ps.length ≤ c ∧ c ≤ 9223372036854775807 ∧ (a = none → c = 0) ∧ InS w a m.ps
theorem MdV.bel {w w' : World} {v : Value} {m : Md} (h : MdV w v m) (hb : Below w.heap.size w w') : MdV w' v m := by
  obtain ⟨a, c, e, h1, h2, h3, h4⟩ := h
  exact ⟨a, c, e, h1, h2, h3, h4.bel hb⟩
set_option maxHeartbeats 4000000 in
theorem caching_calls (w : World) (m : Md) (a : Option Addr) (c : Nat) (yes : Bool) (r : Int) (hr : cachingM m yes = r) :
    Calls Tryz.prog 11 #[mV m a c, .bool yes] w fun e w' => e = .returned (.int .i64 r) ∧ Below w.heap.size w w' := by
  obtain ⟨on, bc, oi, oo, nl, rd, ps⟩ := m
  unfold mV
  unfold cachingM at hr
  simp only at hr ⊢
  cases on <;> cases yes <;> cases oi <;> cases oo <;>
  · simp at hr
    subst hr
    go_enter Tryz.func11, Tryz.ntmps11
    go_wp2_with fail
    go_ret
    exact ⟨rfl, bbox _⟩
set_option maxHeartbeats 4000000 in
theorem tracks_calls (w : World) (m : Md) (a : Option Addr) (c : Nat) (k : Int) (r : Bool) (hr : tracksM m k = r) :
    Calls Tryz.prog 13 #[mV m a c, .int .i64 k] w fun e w' => e = .returned (.bool r) ∧ Below w.heap.size w w' := by
  obtain ⟨on, bc, oi, oo, nl, rd, ps⟩ := m
  unfold mV
  unfold tracksM at hr
  simp only at hr ⊢
  subst hr
  cases on <;> cases bc <;> cases oi <;> cases oo <;>
  · 
    go_enter Tryz.func13, Tryz.ntmps13
    go_wp2_with fail
    go_ret
    refine ⟨?_, bbox _⟩
    first | rfl | (simp; done) | (simp; omega)
set_option maxHeartbeats 4000000 in
theorem together_calls (w : World) (m : Md) (a : Option Addr) (c : Nat) (r : Bool) (hr : r = (if m.bc then !m.oi && !m.oo && decide (0 < m.ps.length) else !(m.oi && m.oo) && decide (m.ps.length = 0))) :
    Calls Tryz.prog 26 #[mV m a c] w fun e w' => e = .returned (.bool r) ∧ Below w.heap.size w w' := by
  obtain ⟨on, bc, oi, oo, nl, rd, ps⟩ := m
  unfold mV
  simp only at hr ⊢
  subst hr
  cases bc <;> cases oi <;> cases oo <;>
  · 
    go_enter Tryz.func26, Tryz.ntmps26
    go_wp2_with fail
    go_ret
    refine ⟨?_, bbox _⟩
    first | rfl | (simp; done) | (simp; omega) | (cases ps <;> first | rfl | (simp; done) | (simp; omega))
/-! strings.HasPrefix. -/
open Classical in
noncomputable def isPre (p s : BA) : Bool := decide (tl p <+: tl s)
theorem isPre_iff (p s : BA) : isPre p s = true ↔ tl p <+: tl s := by classical exact decide_eq_true_iff
theorem tl_len (x : BA) : (tl x).length = x.size := Array.length_toList
theorem tl_extract (s : BA) (n : Nat) : tl (s.extract 0 n) = (tl s).take n := by
  show (s.extract 0 n).data.toList = _
  rw [Go.Lib.extract_data]
  simp
theorem pre_take {p s : BA} (h : p.size ≤ s.size) : (((s.extract 0 p.size).toList == p.toList) = true) ↔ tl p <+: tl s := by
  rw [beq_iff_eq, tl_toList, tl_toList, tl_extract, List.prefix_iff_eq_take, tl_len]
  exact eq_comm
set_option maxHeartbeats 4000000 in
theorem hasPrefixL_calls (w : World) (s p : BA) (r : Bool) (hr : isPre p s = r) :
    Calls Tryz.prog 66 #[.string s, .string p] w fun e w' => e = .returned (.bool r) ∧ w = w' := by
  have hr2 := isPre_iff p s
  rw [hr] at hr2
  by_cases h : p.size ≤ s.size
  · have hc : (p.size : Int) ≤ (s.size : Int) := by omega
    have e : ((s.extract 0 p.size).toList == p.toList) = r := by
      rw [Bool.eq_iff_iff, pre_take h]; exact hr2.symm
    clear hr hr2
    generalize hx : s.extract 0 p.size = x at *
    go_enter Tryz.func66, Tryz.ntmps66
    go_wp2_with fail
    go_ret
    refine ⟨?_, rfl⟩
    first | rfl | (rw [← e]; rfl) | (simp [e]; done) | (simp [hx, e]; done)
  · have hc : ¬ (p.size : Int) ≤ (s.size : Int) := by omega
    have e : r = false := by
      cases r with
      | false => rfl
      | true => exact absurd (hr2.1 rfl).length_le (by rw [tl_len, tl_len]; exact h)
    subst e
    clear hr hr2
    go_enter Tryz.func66, Tryz.ntmps66
    go_wp2_with fail
    go_ret
    exact ⟨rfl, rfl⟩
set_option maxHeartbeats 4000000 in
theorem hasPrefix_calls (w : World) (s p : BA) (r : Bool) (hr : isPre p s = r) :
    Calls Tryz.prog 50 #[.string s, .string p] w fun e w' => e = .returned (.bool r) ∧ w = w' := by
  have H := Lib.hid (fun W => hasPrefixL_calls W s p r hr)
  clear hr
  go_enter Tryz.func50, Tryz.ntmps50
  go_wp2_with fail
  refine (H.out _).mono ?_
  rintro e w' ⟨rfl, rfl⟩
  go_wp2_with fail
  go_ret
  exact ⟨rfl, rfl⟩
open Classical in
noncomputable def folB (p q : BA) : Bool := decide (Fol p q)
theorem folB_iff (p q : BA) : folB p q = true ↔ Fol p q := by classical exact decide_eq_true_iff
set_option maxHeartbeats 4000000 in
theorem follows_calls (w : World) (p q : BA) (r : Bool) (hr : folB p q = r) :
    Calls Tryz.prog 34 #[.string p, .string q] w fun e w' => e = .returned (.bool r) ∧ w = w' := by
  have hr2 := folB_iff p q
  rw [hr] at hr2
  have H := Lib.hid (fun W => hasPrefix_calls W q p _ rfl)
  have e : r = (Op.bytesLess p.toList q.toList && !isPre p q) := by
    rw [Bool.eq_iff_iff, hr2]
    unfold Fol
    rw [← isPre_iff, Bool.and_eq_true, Bool.not_eq_true']
    simp [Ia.lt]
  clear hr hr2
  subst e
  generalize isPre p q = x at *
  cases hl : Op.bytesLess p.toList q.toList
  · go_enter Tryz.func34, Tryz.ntmps34
    go_wp2_with fail
    go_ret
    exact ⟨rfl, rfl⟩
  · go_enter Tryz.func34, Tryz.ntmps34
    go_wp2_with fail
    refine (H.out _).mono ?_
    rintro e w' ⟨rfl, rfl⟩
    go_wp2_with fail
    go_ret
    exact ⟨by first | rfl | simp, rfl⟩
end Go.Proofs.YtjpbpdjomfkkeaaGreatDoor.Ma
