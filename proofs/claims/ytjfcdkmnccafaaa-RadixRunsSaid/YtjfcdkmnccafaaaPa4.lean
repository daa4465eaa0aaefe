/- The checking package's begins, Walk and Above of layer 7. No condition but bounds. -/
import Derived.Test.YtjfcdkmnccafaaaPa3
namespace Go.Proofs.Ytjfcdkmnccafaaa.Pa
open Go.ChangeShapes Go.WideShapes Go.ChangeAt Go.RowKit
def begM (s p : ByteArray) : Bool := decide (p.size ≤ s.size) && ((s.extract 0 p.size).toList == p.toList)
set_option maxHeartbeats 4000000 in
set_option maxRecDepth 100000 in
theorem refBegins_calls (w : World) (s p : ByteArray) :
    Calls Try.prog 29 #[.string s, .string p] w fun e w' => e = .returned (.bool (begM s p)) ∧ Below w.heap.size w w' := by
  go_enter Try.func29, Try.ntmps29
  by_cases h : p.size ≤ s.size
  case neg =>
    have h1 : (s.size : Int) < (p.size : Int) := by omega
    go_wp2_with fail
    go_ret
    exact ⟨by unfold begM; rw [decide_eq_false h]; rfl, Below.refl _ _⟩
  case pos =>
    have h1 : ¬ ((s.size : Int) < (p.size : Int)) := by omega
    go_wp2_with fail
    go_ret
    exact ⟨by unfold begM; rw [decide_eq_true h]; rfl, Below.refl _ _⟩
theorem sel_take (f : Mk → Bool) {l : List Mk} {j : Nat} (hj : j < l.length) : (l.take (j + 1)).filter f = (l.take j).filter f ++ (if f l[j] then [l[j]] else []) := by
  rw [← List.take_append_getElem hj, List.filter_append]
  cases h : f l[j] <;> simp [h]
set_option maxHeartbeats 4000000 in
set_option maxRecDepth 100000 in
theorem refWalk_calls (w : World) (a : Option Addr) (c : Nat) (l : List Mk) (hn : l.length ≤ 1000000) (hI : InM w a l) (k : ByteArray) :
    Calls Try.prog 17 #[.slice a l.length c, .string k] w fun e w' => ∃ v, e = .returned v ∧ RowM w w' v (l.filter fun m => begM m.1 k) := by
  obtain ⟨f, hf⟩ : ∃ f : Mk → Bool, f = fun m => begM m.1 k := ⟨_, rfl⟩
  rw [← hf]
  have HF := Lib.hid hf
  have HI := Lib.hid hI
  clear hI hf
  go_enter Try.func17, Try.ntmps17
  go_wp2_with fail
  go_loopg [5, 7, 11] (l.length + 1) (fun g ov _ vi wr => ∃ j : Nat, vi = .int .i64 j ∧ j ≤ l.length ∧ l.length - j ≤ g ∧ RowM w wr ov ((l.take j).filter f))
  case atStart => exact ⟨0, rfl, by omega, by omega, rowM_made w⟩
  case round =>
    obtain ⟨j, rfl, hj, hg, hR⟩ := hrel
    have HR := Lib.hid hR
    obtain ⟨pa, pc, rfl, hpl, hpc, -⟩ := hR.slice
    have hdl := List.length_filter_le f (l.take j)
    rw [List.length_take] at hdl
    clear hR
    by_cases hjl : j < l.length
    case neg =>
      obtain rfl : j = l.length := by omega
      have HW : Hid (RowM w wr (.slice pa ((l.take l.length).filter f).length pc) (l.filter f)) := Lib.hid (by have h := HR.out; rw [List.take_length] at h ⊢; exact h)
      go_wp2_with fail
      go_ret
      exact ⟨_, rfl, HW.out⟩
    case pos =>
      obtain ⟨g, rfl, h1, h2⟩ := (HI.out.below HR.out.bel) j hjl
      have HT := Lib.hid (sel_take f hjl)
      generalize l[j] = q at *
      obtain ⟨x, z⟩ := q
      have h1 : wr.cell? ⟨g, j * 2, none⟩ = some (.string x) := h1
      have h2 : wr.cell? ⟨g, j * 2 + 1, none⟩ = some (.int .i64 z) := h2
      have hjc : (j : Int) < (l.length : Int) := by omega
      have HB := Lib.hid (fun w2 (h : Below wr.heap.size wr w2) => HR.out.below h)
      have HC := Lib.hid (fun w2 => refBegins_calls w2 x k)
      have HV : Hid (f (x, z) = begM x k) := Lib.hid (by rw [HF.out])
      cases he : begM x k
      case false =>
        have HS : Hid ((l.take (j + 1)).filter f = (l.take j).filter f) := Lib.hid (by rw [HT.out, HV.out, he]; exact List.append_nil _)
        rw [he] at HC
        go_wp2_with fail
        (with_reducible refine (HC.out _).mono ?_); rintro en w3 ⟨rfl, h3⟩
        have HB3 := Lib.hid (HB.out w3 ((bbox _).trans (h3.mono (by simp))))
        go_wp2_with fail
        go_roundg (gk - 1)
        case measure => omega
        case rel => exact ⟨j + 1, by go_num, by omega, by omega, by rw [HS.out]; exact HB3.out⟩
      case true =>
        have HS : Hid ((l.take (j + 1)).filter f = (l.take j).filter f ++ [(x, z)]) := Lib.hid (by rw [HT.out, HV.out, he]; rfl)
        rw [he] at HC
        go_wp2_with fail
        (with_reducible refine (HC.out _).mono ?_); rintro en w3 ⟨rfl, h3⟩
        have HB3 := Lib.hid (HB.out w3 ((bbox _).trans (h3.mono (by simp))))
        have c0 : w3.cell? ⟨wr.heap.size, 0, none⟩ = some (.string x) := (h3.cell (p := ⟨wr.heap.size, 0, none⟩) (by simp)).trans (by rw [World.cell?_alloc_new]; rfl)
        have c1 : w3.cell? ⟨wr.heap.size, 1, none⟩ = some (.int .i64 z) := (h3.cell (p := ⟨wr.heap.size, 1, none⟩) (by simp)).trans (by rw [World.cell?_alloc_new]; rfl)
        go_wp2_with (at_builtin; refine mark_push HB3.out rfl _ _ rfl rfl (x, z) _ _ _ rfl (by simp) rfl ?hl ?_)
        case hl => omega
        intro v4 w4 hR4
        obtain ⟨pa4, pc4, rfl, -, -, -⟩ := hR4.slice
        have HR4 := Lib.hid hR4
        clear hR4
        go_wp2_with fail
        go_roundg (gk - 1)
        case measure => omega
        case rel => exact ⟨j + 1, by go_num, by omega, by omega, by rw [HS.out]; exact HR4.out⟩
set_option maxHeartbeats 4000000 in
set_option maxRecDepth 100000 in
theorem refAbove_calls (w : World) (a : Option Addr) (c : Nat) (l : List Mk) (hn : l.length ≤ 1000000) (hI : InM w a l) (k : ByteArray) :
    Calls Try.prog 16 #[.slice a l.length c, .string k] w fun e w' => ∃ v, e = .returned v ∧ RowM w w' v (l.filter fun m => begM k m.1) := by
  obtain ⟨f, hf⟩ : ∃ f : Mk → Bool, f = fun m => begM k m.1 := ⟨_, rfl⟩
  rw [← hf]
  have HF := Lib.hid hf
  have HI := Lib.hid hI
  clear hI hf
  go_enter Try.func16, Try.ntmps16
  go_wp2_with fail
  go_loopg [5, 7, 11] (l.length + 1) (fun g ov _ vi wr => ∃ j : Nat, vi = .int .i64 j ∧ j ≤ l.length ∧ l.length - j ≤ g ∧ RowM w wr ov ((l.take j).filter f))
  case atStart => exact ⟨0, rfl, by omega, by omega, rowM_made w⟩
  case round =>
    obtain ⟨j, rfl, hj, hg, hR⟩ := hrel
    have HR := Lib.hid hR
    obtain ⟨pa, pc, rfl, hpl, hpc, -⟩ := hR.slice
    have hdl := List.length_filter_le f (l.take j)
    rw [List.length_take] at hdl
    clear hR
    by_cases hjl : j < l.length
    case neg =>
      obtain rfl : j = l.length := by omega
      have HW : Hid (RowM w wr (.slice pa ((l.take l.length).filter f).length pc) (l.filter f)) := Lib.hid (by have h := HR.out; rw [List.take_length] at h ⊢; exact h)
      go_wp2_with fail
      go_ret
      exact ⟨_, rfl, HW.out⟩
    case pos =>
      obtain ⟨g, rfl, h1, h2⟩ := (HI.out.below HR.out.bel) j hjl
      have HT := Lib.hid (sel_take f hjl)
      generalize l[j] = q at *
      obtain ⟨x, z⟩ := q
      have h1 : wr.cell? ⟨g, j * 2, none⟩ = some (.string x) := h1
      have h2 : wr.cell? ⟨g, j * 2 + 1, none⟩ = some (.int .i64 z) := h2
      have hjc : (j : Int) < (l.length : Int) := by omega
      have HB := Lib.hid (fun w2 (h : Below wr.heap.size wr w2) => HR.out.below h)
      have HC := Lib.hid (fun w2 => refBegins_calls w2 k x)
      have HV : Hid (f (x, z) = begM k x) := Lib.hid (by rw [HF.out])
      cases he : begM k x
      case false =>
        have HS : Hid ((l.take (j + 1)).filter f = (l.take j).filter f) := Lib.hid (by rw [HT.out, HV.out, he]; exact List.append_nil _)
        rw [he] at HC
        go_wp2_with fail
        (with_reducible refine (HC.out _).mono ?_); rintro en w3 ⟨rfl, h3⟩
        have HB3 := Lib.hid (HB.out w3 ((bbox _).trans (h3.mono (by simp))))
        go_wp2_with fail
        go_roundg (gk - 1)
        case measure => omega
        case rel => exact ⟨j + 1, by go_num, by omega, by omega, by rw [HS.out]; exact HB3.out⟩
      case true =>
        have HS : Hid ((l.take (j + 1)).filter f = (l.take j).filter f ++ [(x, z)]) := Lib.hid (by rw [HT.out, HV.out, he]; rfl)
        rw [he] at HC
        go_wp2_with fail
        (with_reducible refine (HC.out _).mono ?_); rintro en w3 ⟨rfl, h3⟩
        have HB3 := Lib.hid (HB.out w3 ((bbox _).trans (h3.mono (by simp))))
        have c0 : w3.cell? ⟨wr.heap.size, 0, none⟩ = some (.string x) := (h3.cell (p := ⟨wr.heap.size, 0, none⟩) (by simp)).trans (by rw [World.cell?_alloc_new]; rfl)
        have c1 : w3.cell? ⟨wr.heap.size, 1, none⟩ = some (.int .i64 z) := (h3.cell (p := ⟨wr.heap.size, 1, none⟩) (by simp)).trans (by rw [World.cell?_alloc_new]; rfl)
        go_wp2_with (at_builtin; refine mark_push HB3.out rfl _ _ rfl rfl (x, z) _ _ _ rfl (by simp) rfl ?hl ?_)
        case hl => omega
        intro v4 w4 hR4
        obtain ⟨pa4, pc4, rfl, -, -, -⟩ := hR4.slice
        have HR4 := Lib.hid hR4
        clear hR4
        go_wp2_with fail
        go_roundg (gk - 1)
        case measure => omega
        case rel => exact ⟨j + 1, by go_num, by omega, by omega, by rw [HS.out]; exact HR4.out⟩
end Go.Proofs.Ytjfcdkmnccafaaa.Pa
