/- The checking package's Drop of layer 7. No condition but bounds. -/
import Derived.Test.YtjfcdkmnccafaaaPa2
namespace Go.Proofs.Ytjfcdkmnccafaaa.Pa
open Go.ChangeShapes Go.WideShapes Go.ChangeAt Go.RowKit
set_option maxHeartbeats 4000000 in
set_option maxRecDepth 100000 in
theorem refDrop_calls (w : World) (a : Option Addr) (c : Nat) (l : List Mk) (hn : l.length ≤ 1000000) (hI : InM w a l) (k : ByteArray) :
    Calls Try.prog 10 #[.slice a l.length c, .string k] w fun e w' => ∃ v, e = .returned (.tuple #[v, .bool (decide ((dropM l k).length < l.length))]) ∧ RowM w w' v (dropM l k) := by
  have HI := Lib.hid hI
  clear hI
  go_enter Try.func10, Try.ntmps10
  go_wp2_with fail
  go_loopg [6, 8, 12] (l.length + 1) (fun g ov _ vi wr => ∃ j : Nat, vi = .int .i64 j ∧ j ≤ l.length ∧ l.length - j ≤ g ∧ RowM w wr ov (dropM (l.take j) k))
  case atStart => exact ⟨0, rfl, by omega, by omega, rowM_made w⟩
  case round =>
    obtain ⟨j, rfl, hj, hg, hR⟩ := hrel
    have HR := Lib.hid hR
    obtain ⟨pa, pc, rfl, hpl, hpc, -⟩ := hR.slice
    have hdl := dropM_len (l.take j) k
    rw [List.length_take] at hdl
    clear hR
    by_cases hjl : j < l.length
    case neg =>
      obtain rfl : j = l.length := by omega
      have HZ : Hid (RowM w wr (.slice pa (dropM (l.take l.length) k).length pc) (dropM l k)) := Lib.hid (by have h := HR.out; rw [List.take_length] at h ⊢; exact h)
      go_wp2_with fail
      go_ret2
      refine ⟨_, ?_, HZ.out⟩
      rw [List.take_length]
      simp
    case pos =>
      obtain ⟨g, rfl, h1, h2⟩ := (HI.out.below HR.out.bel) j hjl
      have HT := Lib.hid (dropM_take (k := k) hjl)
      generalize l[j] = q at *
      obtain ⟨x, z⟩ := q
      have h1 : wr.cell? ⟨g, j * 2, none⟩ = some (.string x) := h1
      have h2 : wr.cell? ⟨g, j * 2 + 1, none⟩ = some (.int .i64 z) := h2
      have hjc : (j : Int) < (l.length : Int) := by omega
      have HB := Lib.hid (fun o => HR.out.below (bbox (w := wr) o))
      cases he : (x.toList == k.toList)
      case true =>
        have hne : (!(x.toList == k.toList)) = false := by rw [he]; rfl
        have HZ : Hid (dropM (l.take (j + 1)) k = dropM (l.take j) k) := Lib.hid (by rw [HT.out, if_pos he, List.append_nil])
        go_wp2_with fail
        go_roundg (gk - 1)
        case measure => omega
        case rel => exact ⟨j + 1, by go_num, by omega, by omega, by rw [HZ.out]; exact HB.out _⟩
      case false =>
        have hne : (!(x.toList == k.toList)) = true := by rw [he]; rfl
        have HZ : Hid (dropM (l.take (j + 1)) k = dropM (l.take j) k ++ [(x, z)]) := Lib.hid (by rw [HT.out, if_neg (by rw [he]; decide)])
        go_wp2_with (at_builtin; refine mark_push (HB.out _) rfl _ _ rfl rfl (x, z) _ _ _ rfl (by simp) rfl ?hl ?_)
        case hl => omega
        intro v3 w3 hR3
        obtain ⟨pa3, pc3, rfl, -, -, -⟩ := hR3.slice
        have HR3 := Lib.hid hR3
        clear hR3
        go_wp2_with fail
        go_roundg (gk - 1)
        case measure => omega
        case rel => exact ⟨j + 1, by go_num, by omega, by omega, by rw [HZ.out]; exact HR3.out⟩
end Go.Proofs.Ytjfcdkmnccafaaa.Pa
