/- The checking package's add of layer 7. No condition but bounds. -/
import Derived.Test.YtjfcdkmnccafaaaPa7
namespace Go.Proofs.Ytjfcdkmnccafaaa.Pa
open Go.ChangeShapes Go.WideShapes Go.ChangeAt Go.RowKit
def addT (l : List ByteArray) (s : ByteArray) : List ByteArray := if l.any (fun y => y.toList == s.toList) then l else l ++ [s]
theorem addT_some {l : List ByteArray} {s : ByteArray} {j : Nat} (hj : j < l.length) (he : (l[j].toList == s.toList) = true) : addT l s = l := by
  unfold addT
  rw [if_pos (List.any_eq_true.2 ⟨l[j], List.getElem_mem hj, he⟩)]
theorem addT_none {l : List ByteArray} {s : ByteArray} (h : ∀ y ∈ l.take l.length, (y.toList == s.toList) = false) : addT l s = l ++ [s] := by
  rw [List.take_length] at h
  unfold addT
  rw [if_neg]
  intro hh
  obtain ⟨y, hy, he⟩ := List.any_eq_true.1 hh
  rw [h y hy] at he
  cases he
theorem inT_new (w : World) (s : ByteArray) (T : TypeId) : InT (w.alloc (.cells #[.string s] T)) (some ⟨w.heap.size, 0, none⟩) [s] := by
  intro i hi
  obtain rfl : i = 0 := by simpa using hi
  exact ⟨w.heap.size, rfl, by rw [World.cell?_alloc_new]; rfl⟩
set_option maxHeartbeats 4000000 in
set_option maxRecDepth 100000 in
theorem refAdd_calls (wb w : World) (v : Value) (l : List ByteArray) (hn : l.length ≤ 1000000) (h0 : 0 < l.length) (hR : RowT wb w v l) (s : ByteArray) :
    Calls Try.prog 27 #[v, .string s] w fun e w' => ∃ v', e = .returned v' ∧ RowT wb w' v' (addT l s) := by
  have HR := Lib.hid hR
  obtain ⟨a, c, rfl, hlc, hcc, hI⟩ := hR.slice
  obtain ⟨g, rfl, -⟩ := hI 0 h0
  have HI := Lib.hid hI
  clear hI hR h0
  go_enter Try.func27, Try.ntmps27
  go_wp2_with fail
  go_loopg [6, 9] (l.length + 1) (fun g _ vi wr => ∃ j : Nat, vi = .int .i64 j ∧ j ≤ l.length ∧ l.length - j ≤ g ∧ Hid (Below w.heap.size w wr) ∧ Hid (∀ y ∈ l.take j, (y.toList == s.toList) = false))
  case atStart => exact ⟨0, rfl, by omega, by omega, Lib.hid (Below.refl _ _), Lib.hid (fun y hy => by cases hy)⟩
  case round =>
    obtain ⟨j, rfl, hj, hg, HB, HN⟩ := hrel
    by_cases hjl : j < l.length
    case neg =>
      obtain rfl : j = l.length := by omega
      have HZ := Lib.hid (addT_none HN.out)
      have HIr := Lib.hid ((HI.out.below HB.out).below (bbox (.cells #[] 9)))
      go_wp2_with (at_builtin; refine str_push (rowT_made wr) rfl _ _ rfl rfl l _ rfl rfl HIr.out ?hl ?hr ?_)
      case hl => simp
      case hr => omega
      intro v3 w3 hR3
      have HR3 := Lib.hid (hR3.below (bbox (.cells #[.string s] 9)))
      obtain ⟨pa3, pc3, rfl, -, -, -⟩ := hR3.slice
      clear hR3
      go_wp2_with (at_builtin; refine str_push HR3.out rfl _ _ rfl rfl [s] _ rfl rfl (inT_new _ _ _) ?hl ?hr ?_)
      case hl => omega
      case hr => simp
      intro v4 w4 hR4
      have HR4 := Lib.hid hR4
      clear hR4
      go_wp2_with fail
      go_ret
      exact ⟨_, rfl, by rw [HZ.out]; exact HR4.out.over (HR.out.bel.trans (HB.out.mono HR.out.bel.size))⟩
    case pos =>
      obtain ⟨g', hge, h1⟩ := (HI.out.below HB.out) j hjl
      cases hge
      cases he : (l[j].toList == s.toList)
      case true =>
        have HZ := Lib.hid (addT_some hjl he)
        generalize l[j] = x at *
        go_wp2_with fail
        go_ret
        exact ⟨_, rfl, by rw [HZ.out]; exact HR.out.below HB.out⟩
      case false =>
        have HN2 : Hid (∀ y ∈ l.take (j + 1), (y.toList == s.toList) = false) := Lib.hid (by
          intro y hy
          rw [← List.take_append_getElem hjl] at hy
          rcases List.mem_append.1 hy with h | h
          · exact HN.out y h
          · rw [List.mem_singleton.1 h, he])
        generalize l[j] = x at *
        go_wp2_with fail
        go_roundg (gk - 1)
        case measure => omega
        case rel => exact ⟨j + 1, by go_num, by omega, by omega, HB, HN2⟩
end Go.Proofs.Ytjfcdkmnccafaaa.Pa
