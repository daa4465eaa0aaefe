/- The checking package of layer 11: Put. Conditions: dues as they lie; bounds. -/
import Derived.Test.YtabhnnffohnecaaEy2
namespace Go.Proofs.Ytabhnnffohnecaa.Ea
open Go.ChangeShapes Go.WideShapes Go.ChangeAt Go.RowKit
set_option maxHeartbeats 4000000 in
set_option maxRecDepth 100000 in
theorem refPut_bad (w : World) (a : Option Addr) (c : Nat) (l : List Du) (k : ByteArray) (t : Int) (ht : t < 0 ∨ 4611686018427387904 < t) :
    Calls Try.prog 11 #[.slice a l.length c, .string k, .int .i64 t] w fun e w' => e = .returned (.tuple #[.slice a l.length c, .int .i64 111]) ∧ w = w' := by
  by_cases h0 : t < 0
  case pos =>
    go_enter Try.func11, Try.ntmps11
    go_wp2_with fail
    go_ret2
    exact ⟨rfl, rfl⟩
  case neg =>
    have h1 : 4611686018427387904 < t := by omega
    go_enter Try.func11, Try.ntmps11
    go_wp2_with fail
    go_ret2
    exact ⟨rfl, rfl⟩
theorem RowD.box {wb wr : World} {v : Value} {l : List Du} (h : RowD wb wr v l) (t : Int) (q : ByteArray) : RowD wb (wr.alloc (.cells #[.int .i64 t, .string q] 26)) v l := h.below (bbox _)
set_option maxHeartbeats 8000000 in
set_option maxRecDepth 100000 in
theorem refPut_calls (w : World) (a : Option Addr) (c : Nat) (l : List Du) (hn : l.length ≤ 100000) (hI : InD w a l) (k : ByteArray) (t : Int) (h0 : ¬ t < 0) (h1 : ¬ 4611686018427387904 < t) :
    Calls Try.prog 11 #[.slice a l.length c, .string k, .int .i64 t] w fun e w' => ∃ v, e = .returned (.tuple #[v, .int .i64 0]) ∧ RowD w w' v (putD k t l) := by
  have HD := Lib.hid (refDrop_calls w a c l (by omega) hI k)
  have HPut : Hid (putD k t l = insD (t, k) (dropD k l)) := Lib.hid rfl
  have HLn : Hid ((dropD k l).length ≤ 100000) := Lib.hid (Nat.le_trans (dropD_le k l) hn)
  clear hI
  generalize putD k t l = R at *
  generalize dropD k l = L at *
  go_enter Try.func11, Try.ntmps11
  go_wp2_with fail
  refine HD.out.mono ?_; rintro en w1 ⟨v1, rfl, hR1⟩
  have HB1 := Lib.hid hR1.bel
  obtain ⟨ra, rc, rfl, -, -, hI1⟩ := hR1.slice
  have HI := Lib.hid hI1
  have HR0 := Lib.hid (rowD_made w1)
  have hL := HLn.out
  clear hR1 hI1 HD
  go_wp2_with fail
  have HS0 : Hid (w.heap.size ≤ w1.heap.size) := Lib.hid HB1.out.size
  generalize w1.alloc (.cells #[] 26) = w2 at *
  generalize Value.slice (some ⟨w1.heap.size, 0, none⟩) 0 0 = v0 at *
  go_loopg [10, 11, 30] (L.length + 1) (fun g v10 vp vi wr => ∃ (j : Nat) (p : Bool) (out : List Du), vi = .int .i64 j ∧ vp = .bool p ∧ j ≤ L.length ∧ L.length - j ≤ g ∧ Hid (RowD w1 wr v10 out) ∧ Hid (Pls (t, k) L j p out))
  case atStart => exact ⟨0, false, [], rfl, rfl, Nat.zero_le _, by omega, HR0, Lib.hid ⟨by simp, fun m hm h => absurd h (Nat.not_lt_zero _)⟩⟩
  case round =>
    obtain ⟨j, p, out, rfl, rfl, hj, hg, HR, HP⟩ := hrel
    clear HR0
    have hol := HP.out.len hj
    by_cases hjl : j < L.length
    case pos =>
      have hjc : (j : Int) < (L.length : Int) := by omega
      obtain ⟨b, o, rfl, hbl, hat⟩ := HI.out.below (Nat.le_refl _) HR.out.bel (by omega)
      obtain ⟨e0, e1⟩ := hat j hjl
      have HGo : Hid (p = true → Pls (t, k) L (j + 1) true (out ++ [(L[j].1, L[j].2)])) := Lib.hid fun hp => by subst hp; exact HP.out.go hjl
      have HSk : Hid (p = false → ltE (t, k) (L[j].1, L[j].2) = false → Pls (t, k) L (j + 1) false (out ++ [(L[j].1, L[j].2)])) := Lib.hid fun hp hl => by subst hp; exact HP.out.skip hjl hl
      have HHt : Hid (p = false → ltE (t, k) (L[j].1, L[j].2) = true → Pls (t, k) L (j + 1) true (out ++ [(t, k)] ++ [(L[j].1, L[j].2)])) := Lib.hid fun hp hl => by subst hp; exact HP.out.hit hjl hl
      clear hat HP
      generalize L[j].1 = z at *
      generalize L[j].2 = q at *
      have HR1 := Lib.hid (HR.out.box z q)
      have HOl : Hid (out.length ≤ 1000000) := Lib.hid (by omega)
      cases p with
      | true =>
        have HZ := Lib.hid (HGo.out rfl)
        clear HGo HSk HHt
        go_wp2_with (at_builtin; refine due_push HR1.out rfl _ _ rfl rfl (z, q) _ _ 1 rfl (by simp) rfl (Nat.le_trans HOl.out (Nat.le_of_ble_eq_true rfl)) ?_)
        intro v5 w5 hR5 hg5
        have HR5 := Lib.hid hR5
        clear hR5 hg5 e0 e1
        go_wp2_with fail
        go_roundg (gk - 1)
        case measure => omega
        case rel => exact ⟨j + 1, true, _, by go_num, rfl, by omega, by omega, HR5, HZ⟩
      | false =>
        cases hlt : ltE (t, k) (z, q) with
        | false =>
          have HZ := Lib.hid (HSk.out rfl hlt)
          have HC : Hid (¬ (t < z) ∧ (t = z → Op.bytesLess k.toList q.toList = false)) := Lib.hid (by
            have h := mt ltE_iff.2 (by rw [hlt]; decide)
            rw [not_or] at h
            refine ⟨h.1, fun e => ?_⟩
            cases hh : Op.bytesLess k.toList q.toList with
            | false => rfl
            | true => exact absurd ⟨e, hh⟩ h.2)
          clear HGo HSk HHt hlt
          have hc1 := HC.out.1
          by_cases hz : t = z
          case pos =>
            have hc2 := HC.out.2 hz
            have hzb : (t == z) = true := by rw [hz]; exact beq_self_eq_true _
            clear hz
            go_wp2_with (at_builtin; refine due_push HR1.out rfl _ _ rfl rfl (z, q) _ _ 1 rfl (by simp) rfl (Nat.le_trans HOl.out (Nat.le_of_ble_eq_true rfl)) ?_)
            intro v5 w5 hR5 hg5
            have HR5 := Lib.hid hR5
            clear hR5 hg5 e0 e1
            go_wp2_with fail
            go_roundg (gk - 1)
            case measure => omega
            case rel => exact ⟨j + 1, false, _, by go_num, rfl, by omega, by omega, HR5, HZ⟩
          case neg =>
            have hzb : (t == z) = false := by rw [beq_eq_false_iff_ne]; exact hz
            clear hz
            go_wp2_with (at_builtin; refine due_push HR1.out rfl _ _ rfl rfl (z, q) _ _ 1 rfl (by simp) rfl (Nat.le_trans HOl.out (Nat.le_of_ble_eq_true rfl)) ?_)
            intro v5 w5 hR5 hg5
            have HR5 := Lib.hid hR5
            clear hR5 hg5 e0 e1
            go_wp2_with fail
            go_roundg (gk - 1)
            case measure => omega
            case rel => exact ⟨j + 1, false, _, by go_num, rfl, by omega, by omega, HR5, HZ⟩
        | true =>
          have HZ := Lib.hid (HHt.out rfl hlt)
          have HC : Hid (t < z ∨ t = z ∧ Op.bytesLess k.toList q.toList = true) := Lib.hid (ltE_iff.1 hlt)
          clear HGo HSk HHt hlt
          by_cases hc1 : t < z
          case pos =>
            go_wp2_with (at_builtin; refine due_push HR1.out rfl _ _ rfl rfl (t, k) _ _ 1 rfl (by simp) rfl (Nat.le_trans HOl.out (Nat.le_of_ble_eq_true rfl)) ?_)
            intro v5 w5 hR5 hg5
            have x0 := box_after HR.out hg5 0
            have x1 := box_after HR.out hg5 1
            have HR5 := Lib.hid hR5
            have HO5 : Hid ((out ++ [(t, k)]).length ≤ 1000000) := Lib.hid (by simp; omega)
            clear hR5 hg5 e0 e1 HR1
            have x0 : w5.cell? ⟨wr.heap.size, 0, none⟩ = some (.int .i64 z) := x0
            have x1 : w5.cell? ⟨wr.heap.size, 0 + 1, none⟩ = some (.string q) := x1
            generalize wr.heap.size = N at *
            go_wp2_with (at_builtin; refine due_push HR5.out rfl _ _ rfl rfl (z, q) _ _ 1 rfl (by simp) rfl (Nat.le_trans HO5.out (Nat.le_of_ble_eq_true rfl)) ?_)
            intro v6 w6 hR6 hg6
            have HR6 := Lib.hid hR6
            clear hR6 hg6 x0 x1
            go_wp2_with fail
            go_roundg (gk - 1)
            case measure => omega
            case rel => exact ⟨j + 1, true, _, by go_num, rfl, by omega, by omega, HR6, Lib.hid (by have h := HZ.out; rw [List.append_assoc] at h; exact h)⟩
          case neg =>
            have hz := HC.out.resolve_left hc1
            have hc2 := hz.2
            have hzb : (t == z) = true := by rw [hz.1]; exact beq_self_eq_true _
            clear hz
            go_wp2_with (at_builtin; refine due_push HR1.out rfl _ _ rfl rfl (t, k) _ _ 1 rfl (by simp) rfl (Nat.le_trans HOl.out (Nat.le_of_ble_eq_true rfl)) ?_)
            intro v5 w5 hR5 hg5
            have x0 := box_after HR.out hg5 0
            have x1 := box_after HR.out hg5 1
            have HR5 := Lib.hid hR5
            have HO5 : Hid ((out ++ [(t, k)]).length ≤ 1000000) := Lib.hid (by simp; omega)
            clear hR5 hg5 e0 e1 HR1
            have x0 : w5.cell? ⟨wr.heap.size, 0, none⟩ = some (.int .i64 z) := x0
            have x1 : w5.cell? ⟨wr.heap.size, 0 + 1, none⟩ = some (.string q) := x1
            generalize wr.heap.size = N at *
            go_wp2_with (at_builtin; refine due_push HR5.out rfl _ _ rfl rfl (z, q) _ _ 1 rfl (by simp) rfl (Nat.le_trans HO5.out (Nat.le_of_ble_eq_true rfl)) ?_)
            intro v6 w6 hR6 hg6
            have HR6 := Lib.hid hR6
            clear hR6 hg6 x0 x1
            go_wp2_with fail
            go_roundg (gk - 1)
            case measure => omega
            case rel => exact ⟨j + 1, true, _, by go_num, rfl, by omega, by omega, HR6, Lib.hid (by have h := HZ.out; rw [List.append_assoc] at h; exact h)⟩
    case neg =>
      have hjc : ¬ ((j : Int) < (L.length : Int)) := by omega
      obtain rfl : j = L.length := by omega
      cases p with
      | true =>
        have HZ : Hid (out = R) := Lib.hid (HP.out.done.trans HPut.out.symm)
        go_wp2_with fail
        go_ret2
        exact ⟨_, rfl, by rw [← HZ.out]; exact HR.out.over HB1.out⟩
      | false =>
        have HZ : Hid (out ++ [(t, k)] = R) := Lib.hid (HP.out.last.trans HPut.out.symm)
        go_wp2_with (at_builtin; refine due_push HR.out rfl _ _ rfl rfl (t, k) _ _ 1 rfl (by simp) rfl (by omega) ?_)
        intro v5 w5 hR5 hg5
        have HR5 := Lib.hid hR5
        clear hR5 hg5
        go_wp2_with fail
        go_ret2
        exact ⟨_, rfl, by rw [← HZ.out]; exact HR5.out.over HB1.out⟩
end Go.Proofs.Ytabhnnffohnecaa.Ea
