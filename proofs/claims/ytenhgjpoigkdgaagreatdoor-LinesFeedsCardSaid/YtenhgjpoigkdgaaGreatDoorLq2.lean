/- Package lines' isPlain; append of a text. No condition but bounds. -/
import Derived.Test.YtenhgjpoigkdgaaGreatDoorLq1
import Derived.Lib.AppendStr
namespace Go.Proofs.YtenhgjpoigkdgaaGreatDoor.Ln
open Go.ChangeShapes Go.WideShapes Go.ChangeAt Go.RowKit

theorem buf_pushS {wb w : World} {v : Value} {l : List UInt8} {ops : Array Oper} {rest : List Oper} {o : Oper} {a : Act} {Q : Exit → Act → World → Prop} (hO : BufB wb w v l) (hgd : o.guard = none) (s x : Operand)
    (ho : o.op = .call { callee := .builtin .append, args := #[s, x], argTypes := #[22, 9] }) (hs : a.eval s = v) (t : ByteArray)
    (hx : a.eval x = .string t) (hl : l.length + t.size ≤ 100000000000)
    (h : ∀ v' w', BufB wb w' v' (l ++ t.data.toList) → wpList Tryz.prog ops Q rest (a.put o.dst v') w') : wpList Tryz.prog ops Q (o :: rest) a w := by
  obtain ⟨i0, hi, hz0, hz1, hz2⟩ := info_parts i5
  have hsz := hO.size
  have hcl := cellsB_len l
  have hr0 := hO.row
  rw [hcl] at hr0
  refine Lib.wpList_append_own_string w hgd s x _ _ ho wb.heap.size 5 i0 Tryz.underlying22 Tryz.underlying9 hi hz0 hz1 hz2 v l.length (cellsB l) hs hr0 t hx (by unfold maxLen; omega) (by omega) hsz ?_
  intro v' w' r1 r2 _
  refine h v' w' (hO.grown ?_ r2)
  rw [cellsB_len, List.length_append, cellsB_app, len_of]
  exact r1
set_option maxHeartbeats 8000000 in
set_option maxRecDepth 1000000 in
theorem isPlain_calls (w : World) (s : ByteArray) (hs : s.size ≤ 100000) (b : Bool) (hb : (!s.data.toList.isEmpty && s.data.toList.all Lw.plainC) = b) :
    Calls Tryz.prog 20 #[.string s] w fun e w' => e = .returned (.bool b) ∧ w' = w := by
  have HZ := Lib.hid hb
  clear hb
  go_enter Tryz.func20, Tryz.ntmps20
  go_wp2_with fail
  go_loopw [3, 4, 7] (fun _ _ vi wr => ∃ k : Nat, vi = .int .i64 k ∧ k ≤ s.size ∧ (s.data.toList.take k).all Lw.plainC = true ∧ wr = w) (fun _ _ vi _ => s.size - (intOf vi).toNat)
  case atStart => exact ⟨0, rfl, by omega, rfl, rfl⟩
  case round =>
    obtain ⟨k, rfl, hk, hall, rfl⟩ := hrel
    have HA := Lib.hid hall
    clear hall
    by_cases hlt : k < s.size
    · have HTS := Lib.hid (take_snoc s k hlt)
      have Hbad : Hid (∀ c, s[k] = c → Lw.plainC c = false → false = b) := Lib.hid fun c e h => by
        rw [← HZ.out]
        symm
        have : s.data.toList.all Lw.plainC = false := by
          rw [List.all_eq_false]
          exact ⟨s[k], List.getElem_mem (l := s.data.toList) (n := k) (by rw [len_of]; exact hlt), by rw [e, h]; decide⟩
        rw [this, Bool.and_false]
      have Hgood : Hid (Lw.plainC s[k] = true → (s.data.toList.take (k + 1)).all Lw.plainC = true) := Lib.hid fun h => by
        rw [HTS.out, List.all_append, HA.out, Bool.true_and, List.all_cons, h]; rfl
      have c256 : (s[k].toNat : Int) < 256 := by have := UInt8.toNat_lt s[k]; omega
      have bad : ∀ q : Bool, Lw.plainC s[k] = q → (q = false) → false = b := fun q h1 h2 => Hbad.out _ rfl (h1.trans h2)
      have HB := Lib.hid bad
      clear bad
      by_cases h32 : (s[k].toNat : Int) < 33
      case pos =>
        have hp : Lw.plainC s[k] = false := by unfold Lw.plainC; rw [show decide (33 ≤ s[k].toNat ∧ s[k].toNat ≤ 126) = false from decide_eq_false (by omega)]; rfl
        have hR := Lib.hid (HB.out _ hp rfl)
        go_wp2_with fail
        go_ret
        exact ⟨congrArg (fun b => Ending.returned (.bool b)) hR.out, rfl⟩
      by_cases h126 : (126 : Int) < (s[k].toNat : Int)
      case pos =>
        have hp : Lw.plainC s[k] = false := by unfold Lw.plainC; rw [show decide (33 ≤ s[k].toNat ∧ s[k].toNat ≤ 126) = false from decide_eq_false (by omega)]; rfl
        have hR := Lib.hid (HB.out _ hp rfl)
        go_wp2_with fail
        go_ret
        exact ⟨congrArg (fun b => Ending.returned (.bool b)) hR.out, rfl⟩
      have toC : ∀ n : Nat, n < 256 → ((s[k].toNat : Int) == (n : Int)) = true → s[k] = UInt8.ofNat n := by
        intro n hn h
        have : s[k].toNat = n := by have := eq_of_beq h; omega
        rw [← this, UInt8.ofNat_toNat]
      have noC : ∀ n : Nat, n < 256 → ((s[k].toNat : Int) == (n : Int)) = false → (s[k] == UInt8.ofNat n) = false := by
        intro n hn h
        rw [beq_eq_false_iff_ne]
        intro h'
        rw [h', UInt8.toNat_ofNat_of_lt' hn] at h
        simp at h
      cases e34 : ((s[k].toNat : Int) == 34)
      case true =>
        have hp : Lw.plainC s[k] = false := by rw [toC 34 (by omega) e34]; decide
        have hR := Lib.hid (HB.out _ hp rfl)
        clear toC noC
        go_wp2_with fail
        go_ret
        exact ⟨congrArg (fun b => Ending.returned (.bool b)) hR.out, rfl⟩
      cases e39 : ((s[k].toNat : Int) == 39)
      case true =>
        have hp : Lw.plainC s[k] = false := by rw [toC 39 (by omega) e39]; decide
        have hR := Lib.hid (HB.out _ hp rfl)
        clear toC noC
        go_wp2_with fail
        go_ret
        exact ⟨congrArg (fun b => Ending.returned (.bool b)) hR.out, rfl⟩
      cases e92 : ((s[k].toNat : Int) == 92)
      case true =>
        have hp : Lw.plainC s[k] = false := by rw [toC 92 (by omega) e92]; decide
        have hR := Lib.hid (HB.out _ hp rfl)
        clear toC noC
        go_wp2_with fail
        go_ret
        exact ⟨congrArg (fun b => Ending.returned (.bool b)) hR.out, rfl⟩
      have hp : Lw.plainC s[k] = true := by
        have h1 := noC 34 (by omega) e34
        have h2 := noC 39 (by omega) e39
        have h3 := noC 92 (by omega) e92
        unfold Lw.plainC
        rw [show decide (33 ≤ s[k].toNat ∧ s[k].toNat ≤ 126) = true from decide_eq_true (by omega)]
        show (true && !(s[k] == UInt8.ofNat 34) && !(s[k] == UInt8.ofNat 39) && !(s[k] == UInt8.ofNat 92)) = true
        rw [h1, h2, h3]; rfl
      have hR := Lib.hid (Hgood.out hp)
      clear toC noC
      go_wp2_with fail
      go_roundw
      case rel => exact ⟨k + 1, by go_num, by omega, by first | exact hR.out | (simpa using hR.out), by first | rfl | trivial⟩
      case measure => simp [intOf]; omega
    · obtain rfl : k = s.size := by omega
      have hA := HA.out
      rw [List.take_of_length_le (by rw [len_of]; omega)] at hA
      have hR : Hid ((!s.toList.isEmpty) = b) := Lib.hid (by rw [← HZ.out, hA, Bool.and_true, ByteArray.toList_eq])
      clear hA
      go_wp2_with fail
      go_ret
      exact ⟨congrArg (fun b => Ending.returned (.bool b)) hR.out, rfl⟩
end Go.Proofs.YtenhgjpoigkdgaaGreatDoor.Ln
