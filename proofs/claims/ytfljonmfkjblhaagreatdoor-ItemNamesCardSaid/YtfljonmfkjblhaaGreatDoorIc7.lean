/- item.Cost, the checking package's Cost. Conditions: the three library variables hold what start-up lays; bounds. -/
import Derived.Test.YtfljonmfkjblhaaGreatDoorIb1
import Derived.Test.YtfljonmfkjblhaaGreatDoorParse
import Derived.Test.YtfljonmfkjblhaaGreatDoorSums
import Derived.Test.YtfljonmfkjblhaaGreatDoorLrp
namespace Go.Proofs.YtfljonmfkjblhaaGreatDoor.Ia
open Go.ChangeShapes Go.WideShapes Go.ChangeAt Go.RowKit
def sumC (l : List Fd) : Nat := (l.map fun f => 16 + f.1.size + f.2.size).sum
theorem sumC_take {l : List Fd} {j : Nat} (hj : j < l.length) : sumC (l.take (j + 1)) = sumC (l.take j) + (16 + l[j].1.size + l[j].2.size) := by
  unfold sumC
  rw [← List.take_append_getElem hj, List.map_append, List.sum_append]
  simp
theorem sumC_le (l : List Fd) (j : Nat) : sumC (l.take j) ≤ sumC l := by
  have h : sumC l = sumC (l.take j) + sumC (l.drop j) := by
    conv => lhs; rw [← List.take_append_drop j l]
    unfold sumC
    rw [List.map_append, List.sum_append]
  omega
theorem sumC_app (l r : List Fd) : sumC (l ++ r) = sumC l + sumC r := by unfold sumC; rw [List.map_append, List.sum_append]
theorem sumC_bound (l : List Fd) (h : ∀ j (hj : j < l.length), l[j].1.size ≤ 600 ∧ l[j].2.size ≤ 5000) : sumC l ≤ 5616 * l.length := by
  induction l with
  | nil => simp [sumC]
  | cons f l ih =>
    have h0 := h 0 (by simp)
    have h1 := ih (fun j hj => h (j + 1) (by simpa using hj))
    have e : sumC (f :: l) = (16 + f.1.size + f.2.size) + sumC l := by simp [sumC]
    simp only [List.getElem_cons_zero] at h0
    rw [e, List.length_cons]
    omega
/-- What a text counts. -/
def textC (t : ByteArray) : Nat := if (Num.wp t.data.toList).2 = 0 then 8 else t.size
theorem textC_way (t : ByteArray) : ∃ a b, Num.wp t.data.toList = (a, b) ∧ ((b = 0 ∧ textC t = 8) ∨ (b = 11 ∧ textC t = t.size)) := by
  rcases Num.wp_cases t.data.toList with ⟨v, -, -, -, h⟩ | ⟨-, h⟩
  · exact ⟨v, 0, h, .inl ⟨rfl, by unfold textC; rw [h]; rfl⟩⟩
  · exact ⟨0, 11, h, .inr ⟨rfl, by unfold textC; rw [h]; rfl⟩⟩
set_option maxHeartbeats 4000000 in
theorem textCost_calls (w : World) (hc : Ctx w) (t : ByteArray) (ht : t.size ≤ 100000) :
    Calls Tryz.prog 20 #[.string t] w fun e w' => e = .returned (.int .i64 (textC t)) ∧ Below w.heap.size w w' := by
  obtain ⟨a, b, hw, h | h⟩ := textC_way t
  all_goals
    obtain ⟨rfl, hC⟩ := h
    have HC := Lib.hid hC
    have HP := Lib.hid (Parse_calls t (by omega) w hc a _ hw)
    clear hC hw hc
    go_enter Tryz.func20, Tryz.ntmps20
    go_wp2_with fail
    refine HP.out.mono ?_
    rintro e w2 ⟨rfl, hb⟩
    have HB := Lib.hid hb
    clear hb
    go_wp2_with fail
    go_ret
    exact ⟨by rw [HC.out]; rfl, HB.out⟩
set_option maxHeartbeats 4000000 in
theorem cost_text (w : World) (hc : Ctx w) (key t : ByteArray) (v : Value) (hk : key.size ≤ 100000) (ht : t.size ≤ 100000) :
    Calls Tryz.prog 9 #[.string key, .agg #[.int .i64 1, .string t, v]] w fun e w' => e = .returned (.int .i64 ((48 + key.size + textC t : Nat) : Int)) ∧ Below w.heap.size w w' := by
  have HT := Lib.hid (fun O => textCost_calls (w.alloc O) (hc.below (bbox O)) t ht)
  have hb8 : textC t ≤ 100008 := by unfold textC; split <;> omega
  generalize textC t = x at *
  clear hc
  go_enter Tryz.func9, Tryz.ntmps9
  go_wp2_with fail
  refine (HT.out _).mono ?_
  rintro e w2 ⟨rfl, hb⟩
  have HB := Lib.hid (bstep (bbox _) hb)
  clear hb
  go_wp2_with fail
  go_ret
  exact ⟨by congr 2 <;> (push_cast; omega), HB.out⟩
set_option maxHeartbeats 4000000 in
theorem cost_none (w : World) (key t : ByteArray) (v : Value) (hk : key.size ≤ 100000) :
    Calls Tryz.prog 9 #[.string key, .agg #[.int .i64 0, .string t, v]] w fun e w' => e = .returned (.int .i64 ((48 + key.size : Nat) : Int)) ∧ Below w.heap.size w w' := by
  go_enter Tryz.func9, Tryz.ntmps9
  go_wp2_with fail
  go_ret
  exact ⟨by congr 2 <;> (push_cast; omega), bbox _⟩
set_option maxHeartbeats 8000000 in
set_option maxRecDepth 100000 in
theorem cost_hash (w : World) (key t : ByteArray) (a : Option Addr) (c len : Nat) (l : List Fd) (hlen : len = l.length) (hk : key.size ≤ 100000) (hs : sumC l ≤ 100000000) (hl : l.length ≤ 1000000) (hI : InF w a l) :
    Calls Tryz.prog 9 #[.string key, .agg #[.int .i64 2, .string t, .slice a len c]] w fun e w' => e = .returned (.int .i64 ((48 + key.size + sumC l : Nat) : Int)) ∧ Below w.heap.size w w' := by
  subst hlen
  have HI := Lib.hid hI
  have HSm := Lib.hid hs
  clear hI hs
  go_enter Tryz.func9, Tryz.ntmps9
  go_wp2_with fail
  go_loopg [5, 7, 25] (l.length + 1) (fun g cv _ vi wr => ∃ j s : Nat, vi = .int .i64 j ∧ cv = .int .i64 s ∧ j ≤ l.length ∧ l.length - j ≤ g ∧ s ≤ 100100048 ∧ Hid (s = 48 + key.size + sumC (l.take j)) ∧ Hid (Below w.heap.size w wr))
  case atStart => exact ⟨0, 48 + key.size, rfl, by go_num, by omega, by omega, by omega, Lib.hid (by simp [sumC]), Lib.hid (bbox _)⟩
  case round =>
    obtain ⟨j, s, rfl, rfl, hj, hg, hs9, HS, HB⟩ := hrel
    by_cases hjl : j < l.length
    case neg =>
      have hjc : ¬ ((j : Int) < (l.length : Int)) := by omega
      obtain rfl : j = l.length := by omega
      go_wp2_with fail
      go_ret
      have h := HS.out
      rw [List.take_length] at h
      refine ⟨?_, HB.out⟩
      show Ending.returned (.int .i64 (s : Int)) = _
      rw [h]
      first | rfl | (congr 2; push_cast; omega)
    case pos =>
      have hjc : (j : Int) < (l.length : Int) := by omega
      obtain ⟨b, o, rfl, hlt, hcs⟩ := HI.out (by omega)
      obtain ⟨c0, c1⟩ := hcs j hjl
      have e : ∀ j, wr.cell? ⟨b, j, none⟩ = w.cell? ⟨b, j, none⟩ := fun j => HB.out.cell (p := ⟨b, j, none⟩) hlt
      rw [← e] at c0 c1
      have HB2 := Lib.hid (fun O => bstep HB.out (bbox (w := wr) O))
      have HT := Lib.hid (sumC_take hjl)
      have hb9 : s + (16 + l[j].1.size + l[j].2.size) ≤ 100100048 := by
        have h1 := sumC_take hjl
        have h2 := sumC_le l (j + 1)
        have h3 := HSm.out
        have h4 := HS.out
        omega
      clear hcs e hlt
      generalize l[j] = q at *
      obtain ⟨x, y⟩ := q
      have c0 : wr.cell? ⟨b, o + j * 2, none⟩ = some (.string x) := c0
      have c1 : wr.cell? ⟨b, o + j * 2 + 1, none⟩ = some (.string y) := c1
      have hb9 : s + (16 + x.size + y.size) ≤ 100100048 := hb9
      have HS2 : Hid (s + (16 + x.size + y.size) = 48 + key.size + sumC (l.take (j + 1))) := Lib.hid (by rw [HT.out, HS.out]; show _ = 48 + key.size + (sumC (l.take j) + (16 + x.size + y.size)); omega)
      go_wp2_with fail
      go_roundg (gk - 1)
      case measure => omega
      case rel => exact ⟨j + 1, s + (16 + x.size + y.size), by go_num, by congr 1, by omega, by omega, by omega, HS2, Lib.hid (HB2.out _)⟩
end Go.Proofs.YtfljonmfkjblhaaGreatDoor.Ia
