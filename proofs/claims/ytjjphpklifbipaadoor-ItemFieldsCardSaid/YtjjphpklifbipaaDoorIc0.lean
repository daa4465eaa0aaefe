/- The statements' great. No condition. -/
import Derived.Test.YtjjphpklifbipaaDoorIb1
namespace Go.Proofs.YtjjphpklifbipaaDoor.Ia
open Go.ChangeShapes Go.WideShapes Go.ChangeAt Go.RowKit
/-- An item that is looked at. -/
def okI (i : It) : Prop := i.l.length ≤ 300 ∧ i.t.size ≤ 5000 ∧ ∀ j (h : j < i.l.length), i.l[j].1.size ≤ 600 ∧ i.l[j].2.size ≤ 5000
set_option maxHeartbeats 8000000 in
set_option maxRecDepth 100000 in
theorem great_calls (w : World) (k : Int) (t : ByteArray) (a : Option Addr) (c len : Nat) (l : List Fd) (hlen : len = l.length) (hI : InF w a l) :
    Calls Tryd.prog 9 #[.agg #[.int .i64 k, .string t, .slice a len c]] w fun e w' => (e = .returned (.bool true) ∨ (e = .returned (.bool false) ∧ okI ⟨k, t, l⟩)) ∧ Below w.heap.size w w' := by
  subst hlen
  have HI := Lib.hid hI
  clear hI
  go_enter Tryd.func9, Tryd.ntmps9
  by_cases hl : 300 < l.length
  · have hlc : (300 : Int) < (l.length : Int) := by omega
    go_wp2_with fail
    go_ret
    exact ⟨.inl rfl, bbox _⟩
  · have hlc : ¬ (300 : Int) < (l.length : Int) := by omega
    by_cases ht : 5000 < t.size
    · have htc : (5000 : Int) < (t.size : Int) := by omega
      go_wp2_with fail
      go_ret
      exact ⟨.inl rfl, bbox _⟩
    · have htc : ¬ (5000 : Int) < (t.size : Int) := by omega
      go_wp2_with fail
      go_loopg [4, 18] (l.length + 1) (fun g _ vi wr => ∃ i : Nat, vi = .int .i64 i ∧ i ≤ l.length ∧ l.length - i ≤ g ∧ Hid (∀ j (h : j < l.length), j < i → l[j].1.size ≤ 600 ∧ l[j].2.size ≤ 5000) ∧ Hid (Below w.heap.size w wr))
      case atStart => exact ⟨0, rfl, by omega, by omega, Lib.hid (fun _ _ h => absurd h (Nat.not_lt_zero _)), Lib.hid (bbox _)⟩
      case round =>
        obtain ⟨i, rfl, hi, hg, HK, HB⟩ := hrel
        by_cases hil : i < l.length
        case neg =>
          have hic : ¬ ((i : Int) < (l.length : Int)) := by omega
          go_wp2_with fail
          go_ret
          exact ⟨.inr ⟨rfl, by show l.length ≤ 300; omega, by show t.size ≤ 5000; omega, fun j hj => HK.out j hj (by have : j < l.length := hj; omega)⟩, HB.out⟩
        case pos =>
          have hic : (i : Int) < (l.length : Int) := by omega
          obtain ⟨b, o, rfl, hlt, hc⟩ := HI.out (by omega)
          obtain ⟨c0, c1⟩ := hc i hil
          have e : ∀ j, wr.cell? ⟨b, j, none⟩ = w.cell? ⟨b, j, none⟩ := fun j => HB.out.cell (p := ⟨b, j, none⟩) hlt
          rw [← e] at c0 c1
          have HB2 := Lib.hid (fun O => bstep HB.out (bbox (w := wr) O))
          have HKn : Hid (l[i].1.size ≤ 600 → l[i].2.size ≤ 5000 → ∀ j (h : j < l.length), j < i + 1 → l[j].1.size ≤ 600 ∧ l[j].2.size ≤ 5000) := Lib.hid (fun k1 k2 j h hj => by
            by_cases hji : j = i
            · subst hji; exact ⟨k1, k2⟩
            · exact HK.out j h (by omega))
          clear hc e hlt HK
          generalize l[i] = q at *
          obtain ⟨x, y⟩ := q
          have c0 : wr.cell? ⟨b, o + i * 2, none⟩ = some (.string x) := c0
          have c1 : wr.cell? ⟨b, o + i * 2 + 1, none⟩ = some (.string y) := c1
          by_cases hx : x.size ≤ 600
          · have hxc : ¬ (600 : Int) < (x.size : Int) := by omega
            by_cases hy : y.size ≤ 5000
            · have hyc : ¬ (5000 : Int) < (y.size : Int) := by omega
              have HK2 := Lib.hid (HKn.out hx hy)
              clear HKn
              go_wp2_with fail
              go_roundg (gk - 1)
              case measure => omega
              case rel => exact ⟨i + 1, by go_num, by omega, by omega, HK2, Lib.hid (HB2.out _)⟩
            · have hyc : (5000 : Int) < (y.size : Int) := by omega
              go_wp2_with fail
              go_ret
              exact ⟨.inl rfl, HB2.out _⟩
          · have hxc : (600 : Int) < (x.size : Int) := by omega
            go_wp2_with fail
            go_ret
            exact ⟨.inl rfl, HB2.out _⟩
end Go.Proofs.YtjjphpklifbipaaDoor.Ia
