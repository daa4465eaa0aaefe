/- Acts that came in; the statements' great. No condition. -/
import Derived.Test.YtpbblijnfigapaaTag
namespace Go.Proofs.Ytpbblijnfigapaa.Ta
open Go.ChangeShapes Go.WideShapes Go.ChangeAt Go.RowKit
/-- An act: its kind, its key, its number. -/
structure Ac where
  k : Int
  s : ByteArray
  n : Int
/-- Acts as they lie. -/
def InA (W : World) (a : Option Addr) (l : List Ac) : Prop := 0 < l.length → ∃ b o, a = some ⟨b, o, none⟩ ∧ b < W.heap.size ∧ ∀ i (h : i < l.length), W.cell? ⟨b, o + i * 3, none⟩ = some (.int .i64 l[i].k) ∧ W.cell? ⟨b, o + i * 3 + 1, none⟩ = some (.string l[i].s) ∧ W.cell? ⟨b, o + i * 3 + 2, none⟩ = some (.int .i64 l[i].n)
theorem InA.below {B : Nat} {w w' : World} {a : Option Addr} {l : List Ac} (h : InA w a l) (hB : w.heap.size ≤ B) (hb : Below B w w') : InA w' a l := fun hp => by
  obtain ⟨b, o, rfl, hlt, hc⟩ := h hp
  refine ⟨b, o, rfl, Nat.lt_of_lt_of_le hlt hb.size, fun i hi => ?_⟩
  have e : ∀ j, w'.cell? ⟨b, j, none⟩ = w.cell? ⟨b, j, none⟩ := fun j => hb.cell (p := ⟨b, j, none⟩) (Nat.lt_of_lt_of_le hlt hB)
  rw [e, e, e]
  exact hc i hi
/-- Acts that are looked at. -/
def okA (l : List Ac) : Prop := l.length ≤ 150 ∧ ∀ i (h : i < l.length), l[i].s.size ≤ 100
set_option maxHeartbeats 4000000 in
set_option maxRecDepth 100000 in
theorem great_calls (w : World) (a : Option Addr) (c : Nat) (l : List Ac) (hI : InA w a l) :
    Calls Try.prog 8 #[.slice a l.length c] w fun e w' => (e = .returned (.bool true) ∨ (e = .returned (.bool false) ∧ okA l)) ∧ Below w.heap.size w w' := by
  have HI := Lib.hid hI
  clear hI
  go_enter Try.func8, Try.ntmps8
  by_cases hl : 150 < l.length
  · have hlc : (150 : Int) < (l.length : Int) := by omega
    go_wp2_with fail
    go_ret
    exact ⟨.inl rfl, Below.refl _ _⟩
  · have hlc : ¬ (150 : Int) < (l.length : Int) := by omega
    go_wp2_with fail
    go_loopg [4, 10] (l.length + 1) (fun g _ vi wr => ∃ i : Nat, vi = .int .i64 i ∧ i ≤ l.length ∧ l.length - i ≤ g ∧ Hid (∀ j (h : j < l.length), j < i → l[j].s.size ≤ 100) ∧ Hid (Below w.heap.size w wr))
    case atStart => exact ⟨0, rfl, by omega, by omega, Lib.hid (fun _ _ h => absurd h (Nat.not_lt_zero _)), Lib.hid (Below.refl _ _)⟩
    case round =>
      obtain ⟨i, rfl, hi, hg, HK, HB⟩ := hrel
      by_cases hil : i < l.length
      case neg =>
        have hic : ¬ ((i : Int) < (l.length : Int)) := by omega
        go_wp2_with fail
        go_ret
        exact ⟨.inr ⟨rfl, by omega, fun j hj => HK.out j hj (by omega)⟩, HB.out⟩
      case pos =>
        have hic : (i : Int) < (l.length : Int) := by omega
        obtain ⟨b, o, rfl, hlt, hc⟩ := HI.out (by omega)
        obtain ⟨c0, c1, c2⟩ := hc i hil
        have e : ∀ j, wr.cell? ⟨b, j, none⟩ = w.cell? ⟨b, j, none⟩ := fun j => HB.out.cell (p := ⟨b, j, none⟩) hlt
        rw [← e] at c0 c1 c2
        have HB2 : ∀ O, Hid (Below w.heap.size w (wr.alloc O)) := fun O => Lib.hid (HB.out.alloc HB.out.size O)
        have HB3 := Lib.hid HB2
        clear hc e HB2 hlt
        generalize hqe : l[i] = q at *
        by_cases hk : q.s.size ≤ 100
        · have hkc : ¬ (100 : Int) < (q.s.size : Int) := by omega
          have HKn : Hid (∀ j (h : j < l.length), j < i + 1 → l[j].s.size ≤ 100) := Lib.hid (fun j h hj => by
            by_cases hji : j = i
            · subst hji; rw [hqe]; exact hk
            · exact HK.out j h (by omega))
          clear hqe
          go_wp2_with fail
          go_roundg (gk - 1)
          case measure => omega
          case rel => exact ⟨i + 1, by go_num, by omega, by omega, HKn, HB3.out _⟩
        · have hkc : (100 : Int) < (q.s.size : Int) := by omega
          clear hqe
          go_wp2_with fail
          go_ret
          exact ⟨.inl rfl, (HB3.out _).out⟩
end Go.Proofs.Ytpbblijnfigapaa.Ta
