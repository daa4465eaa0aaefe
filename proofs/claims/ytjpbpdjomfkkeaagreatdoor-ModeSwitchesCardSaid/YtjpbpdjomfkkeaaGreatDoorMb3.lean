/- Package mode: areRight. No condition but bounds. -/
import Derived.Test.YtjpbpdjomfkkeaaGreatDoorMb2
import Derived.BigQuiet
namespace Go.Proofs.YtjpbpdjomfkkeaaGreatDoor.Ma
set_option linter.unusedVariables false
set_option linter.unusedSimpArgs false
open Go.ChangeShapes Go.WideShapes Go.ChangeAt Go.RowKit
open Go.Proofs.YtjpbpdjomfkkeaaGreatDoor.Sp (bstep bbox)
theorem bf {b : Bool} {P : Prop} (h : b = true ↔ P) (k : ¬ P) : b = false := by
  cases b with
  | false => rfl
  | true => exact absurd (h.1 rfl) k
theorem bt {b : Bool} {P : Prop} (h : b = true ↔ P) (k : P) : b = true := h.2 k
theorem bdraw {w wr : World} (h : Below w.heap.size w wr) (O : Obj) (n : Nat) : Below w.heap.size w ((wr.alloc O).drewN n) := (bstep h (bbox (w := wr) O)).trans ⟨rfl, rfl, rfl, Nat.le_refl _, fun _ _ => rfl⟩
/-- A prefix that may stand where it stands. -/
def okAt (l : List BA) (i : Nat) (hi : i < l.length) : Prop := l[i].size ≤ 512 ∧ ∀ j (hj : j < l.length), j + 1 = i → Fol l[j] l[i]
set_option maxHeartbeats 8000000 in
set_option maxRecDepth 100000 in
theorem areRight_calls (w : World) (a : Option Addr) (c len : Nat) (l : List BA) (hlen : len = l.length) (hI : InS w a l) (b0 : Bool) (hb0 : b0 = true ↔ okPs l) :
    Calls Tryz.prog 27 #[.slice a len c] w fun e w' => e = .returned (.bool b0) ∧ Below w.heap.size w w' := by
  subst hlen
  have HI := Lib.hid hI
  have HB0 := Lib.hid hb0
  clear hI hb0
  by_cases hl : 32 < l.length
  · have hlc : (32 : Int) < (l.length : Int) := by omega
    obtain rfl := bf HB0.out (fun h => by have := h.1; omega)
    go_enter Tryz.func27, Tryz.ntmps27
    go_wp2_with fail
    go_ret
    exact ⟨rfl, Below.refl _ _⟩
  · have hlc : ¬ (32 : Int) < (l.length : Int) := by omega
    go_enter Tryz.func27, Tryz.ntmps27
    go_wp2_with fail
    go_loopg [3, 4, 10] (l.length + 1) (fun g _ _ vi wr => ∃ i : Nat, vi = .int .i64 i ∧ i ≤ l.length ∧ l.length - i ≤ g ∧ Hid (∀ j (h : j < l.length), j < i → okAt l j h) ∧ Hid (Below w.heap.size w wr))
    case atStart => exact ⟨0, rfl, by omega, by omega, Lib.hid (fun _ _ h => absurd h (Nat.not_lt_zero _)), Lib.hid (Below.refl _ _)⟩
    case round =>
      obtain ⟨i, rfl, hi, hg, HK, HB⟩ := hrel
      by_cases hil : i < l.length
      case neg =>
        have hic : ¬ ((i : Int) < (l.length : Int)) := by omega
        obtain rfl := bt HB0.out ⟨by omega, (fun j hj => HK.out j hj (by omega))⟩
        go_wp2_with fail
        go_ret
        exact ⟨rfl, HB.out⟩
      case pos =>
        have hic : (i : Int) < (l.length : Int) := by omega
        obtain ⟨b, o, rfl, hlt, hc⟩ := HI.out (by omega)
        have e : ∀ j, wr.cell? ⟨b, j, none⟩ = w.cell? ⟨b, j, none⟩ := fun j => HB.out.cell (p := ⟨b, j, none⟩) hlt
        have HKn : Hid (okAt l i hil → ∀ j (h : j < l.length), j < i + 1 → okAt l j h) := Lib.hid (fun k1 j h hj => by
          by_cases hji : j = i
          · subst hji; exact k1
          · exact HK.out j h (by omega))
        have HNo : Hid (¬ okAt l i hil → b0 = false) := Lib.hid (fun h1 => bf HB0.out (fun h2 => h1 (h2.2 i hil)))
        have c0 := hc i hil
        rw [← e] at c0
        by_cases hs : 512 < l[i].size
        · obtain rfl := HNo.out (fun h => by have := h.1; omega)
          clear HKn HNo hc e hlt HK
          generalize l[i] = q at *
          have hsc : (512 : Int) < (q.size : Int) := by omega
          go_wp2_with fail
          go_ret
          exact ⟨rfl, HB.out⟩
        · cases i with
          | zero =>
            have HK2 := Lib.hid (HKn.out ⟨by omega, fun p hp hq => by omega⟩)
            have c0 : wr.cell? ⟨b, o, none⟩ = some (.string l[0]) := c0
            clear HKn HNo hc e hlt HK
            generalize l[0] = q at *
            have hsc : ¬ (512 : Int) < (q.size : Int) := by omega
            go_wp2_with fail
            go_roundg (gk - 1)
            case measure => omega
            case rel => exact ⟨1, by go_num, by omega, by omega, HK2, HB⟩
          | succ p =>
            have d0 := hc p (by omega)
            rw [← e] at d0
            have hwr : IntKind.i64.wrap (p : Int) = (p : Int) := by rw [IntKind.wrap_i64]; omega
            have hp1 : 0 ≤ (p : Int) ∧ (p : Int) < (l.length : Int) := by omega
            have hp0 : (0 : Int) < (p : Int) + 1 := by omega
            have HF := Lib.hid (fun W => follows_calls W l[p] l[p + 1] _ rfl)
            have HFi := Lib.hid (folB_iff l[p] l[p + 1])
            cases hf : folB l[p] l[p + 1] with
            | true =>
              rw [hf] at HF HFi
              have HK2 := Lib.hid (HKn.out ⟨by omega, fun q hq hq2 => by
                obtain rfl : q = p := by omega
                exact HFi.out.1 rfl⟩)
              clear HKn HNo hc e hlt HK HFi hf
              generalize l[p + 1] = q at *
              generalize l[p] = r at *
              have hsc : ¬ (512 : Int) < (q.size : Int) := by omega
              go_wp2_with fail
              refine (HF.out _).mono ?_
              rintro e w2 ⟨rfl, rfl⟩
              go_wp2_with fail
              go_roundg (gk - 1)
              case measure => omega
              case rel => exact ⟨p + 2, by go_num, by omega, by omega, HK2, HB⟩
            | false =>
              rw [hf] at HF HFi
              obtain rfl := HNo.out (fun h => by have := HFi.out.2 (h.2 p (by omega) rfl); cases this)
              clear HKn HNo hc e hlt HK HFi hf
              generalize l[p + 1] = q at *
              generalize l[p] = r at *
              have hsc : ¬ (512 : Int) < (q.size : Int) := by omega
              go_wp2_with fail
              refine (HF.out _).mono ?_
              rintro e w2 ⟨rfl, rfl⟩
              go_wp2_with fail
              go_ret
              exact ⟨rfl, HB.out⟩
end Go.Proofs.YtjpbpdjomfkkeaaGreatDoor.Ma
