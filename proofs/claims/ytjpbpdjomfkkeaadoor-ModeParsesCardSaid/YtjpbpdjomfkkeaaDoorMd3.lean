/- The document's 'is' of layer 13: a word in great or small letters. No condition but bounds. -/
import Derived.Test.YtjpbpdjomfkkeaaDoorMb6
import Derived.IntWalk
import Derived.Deep.DeepCutAuto
namespace Go.Proofs.YtjpbpdjomfkkeaaDoor.Ma
set_option linter.unusedVariables false
set_option linter.unusedSimpArgs false
open Go.ChangeShapes Go.WideShapes Go.ChangeAt Go.RowKit
open Go.Proofs.YtjpbpdjomfkkeaaDoor.Sp (bstep bbox)
theorem w8 (n : Int) (h0 : 0 ≤ n) (h1 : n < 256) : IntKind.u8.wrap n = n := by
  simp [IntKind.wrap, IntKind.bits, IntKind.signed]
  omega
theorem upc_nat (x : UInt8) : ((upc x).toNat : Int) = if 97 ≤ (x.toNat : Int) ∧ (x.toNat : Int) ≤ 122 then (x.toNat : Int) - 32 else (x.toNat : Int) := by
  unfold upc
  by_cases h : 97 ≤ x.toNat ∧ x.toNat ≤ 122
  · rw [if_pos h, if_pos (by omega)]
    have : (UInt8.ofNat (x.toNat - 32)).toNat = x.toNat - 32 := by have := UInt8.toNat_lt x; simp; omega
    rw [this]; omega
  · rw [if_neg h, if_neg (by omega)]
set_option maxHeartbeats 8000000 in
set_option maxRecDepth 100000 in
theorem refIs_calls (w : World) (s T : BA) (hs : s.size ≤ 1000000) (hT : T.size ≤ 1000000) (b0 : Bool) (hb0 : b0 = true ↔ s.size = T.size ∧ ∀ i (h : i < s.size) (h' : i < T.size), upc s[i] = T[i]) :
    Calls Tryd.prog 24 #[.string s, .string T] w fun e w' => e = .returned (.bool b0) ∧ w = w' := by
  have HB := Lib.hid hb0
  clear hb0
  by_cases hn : s.size = T.size
  case neg =>
    have hnc : ((s.size : Int) == (T.size : Int)) = false := by rw [beq_eq_false_iff_ne]; omega
    have hnd : ¬ (s.size : Int) = (T.size : Int) := by omega
    obtain rfl : b0 = false := by
      cases b0 with
      | false => rfl
      | true => exact absurd (HB.out.1 rfl).1 hn
    go_enter Tryd.func24, Tryd.ntmps24
    go_wp2_with fail
    go_ret
    exact ⟨rfl, rfl⟩
  case pos =>
    have HN := Lib.hid hn
    have hnc : ((s.size : Int) == (T.size : Int)) = true := by rw [hn]; exact beq_self_eq_true _
    have hnd : (s.size : Int) = (T.size : Int) := by omega
    go_enter Tryd.func24, Tryd.ntmps24
    go_wp2_with fail
    go_loopg [5, 6] (s.size + 1) (fun g s5 _ wr => ∃ j : Nat, s5 = .int .i64 j ∧ j ≤ s.size ∧ s.size - j ≤ g ∧ wr = w ∧ Hid (∀ i (h : i < s.size) (h' : i < T.size), i < j → upc s[i] = T[i]))
    case atStart => exact ⟨0, rfl, by omega, by omega, rfl, Lib.hid (fun _ _ _ h => absurd h (Nat.not_lt_zero _))⟩
    case round =>
      obtain ⟨j, rfl, hj, hg, rfl, HK⟩ := hrel
      by_cases hjl : j < s.size
      case neg =>
        have hjc : ¬ (j : Int) < (s.size : Int) := by omega
        obtain rfl : b0 = true := HB.out.2 ⟨HN.out, fun i h h' => HK.out i h h' (by omega)⟩
        go_wp2_with fail
        go_ret
        exact ⟨rfl, rfl⟩
      case pos =>
        have hjc : (j : Int) < (s.size : Int) := by omega
        have hjT : j < T.size := by omega
        have HKn : Hid (upc s[j] = T[j] → ∀ i (h : i < s.size) (h' : i < T.size), i < j + 1 → upc s[i] = T[i]) := Lib.hid (fun e i h h' hij => by
          by_cases h0 : i = j
          · subst h0; exact e
          · exact HK.out i h h' (by omega))
        have HNo : Hid (¬ upc s[j] = T[j] → b0 = false) := Lib.hid (fun h => by
          cases b0 with
          | false => rfl
          | true => exact absurd ((HB.out.1 rfl).2 j hjl hjT) h)
        obtain ⟨x, hx⟩ : ∃ x, s[j] = x := ⟨_, rfl⟩
        obtain ⟨y, hy⟩ : ∃ y, T[j] = y := ⟨_, rfl⟩
        rw [hx, hy] at HKn HNo
        have HU := Lib.hid (upc_nat x)
        have HXY : Hid (upc x = y ↔ ((upc x).toNat : Int) = (y.toNat : Int)) := Lib.hid ⟨fun h => by rw [h], fun h => UInt8.toNat_inj.1 (by omega)⟩
        have x0 : 0 ≤ (x.toNat : Int) := by omega
        have x1 : (x.toNat : Int) < 256 := by have := UInt8.toNat_lt x; omega
        have y0 : 0 ≤ (y.toNat : Int) := by omega
        have y1 : (y.toNat : Int) < 256 := by have := UInt8.toNat_lt y; omega
        clear HK
        by_cases g1 : 97 ≤ (x.toNat : Int)
        · by_cases g2 : (x.toNat : Int) ≤ 122
          · rw [if_pos ⟨g1, g2⟩] at HU
            have hw : IntKind.u8.wrap ((x.toNat : Int) - 32) = (x.toNat : Int) - 32 := w8 _ (by omega) (by omega)
            by_cases he : (x.toNat : Int) - 32 = (y.toNat : Int)
            · have hec : ((x.toNat : Int) - 32 == (y.toNat : Int)) = true := by rw [he]; exact beq_self_eq_true _
              have HK2 := Lib.hid (HKn.out (HXY.out.2 (HU.out.trans he)))
              clear HKn HNo
              go_wp2_with fail
              go_roundg (gk - 1)
              case measure => omega
              case rel => exact ⟨j + 1, by go_num, by omega, by omega, rfl, HK2⟩
            · have hec : ((x.toNat : Int) - 32 == (y.toNat : Int)) = false := beq_eq_false_iff_ne.2 he
              obtain rfl := HNo.out (fun h => he (HU.out.symm.trans (HXY.out.1 h)))
              clear HKn HNo
              go_wp2_with fail
              go_ret
              exact ⟨rfl, rfl⟩
          · rw [if_neg (fun h => g2 h.2)] at HU
            by_cases he : (x.toNat : Int) = (y.toNat : Int)
            · have hec : ((x.toNat : Int) == (y.toNat : Int)) = true := by rw [he]; exact beq_self_eq_true _
              have HK2 := Lib.hid (HKn.out (HXY.out.2 (HU.out.trans he)))
              clear HKn HNo
              go_wp2_with fail
              go_roundg (gk - 1)
              case measure => omega
              case rel => exact ⟨j + 1, by go_num, by omega, by omega, rfl, HK2⟩
            · have hec : ((x.toNat : Int) == (y.toNat : Int)) = false := beq_eq_false_iff_ne.2 he
              obtain rfl := HNo.out (fun h => he (HU.out.symm.trans (HXY.out.1 h)))
              clear HKn HNo
              go_wp2_with fail
              go_ret
              exact ⟨rfl, rfl⟩
        · rw [if_neg (fun h => g1 h.1)] at HU
          by_cases he : (x.toNat : Int) = (y.toNat : Int)
          · have hec : ((x.toNat : Int) == (y.toNat : Int)) = true := by rw [he]; exact beq_self_eq_true _
            have HK2 := Lib.hid (HKn.out (HXY.out.2 (HU.out.trans he)))
            clear HKn HNo
            go_wp2_with fail
            go_roundg (gk - 1)
            case measure => omega
            case rel => exact ⟨j + 1, by go_num, by omega, by omega, rfl, HK2⟩
          · have hec : ((x.toNat : Int) == (y.toNat : Int)) = false := beq_eq_false_iff_ne.2 he
            obtain rfl := HNo.out (fun h => he (HU.out.symm.trans (HXY.out.1 h)))
            clear HKn HNo
            go_wp2_with fail
            go_ret
            exact ⟨rfl, rfl⟩
/-- The word T in great letters is t in small ones. -/
theorem refIsW_calls (w : World) (s : BA) (t : List UInt8) (ht : Small t) (htl : t.length ≤ 100) (hs : s.size ≤ 1000000) (b0 : Bool) (hb0 : isW s t = b0) :
    Calls Tryd.prog 24 #[.string s, .string (mk (t.map upc))] w fun e w' => e = .returned (.bool b0) ∧ w = w' := by
  have hsz : (mk (t.map upc)).size = t.length := by simp [ByteArray.size]
  refine refIs_calls w s _ hs (by rw [hsz]; omega) b0 ?_
  have hat : ∀ i (h2 : i < (mk (t.map upc)).size) (h3 : i < t.length), (mk (t.map upc))[i] = upc t[i] := fun i h2 h3 => by
    show (t.map upc).toArray[i] = _
    simp
  rw [← hb0, isW_up ht]
  constructor
  · rintro ⟨h1, h2⟩
    exact ⟨h1.trans hsz.symm, fun i h h' => by rw [hat i h' (by rw [hsz] at h'; exact h')]; exact h2 i h _⟩
  · rintro ⟨h1, h2⟩
    exact ⟨h1.trans hsz, fun i h h' => by rw [h2 i h (by rw [hsz]; exact h')]; exact hat i _ _⟩
end Go.Proofs.YtjpbpdjomfkkeaaDoor.Ma
