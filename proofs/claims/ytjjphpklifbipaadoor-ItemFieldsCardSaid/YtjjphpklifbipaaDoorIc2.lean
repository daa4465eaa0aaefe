/- item.Right and the checking package's Right; the statements' fits. No condition. -/
import Derived.Test.YtjjphpklifbipaaDoorIc1
namespace Go.Proofs.YtjjphpklifbipaaDoor.Ia
open Go.ChangeShapes Go.WideShapes Go.ChangeAt Go.RowKit
theorem empty_iff {t : ByteArray} : (t.toList == []) = true ↔ t = ⟨#[]⟩ := by
  rw [beq_iff_eq]
  constructor
  · intro h; exact ba_eq (by rw [h, ByteArray.toList_eq])
  · rintro rfl; rw [ByteArray.toList_eq]
set_option maxHeartbeats 8000000 in
set_option maxRecDepth 100000 in
theorem right_calls (w : World) (k : Int) (t : ByteArray) (a : Option Addr) (c len : Nat) (l : List Fd) (hlen : len = l.length) (hI : InF w a l) (b0 : Bool) (hb0 : b0 = true ↔ RightP ⟨k, t, l⟩) :
    Calls Tryd.prog 11 #[.agg #[.int .i64 k, .string t, .slice a len c]] w fun e w' => e = .returned (.bool b0) ∧ Below w.heap.size w w' := by
  subst hlen
  have HB0 := Lib.hid hb0
  obtain ⟨b1, hb1⟩ := some_b (AllR l)
  have HA := Lib.hid (fun W (h : Below w.heap.size w W) => areRight_calls W a c _ l rfl (hI.below (Nat.le_refl _) h) b1 hb1)
  clear hI hb0
  by_cases h1 : k = 1
  · subst h1
    by_cases ht : t.size ≤ 4096
    · have htc : (t.size : Int) ≤ 4096 := by omega
      by_cases hl : l.length = 0
      · have hlc : ((l.length : Int) == 0) = true := by rw [hl]; rfl
        obtain rfl := bt HB0.out (.inl ⟨rfl, ht, hl⟩)
        clear hl
        go_enter Tryd.func11, Tryd.ntmps11
        go_wp2_with fail
        go_ret
        exact ⟨rfl, bbox _⟩
      · have hlc : ((l.length : Int) == 0) = false := by rw [beq_eq_false_iff_ne]; omega
        obtain rfl := bf HB0.out (fun h => by rcases h with h | h; exact hl h.2.2; have := h.1; cases this)
        clear hl
        go_enter Tryd.func11, Tryd.ntmps11
        go_wp2_with fail
        go_ret
        exact ⟨rfl, bbox _⟩
    · have htc : ¬ (t.size : Int) ≤ 4096 := by omega
      obtain rfl := bf HB0.out (fun h => by rcases h with h | h; exact ht h.2.1; have := h.1; cases this)
      go_enter Tryd.func11, Tryd.ntmps11
      go_wp2_with fail
      go_ret
      exact ⟨rfl, bbox _⟩
  · have h1b : (k == 1) = false := by rw [beq_eq_false_iff_ne]; exact h1
    by_cases h2 : k = 2
    · subst h2
      cases ht : (t.toList == []) with
      | true =>
        obtain rfl : b0 = b1 := by
          cases hb : b1 with
          | true => exact bt HB0.out (.inr ⟨rfl, ht, hb1.1 hb⟩)
          | false => exact bf HB0.out (fun h => by
              rcases h with h | h
              · exact h1 h.1
              · have := hb1.2 h.2.2; rw [hb] at this; cases this)
        have ht2 : ([] == t.toList) = true := by rw [beq_iff_eq] at ht ⊢; exact ht.symm
        clear hb1 HB0
        go_enter Tryd.func11, Tryd.ntmps11
        go_wp2_with fail
        refine (HA.out _ (bbox _)).mono ?_
        rintro e w2 ⟨rfl, hb2⟩
        have HB2 := Lib.hid (bstep (bbox _) hb2)
        clear hb2
        go_wp2_with fail
        go_ret
        exact ⟨rfl, HB2.out⟩
      | false =>
        obtain rfl := bf HB0.out (fun h => by
              rcases h with h | h
              · exact h1 h.1
              · have := h.2.1; rw [ht] at this; cases this)
        have ht2 : ([] == t.toList) = false := by rw [beq_eq_false_iff_ne] at ht ⊢; exact fun h => ht h.symm
        clear hb1 HB0
        go_enter Tryd.func11, Tryd.ntmps11
        go_wp2_with fail
        go_ret
        exact ⟨rfl, bbox _⟩
    · have h2b : (k == 2) = false := by rw [beq_eq_false_iff_ne]; exact h2
      obtain rfl := bf HB0.out (fun h => by rcases h with h | h; exact h1 h.1; exact h2 h.1)
      go_enter Tryd.func11, Tryd.ntmps11
      go_wp2_with fail
      go_ret
      exact ⟨rfl, bbox _⟩
end Go.Proofs.YtjjphpklifbipaaDoor.Ia
