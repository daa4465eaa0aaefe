/- The checking package's Right, at any item; the statements' fits. No condition. -/
import Derived.Test.YtjjphpklifbipaaDoorIc3
namespace Go.Proofs.YtjjphpklifbipaaDoor.Ia
open Go.ChangeShapes Go.WideShapes Go.ChangeAt Go.RowKit
set_option maxHeartbeats 8000000 in
set_option maxRecDepth 100000 in
theorem refRight_calls (w : World) (k : Int) (t : ByteArray) (a : Option Addr) (c len : Nat) (l : List Fd) (hlen : len = l.length) (hI : InF w a l) (b0 : Bool) (hb0 : b0 = true ↔ RightP ⟨k, t, l⟩) :
    Calls Tryd.prog 12 #[.agg #[.int .i64 k, .string t, .slice a len c]] w fun e w' => e = .returned (.bool b0) ∧ Below w.heap.size w w' := by
  subst hlen
  have HB0 := Lib.hid hb0
  have HI := Lib.hid hI
  clear hI hb0
  by_cases h1 : k = 1
  · subst h1
    by_cases ht : t.size ≤ 4096
    · have htc : (t.size : Int) ≤ 4096 := by omega
      by_cases hl : l.length = 0
      · have hlc : ((l.length : Int) == 0) = true := by rw [hl]; rfl
        obtain rfl := bt HB0.out (.inl ⟨rfl, ht, hl⟩)
        clear hl
        go_enter Tryd.func12, Tryd.ntmps12
        go_wp2_with fail
        go_ret
        exact ⟨rfl, bbox _⟩
      · have hlc : ((l.length : Int) == 0) = false := by rw [beq_eq_false_iff_ne]; omega
        obtain rfl := bf HB0.out (fun h => by rcases h with h | h; exact hl h.2.2; have := h.1; cases this)
        clear hl
        go_enter Tryd.func12, Tryd.ntmps12
        go_wp2_with fail
        go_ret
        exact ⟨rfl, bbox _⟩
    · have htc : ¬ (t.size : Int) ≤ 4096 := by omega
      obtain rfl := bf HB0.out (fun h => by rcases h with h | h; exact ht h.2.1; have := h.1; cases this)
      go_enter Tryd.func12, Tryd.ntmps12
      go_wp2_with fail
      go_ret
      exact ⟨rfl, bbox _⟩
  · have h1b : (k == 1) = false := by rw [beq_eq_false_iff_ne]; exact h1
    by_cases hp : ¬ (k = 2 ∧ (t.toList == []) = true ∧ 0 < l.length ∧ l.length ≤ 256)
    · obtain rfl := bf HB0.out (fun h => by
            rcases h with h | h
            · exact h1 h.1
            · exact hp ⟨h.1, h.2.1, h.2.2.1, h.2.2.2.1⟩)
      have h2c : ∃ b2, (k != 2) = b2 := ⟨_, rfl⟩
      obtain ⟨b2, h2c⟩ := h2c
      have h3c : ∃ b3, (!t.toList.isEmpty) = b3 := ⟨_, rfl⟩
      obtain ⟨b3, h3c⟩ := h3c
      have h4c : ∃ b4, ((l.length : Int) == 0) = b4 := ⟨_, rfl⟩
      obtain ⟨b4, h4c⟩ := h4c
      have hq : b2 = true ∨ b3 = true ∨ b4 = true ∨ (b2 = false ∧ b3 = false ∧ b4 = false ∧ (256 : Int) < (l.length : Int)) := by
        cases b2 with
        | true => exact .inl rfl
        | false =>
          cases b3 with
          | true => exact .inr (.inl rfl)
          | false =>
            cases b4 with
            | true => exact .inr (.inr (.inl rfl))
            | false =>
              refine .inr (.inr (.inr ⟨rfl, rfl, rfl, ?_⟩))
              have e2 : k = 2 := by simpa using h2c
              have e3 : (t.toList == []) = true := by rw [isE]; simpa using h3c
              have e4 : l.length ≠ 0 := by intro h; rw [h] at h4c; cases h4c
              have : ¬ l.length ≤ 256 := fun h => hp ⟨e2, e3, by omega, h⟩
              omega
      clear hp
      rcases hq with rfl | rfl | rfl | ⟨rfl, rfl, rfl, hlc⟩
      · go_enter Tryd.func12, Tryd.ntmps12
        go_wp2_with fail
        go_ret
        exact ⟨rfl, bbox _⟩
      · cases b2
        all_goals
          go_enter Tryd.func12, Tryd.ntmps12
          go_wp2_with fail
          go_ret
          exact ⟨rfl, bbox _⟩
      · cases b2 <;> cases b3
        all_goals
          go_enter Tryd.func12, Tryd.ntmps12
          go_wp2_with fail
          go_ret
          exact ⟨rfl, bbox _⟩
      · go_enter Tryd.func12, Tryd.ntmps12
        go_wp2_with fail
        go_ret
        exact ⟨rfl, bbox _⟩
    · obtain ⟨rfl, ht, hl0, hl1⟩ := Classical.not_not.1 hp
      exact refRight_hash w t a c l HI.out b0 HB0.out ht hl0 hl1
end Go.Proofs.YtjjphpklifbipaaDoor.Ia
