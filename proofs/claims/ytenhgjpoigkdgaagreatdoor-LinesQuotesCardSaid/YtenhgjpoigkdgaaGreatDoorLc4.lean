/- []byte(s) of any text; a quoted line with its end is read as its words. No condition. -/
import Derived.Test.YtenhgjpoigkdgaaGreatDoorLr8
import Derived.Test.YtenhgjpoigkdgaaGreatDoorLn2
import Derived.Test.YtenhgjpoigkdgaaGreatDoorLc2
import Derived.Lib.ConvBytes
namespace Go.Proofs.YtenhgjpoigkdgaaGreatDoor.Ln
open Go.ChangeShapes Go.WideShapes Go.ChangeAt Go.RowKit
theorem conv_text (w : World) (S : ByteArray) (hS : S.size ≤ 1000000) : ∃ c w2, (convert 9 22 (.string S)).run Tryz.prog w = .ok (.slice (some ⟨w.heap.size, 0, none⟩) S.size c) w2 ∧ Below w.heap.size w w2 ∧ InB w2 (some ⟨w.heap.size, 0, none⟩) c S.data.toList := by
  refine ⟨_, _, Lib.run_convert_string_bytes w 9 22 5 S Tryz.underlying9 Tryz.underlying22 Tryz.underlying5, ⟨rfl, rfl, rfl, by rw [Lib.bytesWorld_size]; omega, fun i hi => Lib.bytesWorld_at_old w _ S i hi⟩, ?_, ?_, fun _ => ⟨w.heap.size, 0, rfl, fun i hi => ?_⟩⟩
  · rw [len_of]; exact grownCap_ge _ _ _ _
  · have h := grownCap_le_maxLen w S.size 0 5 (by unfold maxLen; omega)
    unfold maxLen at h
    omega
  · rw [len_of] at hi
    rw [Nat.zero_add, Lib.bytesWorld_cell w _ S i hi]
    rw [List.getD_eq_getElem?_getD, List.getElem?_eq_getElem (by rw [len_of]; exact hi)]
    rfl
theorem stripCR_snoc (l : List UInt8) : Lw.stripCR (l ++ [13]) = l := by
  unfold Lw.stripCR
  rw [if_pos (by simp), List.dropLast_concat]
theorem parse_quoted (ws : List (List UInt8)) (h0 : 0 < ws.length) (hck : Lw.check ws = some ws) (hq : (Lw.quoteFrom 0 ws).length ≤ 4000) :
    Lw.parseR (Lw.quoteFrom 0 ws ++ [13, 10]) = .got ws ((Lw.quoteFrom 0 ws).length + 2) := by
  have hb := Lw.quote_bytes ws 0
  have hne : (Lw.quoteFrom 0 ws ++ [13, 10]).head? ≠ some 42 := by
    cases ws with
    | nil => cases h0
    | cons x r =>
      obtain ⟨c, t, e, hc⟩ := Lw.quote_head x r
      rw [e]
      intro h
      exact hc (Option.some.inj h)
  have hrun := Lw.quote_run ws [] (by rfl) 0 []
  rw [List.nil_append, List.append_nil, hck] at hrun
  generalize Lw.quoteFrom 0 ws = Q at *
  unfold Lw.parseR
  rw [if_neg hne]
  have hl : (Q ++ [13, 10] : List UInt8).length = Q.length + 2 := by simp
  have hno : NoLF (Q ++ [13, 10]) (Q.length + 1) := fun j hj h2 => by
    by_cases hjq : j < Q.length
    · rw [List.getElem_append_left hjq]
      have := hb _ (List.getElem_mem hjq)
      intro e
      rw [e] at this
      revert this
      decide
    · obtain rfl : j = Q.length := by omega
      rw [List.getElem_append_right (Nat.le_refl _)]
      simp
  have h10 : (Q ++ [13, 10])[Q.length + 1]'(by omega) = 10 := by
    rw [List.getElem_append_right (by omega)]
    simp
  have ht : (Q ++ [13, 10]).take (Q.length + 1) = Q ++ [13] := by
    rw [List.take_append, List.take_of_length_le (by omega), show Q.length + 1 - Q.length = 1 by omega]
    rfl
  rw [typed_at hno (by omega) (by omega) h10 (T := Q) (by rw [ht]; exact stripCR_snoc Q), hrun]
end Go.Proofs.YtenhgjpoigkdgaaGreatDoor.Ln
