/- item.Get, item.Put, item.Drop. Conditions: the fields' names rise. -/
import Derived.Test.YtfljonmfkjblhaaGreatDoorIa5
namespace Go.Proofs.YtfljonmfkjblhaaGreatDoor.Ia
open Go.ChangeShapes Go.WideShapes Go.ChangeAt Go.RowKit
theorem sz22 : Tryz.prog.elem 22 = 44 := by kernel_rfl
theorem un22 : Tryz.prog.underlying 22 = some (.slice (Tryz.prog.elem 22)) := by rw [sz22]; exact Tryz.underlying22
theorem run_sz (w : World) : (sizeOf 44).run Tryz.prog w = .ok 2 w := by
  obtain ⟨i0, hi, hz0, hz1, hz2⟩ := info_parts iFd
  simp [sizeOf, typeInfo, hi, hz1]
/-- A part of fields that lie. -/
theorem InF.part {w : World} {a : Option Addr} {l : List Fd} (h : InF w a l) (x z : List Fd) (y : List Fd) (e : l = x ++ y ++ z) (m : Nat) : InF w (if m = x.length then a else a.map (·.add (x.length * 2))) y ∨ (m = x.length ∧ y ≠ []) := by
  subst e
  by_cases hy : y = []
  · subst hy; exact .inl (InF.nil _ _)
  · by_cases hm : m = x.length
    · exact .inr ⟨hm, hy⟩
    · refine .inl ?_
      rw [if_neg hm]
      intro hp
      obtain ⟨b, o, rfl, hlt, hc⟩ := h (by simp; omega)
      refine ⟨b, o + x.length * 2, by simp [Addr.add_lit], hlt, fun i hi => ?_⟩
      have h1 := hc (x.length + i) (by simp; omega)
      have e1 : (x ++ y ++ z)[x.length + i]'(by simp; omega) = y[i] := by
        rw [List.getElem_append_left (by simp; omega), List.getElem_append_right (by omega)]
        simp
      rw [e1] at h1
      have e2 : o + (x.length + i) * 2 = o + x.length * 2 + i * 2 := by omega
      rw [e2] at h1
      exact h1
theorem cut_front {w : World} {a : Option Addr} {c n at' : Nat} {l x y : List Fd} (h : InF w a l) (e : l = x ++ y) (hn : n = l.length) (hc : n ≤ c) (hat : at' = x.length) :
    ∃ a1 c1, (∀ w2 : World, Sem.run Tryz.prog (Instr.sliceAt 22 (.slice a n c) none (some (.int .i64 at')) none) w2 = .ok (.slice a1 x.length c1) w2) ∧ InF w a1 x := by
  subst hat hn
  have h1 := h.part [] y x (by simpa using e) c
  have hl : x.length ≤ l.length := by rw [e]; simp
  refine ⟨if c = 0 then a else a.map (·.add (0 * 2)), c - 0, fun w2 => ?_, ?_⟩
  · rw [run_sliceAt_slice (h := un22), run_slice_h (ht := un22) (h0 := by omega) (h2 := by omega), sz22, run_sz]
    simp only [Result.andThen, sliced, Int.toNat_natCast, Nat.sub_zero]
  · rcases h1 with h1 | ⟨h1, h2⟩
    · exact h1
    · exfalso
      have : 0 < x.length := List.length_pos_iff.2 h2
      simp at h1
      omega
theorem cut_back {w : World} {a : Option Addr} {c n at' : Nat} {l x y : List Fd} (h : InF w a l) (e : l = x ++ y) (hn : n = l.length) (hc : n ≤ c) (hat : at' = x.length) (hc2 : c ≤ 9223372036854775807) :
    ∃ a1 c1, (∀ w2 : World, Sem.run Tryz.prog (Instr.sliceAt 22 (.slice a n c) (some (.int .i64 at')) none none) w2 = .ok (.slice a1 y.length c1) w2) ∧ InF w a1 y ∧ y.length ≤ c1 ∧ c1 ≤ 9223372036854775807 := by
  subst hat hn
  have h1 := h.part x [] y (by simpa using e) c
  have hl : l.length = x.length + y.length := by rw [e]; simp
  refine ⟨if c = x.length then a else a.map (·.add (x.length * 2)), c - x.length, fun w2 => ?_, ?_, by omega, by omega⟩
  · rw [run_sliceAt_slice (h := un22), run_slice_l (ht := un22) (h0 := by omega) (h1 := by omega), sz22, run_sz]
    simp only [Result.andThen, sliced, Int.toNat_natCast]
    rw [show l.length - x.length = y.length by omega]
  · rcases h1 with h1 | ⟨h1, h2⟩
    · exact h1
    · exfalso
      have : 0 < y.length := List.length_pos_iff.2 h2
      omega
end Go.Proofs.YtfljonmfkjblhaaGreatDoor.Ia
