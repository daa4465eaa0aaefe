/- item.Get, item.Put, item.Drop. Conditions: the fields' names rise. -/
import Derived.Test.YtjjphpklifbipaaDoorIa5
namespace Go.Proofs.YtjjphpklifbipaaDoor.Ia
open Go.ChangeShapes Go.WideShapes Go.ChangeAt Go.RowKit
theorem sz22 : Tryd.prog.elem 22 = 30 := by kernel_rfl
theorem un22 : Tryd.prog.underlying 22 = some (.slice (Tryd.prog.elem 22)) := by rw [sz22]; exact Tryd.underlying22
theorem run_sz (w : World) : (sizeOf 30).run Tryd.prog w = .ok 2 w := by
  obtain ⟨i0, hi, hz0, hz1, hz2⟩ := info_parts iFd
  simp [sizeOf, typeInfo, hi, hz1]
/-- A part of fields that lie. -/
theorem InF.part {w : World} {a : Option Addr} {l : List Fd} (h : InF w a l) (x z : List Fd) (y : List Fd) (e : l = x ++ y ++ z) (m : Nat) : InF w (if m = x.length then a else a.map (·.add (x.length * 2))) y ∨ (m = x.length ∧ y ≠ []) := by
  subst e
  by_cases hy : y = []
  · subst hy; exact .inl (InF.nil _ _)
  · by_cases hm : m = x.length
    · exact .inr ⟨hm, hy⟩
    · refine .inl ?_
      rw [if_neg hm]
      intro hp
      obtain ⟨b, o, rfl, hlt, hc⟩ := h (by simp; omega)
      refine ⟨b, o + x.length * 2, by simp [Addr.add_lit], hlt, fun i hi => ?_⟩
      have h1 := hc (x.length + i) (by simp; omega)
      have e1 : (x ++ y ++ z)[x.length + i]'(by simp; omega) = y[i] := by
        rw [List.getElem_append_left (by simp; omega), List.getElem_append_right (by omega)]
        simp
      rw [e1] at h1
      have e2 : o + (x.length + i) * 2 = o + x.length * 2 + i * 2 := by omega
      rw [e2] at h1
      exact h1
theorem cut_front {w : World} {a : Option Addr} {c n at' : Nat} {l x y : List Fd} (h : InF w a l) (e : l = x ++ y) (hn : n = l.length) (hc : n ≤ c) (hat : at' = x.length) :
    ∃ a1 c1, (∀ w2 : World, Sem.run Tryd.prog (Instr.sliceAt 22 (.slice a n c) none (some (.int .i64 at')) none) w2 = .ok (.slice a1 x.length c1) w2) ∧ InF w a1 x := by
  subst hat hn
  have h1 := h.part [] y x (by simpa using e) c
  have hl : x.length ≤ l.length := by rw [e]; simp
  refine ⟨if c = 0 then a else a.map (·.add (0 * 2)), c - 0, fun w2 => ?_, ?_⟩
  · rw [run_sliceAt_slice (h := un22), run_slice_h (ht := un22) (h0 := by omega) (h2 := by omega), sz22, run_sz]
    simp only [Result.andThen, sliced, Int.toNat_natCast, Nat.sub_zero]
  · rcases h1 with h1 | ⟨h1, h2⟩
    · exact h1
    · exfalso
      have : 0 < x.length := List.length_pos_iff.2 h2
      simp at h1
      omega
theorem cut_back {w : World} {a : Option Addr} {c n at' : Nat} {l x y : List Fd} (h : InF w a l) (e : l = x ++ y) (hn : n = l.length) (hc : n ≤ c) (hat : at' = x.length) (hc2 : c ≤ 9223372036854775807) :
    ∃ a1 c1, (∀ w2 : World, Sem.run Tryd.prog (Instr.sliceAt 22 (.slice a n c) (some (.int .i64 at')) none none) w2 = .ok (.slice a1 y.length c1) w2) ∧ InF w a1 y ∧ y.length ≤ c1 ∧ c1 ≤ 9223372036854775807 := by
  subst hat hn
  have h1 := h.part x [] y (by simpa using e) c
  have hl : l.length = x.length + y.length := by rw [e]; simp
  refine ⟨if c = x.length then a else a.map (·.add (x.length * 2)), c - x.length, fun w2 => ?_, ?_, by omega, by omega⟩
  · rw [run_sliceAt_slice (h := un22), run_slice_l (ht := un22) (h0 := by omega) (h1 := by omega), sz22, run_sz]
    simp only [Result.andThen, sliced, Int.toNat_natCast]
    rw [show l.length - x.length = y.length by omega]
  · rcases h1 with h1 | ⟨h1, h2⟩
    · exact h1
    · exfalso
      have : 0 < y.length := List.length_pos_iff.2 h2
      omega
set_option maxHeartbeats 4000000 in
theorem get_calls (w : World) (k : Int) (t : ByteArray) (a : Option Addr) (c len : Nat) (n : ByteArray) (l A M B : List Fd) (hs : Split n l A M B) (hlen : len = l.length) (hl : l.length ≤ 1000000) (hI : InF w a l) (hk : k = 0 ∨ k = 2) :
    Calls Tryd.prog 20 #[.agg #[.int .i64 k, .string t, .slice a len c], .string n] w fun e w' => e = .returned (.tuple #[.string (txt M), .bool (there M), .int .i64 0]) ∧ Below w.heap.size w w' := by
  subst hlen
  have HF := Lib.hid (fun O => find_calls (w.alloc O) k t a c _ n l A M B hs rfl hl (hI.below (Nat.le_refl _) (bbox O)) hk)
  have HC := Lib.hid (Cell3.new w (.int .i64 k) (.string t) (.slice a l.length c))
  have HI := Lib.hid hI
  rcases M_cases hs with rfl | ⟨x, rfl⟩
  · clear hI hs
    go_enter Tryd.func20, Tryd.ntmps20
    go_wp2_with fail
    refine (HF.out _).mono ?_
    rintro e w2 ⟨rfl, hb⟩
    have HB := Lib.hid hb
    clear hb
    have hth : there ([] : List Fd) = false := rfl
    rw [hth]
    go_wp2_with fail
    go_ret3
    exact ⟨rfl, bstep (bbox _) HB.out⟩
  · have HL := Lib.hid hs.len
    have HM := Lib.hid (fun (hi : A.length < l.length) => hs.at_m hi rfl (by simp))
    have hAl : A.length < l.length := by have := HL.out; simp at this; omega
    clear hI hs
    go_enter Tryd.func20, Tryd.ntmps20
    go_wp2_with fail
    refine (HF.out _).mono ?_
    rintro e w2 ⟨rfl, hb⟩
    have HB := Lib.hid hb
    obtain ⟨b, o, rfl, hlt, hc⟩ := (HI.out.below (Nat.le_refl _) (bstep (bbox _) hb)) (by omega)
    obtain ⟨c0, c1⟩ := hc A.length hAl
    rw [HM.out hAl] at c0 c1
    have d0 := ((HC.out _).below hb).c0
    have d1 := ((HC.out _).below hb).c1
    have d2 := ((HC.out _).below hb).c2
    have hAc : (A.length : Int) < (l.length : Int) := by omega
    clear hb hc hlt HC
    have hth : there ([(n, x)] : List Fd) = true := rfl
    rw [hth]
    go_wp2_with fail
    go_ret3
    exact ⟨rfl, bstep (bbox _) HB.out⟩
theorem get_kind (w : World) (k : Int) (t : ByteArray) (v : Value) (n : ByteArray) (hk : k ≠ 0 ∧ k ≠ 2) :
    Calls Tryd.prog 20 #[.agg #[.int .i64 k, .string t, v], .string n] w fun e w' => e = .returned (.tuple #[.string ⟨#[]⟩, .bool false, .int .i64 91]) ∧ Below w.heap.size w w' := by
  have HF := Lib.hid (fun O => find_kind (w.alloc O) k t v n hk)
  clear hk
  go_enter Tryd.func20, Tryd.ntmps20
  go_wp2_with fail
  refine (HF.out _).mono ?_
  rintro e w2 ⟨rfl, hb⟩
  have HB := Lib.hid hb
  clear hb
  go_wp2_with fail
  go_ret3
  exact ⟨rfl, bstep (bbox _) HB.out⟩
end Go.Proofs.YtjjphpklifbipaaDoor.Ia
