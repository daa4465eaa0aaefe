/- strings.IndexRune of CR LF at a rune of 128 and more, strings.IndexAny and ContainsAny of CR LF at EVERY text. No condition but the text's bound. -/
import Derived.Test.YtiigfcggdjcmfaaDoorLays
import Derived.Test.YtiigfcggdjcmfaaDoorFb
import Derived.Laws.RangeAny
import Derived.Laws.Runes
import Derived.Lib.IndexAny
import Derived.Deep.LoopGhost
namespace Go.Proofs.YtiigfcggdjcmfaaDoor
open Go.ChangeShapes Go.WideShapes Go.ChangeAt Go.RowKit

theorem below_iter (w : World) (s : ByteArray) (p : Nat) : Below w.heap.size w (w.iter s p) := (Below.refl _ _).alloc (Nat.le_refl _) _

set_option maxHeartbeats 4000000 in
set_option maxRecDepth 1000000 in
theorem indexRune_err (w : World) : Calls Tryd.prog 76 #[.string ⟨#[13, 10]⟩, .int .i32 65533] w fun e w' => e = .returned (.int .i64 (-1)) ∧ Below w.heap.size w w' := by
  have n0 := fun ty => run_next_ascii (P := Tryd.prog) w ⟨#[13, 10]⟩ 0 ty (by decide) (by decide)
  have n1 := fun ty => run_next_ascii (P := Tryd.prog) w ⟨#[13, 10]⟩ 1 ty (by decide) (by decide)
  have n2 := fun ty => run_next_end (P := Tryd.prog) w ⟨#[13, 10]⟩ 2 ty (by decide)
  go_enter Tryd.func76, Tryd.ntmps76
  go_wp2_with fail
  refine wp_loop_rounds 3 ?_
  rw [rounds_succ]
  go_wp2_with fail
  rw [rounds_succ]
  go_wp2_with fail
  rw [rounds_succ]
  go_wp2_with fail
  go_ret
  exact ⟨rfl, below_iter _ _ _⟩

set_option maxHeartbeats 2000000 in
set_option maxRecDepth 1000000 in
theorem validRune_calls (c : Int) (h0 : 0 ≤ c) (h1 : c ≤ 2147483647) (w : World) : Calls Tryd.prog 94 #[.int .i32 c] w fun e w' => e = .returned (.bool (validRune c)) ∧ w = w' := by
  unfold validRune
  by_cases a : c < 55296
  · rw [decide_eq_true (by omega)]
    go_enter Tryd.func94, Tryd.ntmps94
    go_wp2
    go_ret
    exact ⟨rfl, rfl⟩
  by_cases b : 57343 < c
  · by_cases d : c ≤ 1114111
    · rw [decide_eq_true (by omega)]
      go_enter Tryd.func94, Tryd.ntmps94
      go_wp2
      go_ret
      exact ⟨rfl, rfl⟩
    · rw [decide_eq_false (by omega)]
      go_enter Tryd.func94, Tryd.ntmps94
      go_wp2
      go_ret
      exact ⟨rfl, rfl⟩
  · rw [decide_eq_false (by omega)]
    go_enter Tryd.func94, Tryd.ntmps94
    go_wp2
    go_ret
    exact ⟨rfl, rfl⟩

set_option maxHeartbeats 4000000 in
set_option maxRecDepth 1000000 in
theorem indexRune_no (c : Int) (h0 : 128 ≤ c) (h1 : c ≤ 2147483647) (hne : c ≠ 65533) (hv : validRune c = false) (w : World) :
    Calls Tryd.prog 76 #[.string ⟨#[13, 10]⟩, .int .i32 c] w fun e w' => e = .returned (.int .i64 (-1)) ∧ Below w.heap.size w w' := by
  have HV := Lib.hid (validRune_calls c (by omega) h1)
  rw [hv] at HV
  have e1 : (c == 65533) = false := beq_eq_false_iff_ne.2 hne
  have e2 : decide (c < 128) = false := decide_eq_false (by omega)
  have e3 : decide (0 ≤ c) = true := decide_eq_true (by omega)
  clear hne hv
  go_enter Tryd.func76, Tryd.ntmps76
  go_wp2_with fail
  refine (HV.out _).mono ?_; rintro en w' ⟨rfl, rfl⟩
  go_wp2_with fail
  go_ret
  exact ⟨rfl, Below.refl _ _⟩

theorem indexByte_none (b : UInt8) (w : World) : Calls Tryd.prog 93 #[.string ByteArray.empty, .int .u8 b.toNat] w fun e w' => e = .returned (.int .i64 (-1)) ∧ w = w' := by
  have h := Any.strings_IndexByte Tryd.lays137 ByteArray.empty (b.toNat : Int) w
  have e : ByteArray.empty.data.toList = [] := rfl
  rw [e] at h
  exact h.mono fun _ _ h => ⟨h.1, h.2.symm⟩
set_option maxHeartbeats 8000000 in
set_option maxRecDepth 1000000 in
theorem indexRune_long (c : Int) (h0 : 128 ≤ c) (h1 : c ≤ 2147483647) (hne : c ≠ 65533) (hv : validRune c = true) (hsz : 3 ≤ (Utf8.encode c).size) (w : World) :
    Calls Tryd.prog 76 #[.string ⟨#[13, 10]⟩, .int .i32 c] w fun e w' => e = .returned (.int .i64 (-1)) ∧ Below w.heap.size w w' := by
  have HV := Lib.hid (validRune_calls c (by omega) h1)
  obtain ⟨f1, f2, -⟩ := encode_facts c (by rw [validRune_eq]; exact hv) h0
  rw [hv] at HV
  have e1 : (c == 65533) = false := beq_eq_false_iff_ne.2 hne
  have e2 : decide (c < 128) = false := decide_eq_false (by omega)
  have e3 : decide (0 ≤ c) = true := decide_eq_true (by omega)
  clear hne hv
  have h34 : (Utf8.encode c).size = 3 ∨ (Utf8.encode c).size = 4 := by omega
  clear f1 f2 hsz
  rcases h34 with h3 | h3
  all_goals
    go_enter Tryd.func76, Tryd.ntmps76
    go_wp2_with fail
    refine (HV.out _).mono ?_; rintro en w' ⟨rfl, rfl⟩
    go_wp2_with fail
    go_step3
    go_wp2_with fail
    refine wp_loop_rounds 1 ?_
    rw [rounds_succ]
    go_wp2_with fail
    rw [Exit.noGoto_ret]
    go_ret
    exact ⟨rfl, Below.refl _ _⟩
set_option maxHeartbeats 8000000 in
set_option maxRecDepth 1000000 in
theorem indexRune_two (c : Int) (h0 : 128 ≤ c) (h1 : c ≤ 2147483647) (hne : c ≠ 65533) (hv : validRune c = true) (hsz : (Utf8.encode c).size = 2) (w : World) :
    Calls Tryd.prog 76 #[.string ⟨#[13, 10]⟩, .int .i32 c] w fun e w' => e = .returned (.int .i64 (-1)) ∧ Below w.heap.size w w' := by
  have HV := Lib.hid (validRune_calls c (by omega) h1)
  obtain ⟨-, -, f3⟩ := encode_facts c (by rw [validRune_eq]; exact hv) h0
  rw [hv] at HV
  have e1 : (c == 65533) = false := beq_eq_false_iff_ne.2 hne
  have e2 : decide (c < 128) = false := decide_eq_false (by omega)
  have e3 : decide (0 ≤ c) = true := decide_eq_true (by omega)
  clear hne hv
  have hlt : 1 < (Utf8.encode c).size := by omega
  have f4 : 128 ≤ ((Utf8.encode c)[1]'hlt).toNat := by
    have := f3 (by omega)
    simpa only [hsz] using this
  clear f3
  generalize hb : (Utf8.encode c)[1]'hlt = b at *
  have HB := Lib.hid (indexByte_none b)
  have e5 : ((((⟨#[13, 10]⟩ : ByteArray)[1]'(by decide)).toNat : Int) != (b.toNat : Int)) = true := by
    rw [bne_iff_ne]
    show (10 : Int) ≠ _
    omega
  have e6 : IntKind.i64.wrap 2 = 2 := by decide
  go_enter Tryd.func76, Tryd.ntmps76
  go_wp2_with fail
  refine (HV.out _).mono ?_; rintro en w' ⟨rfl, rfl⟩
  go_wp2_with fail
  go_step3
  go_wp2_with fail
  refine wp_loop_rounds 1 ?_
  rw [rounds_succ]
  go_wp2_with fail
  go_step3
  go_wp2_with fail
  go_quiet (fail)
  have hb1 := Lib.hid (below_drewN w nq)
  generalize w.drewN nq = w1 at *
  go_wp2_with fail
  go_quiet ((go_at_call 93; exact Calls.quiet_of_same ((HB.out _).mono fun _ _ h => ⟨h.1, h.2.symm⟩)))
  have hb2 := Lib.hid (bstep hb1.out (below_drewN w1 nq))
  generalize w1.drewN nq = w2 at *
  go_wp2_with fail
  simp only [Exit.noGoto_ret, Exit.inBlock, Exit.then]
  go_ret
  exact ⟨rfl, hb2.out⟩
end Go.Proofs.YtiigfcggdjcmfaaDoor
