/- Package real's Text over the translated program: every number. Conditions: the tables hold what start-up lays. -/
import Derived.Test.YtlebpaneignfaaaDoorFe4
import Derived.Test.YtlebpaneignfaaaDoorFla
namespace Go.Proofs.YtlebpaneignfaaaDoor
open Go.ChangeShapes Go.WideShapes Go.ChangeAt Go.RowKit Go.Sort

theorem eText_ne (neg : Bool) (d : Nat) (p : Int) : eText neg d p ≠ [] := by
  unfold eText expText
  intro h
  have h2 := congrArg List.length h
  simp at h2

set_option maxHeartbeats 1000000 in
set_option maxRecDepth 100000 in
/-- FormatFloat of the library's own, at the format e, of what ftoa64 does. -/
theorem iformat_e (b : Nat) (l : List UInt8) (hl0 : l ≠ []) (w : World)
    (h : ∀ W v, W.ownsRow w.heap.size 5 1 v 0 [] → w.heap.size ≤ W.heap.size → Below w.heap.size w W → Calls Tryd.prog 37 #[v, .float .f64 b, .int .u8 101, .int .i64 (-1)] W (FmtPost w.heap.size W l)) :
    Calls Tryd.prog 29 #[.float .f64 b, .int .u8 101, .int .i64 (-1), .int .i64 64] w fun e w' => e = .returned (.string ⟨l.toArray⟩) ∧ Below w.heap.size w w' := by
  have H := Lib.hid h
  clear h
  have hm24 : max (3 : Int) 24 = 24 := by decide
  have hmk : ∀ W : World, (Instr.makeSlice 27 (.int .i64 0) (.int .i64 24)).run Tryd.prog W = .ok (.slice (some ⟨W.heap.size, 0, none⟩) 0 24) (W.alloc (.cells (Array.replicate 24 (Value.int .u8 0)) 5)) := fun _ => by kernel_rfl
  go_enter Tryd.func29, Tryd.ntmps29
  go_wp2_with fail
  refine (H.out _ _ (own_made w 88 []).row (by simp) (own_made w 88 []).bel).mono ?_
  rintro en w5 ⟨v5, rfl, hr5, hb5⟩
  have hbel := (own_made w 88 []).bel.trans hb5
  obtain ⟨g, cap, rfl, hcv⟩ := conv_own hl0 hr5
  clear hr5 hb5
  go_wp2_with fail
  go_ret
  exact ⟨rfl, hbel⟩

set_option maxHeartbeats 1000000 in
set_option maxRecDepth 100000 in
/-- real.Text at a number that is very small or very great. -/
theorem realText_e (b : Nat) (neg : Bool) (ex fr : Nat) (hb : Bits3 b neg ex fr) (h0 : 1 ≤ ex ∨ 1 ≤ fr) (hx1 : ex ≤ 2046) (hB : bitsN b = b) (hn : b ≠ 9221120237041090561 ∧ b ≠ 9218868437227405312 ∧ b ≠ 18442240474082181120 ∧ b ≠ 0 ∧ b ≠ 9223372036854775808)
    (hcmp : (FloatKind.f64.format.order (b % 9223372036854775808) 4547007122018943789 == some .lt) = true ∨ ((FloatKind.f64.format.order (b % 9223372036854775808) 4547007122018943789 == some .lt) = false ∧ (FloatKind.f64.format.order (b % 9223372036854775808) 4921056587992461136 == some .gt || FloatKind.f64.format.order (b % 9223372036854775808) 4921056587992461136 == some .eq) = true)) (w : World) (hc : TCtx w) :
    Calls Tryd.prog 14 #[.float .f64 b] w fun e w' => e = .returned (.string ⟨(eText neg (shortDP ex fr).1 (shortDP ex fr).2).toArray⟩) ∧ Below w.heap.size w w' := by
  have hf : Calls Tryd.prog 24 #[.float .f64 b, .int .u8 101, .int .i64 (-1), .int .i64 64] w fun e w' => e = .returned (.string ⟨(eText neg (shortDP ex fr).1 (shortDP ex fr).2).toArray⟩) ∧ Below w.heap.size w w' := by
    refine format b 101 _ w fun W1 hb1 => iformat_e b _ (eText_ne _ _ _) W1 fun W2 v a b' c => ?_
    by_cases hx : ex = 0
    · subst hx
      exact ftoa_sub_e b neg fr hb (by omega) _ W2 v a b' ((hc.below hb1).below c)
    · exact ftoa_normal_e b neg ex fr hb (by omega) hx1 _ W2 v a b' ((hc.below hb1).below c)
  generalize eText neg (shortDP ex fr).1 (shortDP ex fr).2 = l at *
  have hlt := hb.lt
  have HF := Lib.hid hf
  have HBits := realBits_calls b hlt
  rw [hB] at HBits
  have HAbs := abs_calls b hlt
  generalize b % 9223372036854775808 = r at *
  have HB3 := Lib.hid HBits
  have HA := Lib.hid HAbs
  have n1 : ((b : Int) == 9221120237041090561) = false := by rw [beq_eq_false_iff_ne]; omega
  have n2 : ((b : Int) == 9218868437227405312) = false := by rw [beq_eq_false_iff_ne]; omega
  have n3 : ((b : Int) == 18442240474082181120) = false := by rw [beq_eq_false_iff_ne]; omega
  have n4 : ((b : Int) == 0) = false := by rw [beq_eq_false_iff_ne]; omega
  have n5 : ((b : Int) == 9223372036854775808) = false := by rw [beq_eq_false_iff_ne]; omega
  have Hcmp := Lib.hid hcmp
  clear hf HBits HAbs hn hB hc hb hcmp h0
  rcases Hcmp.out with hlss | ⟨hlss, hgeq⟩
  all_goals
    go_enter Tryd.func14, Tryd.ntmps14
    go_wp2_with fail
    refine (HB3.out _).mono ?_; rintro en w' ⟨rfl, rfl⟩
    go_wp2_with fail
    refine (HA.out _).mono ?_; rintro en w' ⟨rfl, rfl⟩
    go_wp2_with fail
    refine HF.out.mono ?_; rintro en w5 ⟨rfl, hb5⟩
    go_wp2_with fail
    go_ret
    exact ⟨rfl, hb5⟩

end Go.Proofs.YtlebpaneignfaaaDoor
