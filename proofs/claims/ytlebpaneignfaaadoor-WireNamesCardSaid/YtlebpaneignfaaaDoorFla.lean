/- FormatFloat at the format f, and package real's Text over the translated program. Conditions: the tables hold what start-up lays. -/
import Derived.Test.YtlebpaneignfaaaDoorFl9
import Derived.Laws.IdiomStrings
import Derived.Laws.Cover2
namespace Go.Proofs.YtlebpaneignfaaaDoor
open Go.ChangeShapes Go.WideShapes Go.ChangeAt Go.RowKit Go.Sort

theorem conv_own {w : World} {B : Nat} {v : Value} {l : List UInt8} (hl : l ≠ []) (h : w.ownsRow B 5 1 v l.length (Lib.byteCells l)) :
    ∃ g cap, v = .slice (some ⟨g, 0, none⟩) l.length cap ∧ (convert 27 9 (.slice (some ⟨g, 0, none⟩) l.length cap)).run Tryd.prog w = .ok (.string ⟨l.toArray⟩) w := by
  have hc := fun g => h.cells (g := g)
  rcases h.2 with ⟨_, h0⟩ | ⟨g, cap, cur, rfl, _⟩
  · exact absurd (List.eq_nil_of_length_eq_zero h0) hl
  · refine ⟨g, cap, rfl, run_convert_bytes_back w 27 9 5 ⟨g, 0, none⟩ cap l Tryd.underlying27 Tryd.underlying5 Tryd.underlying9 fun j hj => ?_⟩
    exact hc g rfl j _ (by simp [Lib.byteCells, hj])

set_option maxHeartbeats 1000000 in
set_option maxRecDepth 100000 in
/-- FormatFloat of the library's own, at the format f, of what ftoa64 does. -/
theorem iformat (b : Nat) (l : List UInt8) (hl0 : l ≠ []) (w : World)
    (h : ∀ W v, W.ownsRow w.heap.size 5 1 v 0 [] → w.heap.size ≤ W.heap.size → Below w.heap.size w W → Calls Tryd.prog 37 #[v, .float .f64 b, .int .u8 102, .int .i64 (-1)] W (FmtPost w.heap.size W l)) :
    Calls Tryd.prog 29 #[.float .f64 b, .int .u8 102, .int .i64 (-1), .int .i64 64] w fun e w' => e = .returned (.string ⟨l.toArray⟩) ∧ Below w.heap.size w w' := by
  have H := Lib.hid h
  clear h
  have hm24 : max (3 : Int) 24 = 24 := by decide
  have hmk : ∀ W : World, (Instr.makeSlice 27 (.int .i64 0) (.int .i64 24)).run Tryd.prog W = .ok (.slice (some ⟨W.heap.size, 0, none⟩) 0 24) (W.alloc (.cells (Array.replicate 24 (Value.int .u8 0)) 5)) := fun _ => by kernel_rfl
  go_enter Tryd.func29, Tryd.ntmps29
  go_wp2_with fail
  refine (H.out _ _ (own_made w 88 []).row (by simp) (own_made w 88 []).bel).mono ?_
  rintro en w5 ⟨v5, rfl, hr5, hb5⟩
  have hbel := (own_made w 88 []).bel.trans hb5
  obtain ⟨g, cap, rfl, hcv⟩ := conv_own hl0 hr5
  clear hr5 hb5
  go_wp2_with fail
  go_ret
  exact ⟨rfl, hbel⟩

/-- strconv.FormatFloat does what the library's own does. -/
theorem format (b : Nat) (f : Int) (l : List UInt8) (w : World)
    (h : ∀ W, Below w.heap.size w W → Calls Tryd.prog 29 #[.float .f64 b, .int .u8 f, .int .i64 (-1), .int .i64 64] W fun e w' => e = .returned (.string ⟨l.toArray⟩) ∧ Below W.heap.size W w') :
    Calls Tryd.prog 24 #[.float .f64 b, .int .u8 f, .int .i64 (-1), .int .i64 64] w fun e w' => e = .returned (.string ⟨l.toArray⟩) ∧ Below w.heap.size w w' := by
  have H := Lib.hid h
  clear h
  go_enter Tryd.func24, Tryd.ntmps24
  go_wp2_with fail
  refine (H.out w (Below.refl _ _)).mono ?_
  rintro en w5 ⟨rfl, hb5⟩
  go_wp2_with fail
  go_ret
  exact ⟨rfl, hb5⟩

def NanB : Nat := 9221120237041090561
set_option maxRecDepth 100000 in
/-- real.Text at a number of these bits that is none, or infinite. -/
theorem realText_special (b : Nat) (hb : b < 18446744073709551616) (l : List UInt8) (w : World)
    (h : (bitsN b = 9221120237041090561 ∧ l = [110, 97, 110]) ∨ (bitsN b = 9218868437227405312 ∧ l = [105, 110, 102]) ∨ (bitsN b = 18442240474082181120 ∧ l = [45, 105, 110, 102])) :
    Calls Tryd.prog 14 #[.float .f64 b] w fun e w' => e = .returned (.string ⟨l.toArray⟩) ∧ w = w' := by
  have HBits := Lib.hid (realBits_calls b hb)
  rcases h with ⟨h, rfl⟩ | ⟨h, rfl⟩ | ⟨h, rfl⟩
  all_goals
    have HB2 := HBits.out
    rw [h] at HB2
    have HB3 := Lib.hid HB2
    clear HB2 h
    go_enter Tryd.func14, Tryd.ntmps14
    go_wp2_with fail
    refine (HB3.out _).mono ?_; rintro en w' ⟨rfl, rfl⟩
    go_wp2_with fail
    go_ret
    exact ⟨rfl, rfl⟩
set_option maxRecDepth 100000 in
/-- real.Text at a number that is nothing. -/
theorem realText_zero (b : Nat) (neg : Bool) (h : (b = 0 ∧ neg = false) ∨ (b = 9223372036854775808 ∧ neg = true)) (w : World) :
    Calls Tryd.prog 14 #[.float .f64 b] w fun e w' => e = .returned (.string ⟨(sgn neg ++ [48]).toArray⟩) ∧ Below w.heap.size w w' := by
  have hf : ∀ W : World, Calls Tryd.prog 24 #[.float .f64 b, .int .u8 102, .int .i64 (-1), .int .i64 64] W fun e w' => e = .returned (.string ⟨(sgn neg ++ [48]).toArray⟩) ∧ Below W.heap.size W w' := by
    intro W
    refine format b 102 _ W fun W1 _ => iformat b _ (by cases neg <;> simp [sgn]) W1 fun W2 v a b' c => ftoa_zero b neg ?_ _ W2 v a b'
    rcases h with ⟨rfl, rfl⟩ | ⟨rfl, rfl⟩
    · exact ⟨by decide, by decide, by decide, by decide, by decide, by decide⟩
    · exact ⟨by decide, by decide, by decide, by decide, by decide, by decide⟩
  have HF := Lib.hid hf
  clear hf
  generalize sgn neg ++ [48] = l at *
  rcases h with ⟨rfl, -⟩ | ⟨rfl, -⟩
  all_goals
    have HB2 := realBits_calls
    have HB3 := Lib.hid HB2
    clear HB2
    go_enter Tryd.func14, Tryd.ntmps14
    go_wp2_with fail
    refine (HB3.out _ (by decide) _).mono ?_; rintro en w' ⟨rfl, rfl⟩
    go_wp2_with fail
    refine (HF.out _).mono ?_; rintro en w5 ⟨rfl, hb5⟩
    go_wp2_with fail
    go_ret
    exact ⟨rfl, hb5⟩

theorem fixText_ne (neg : Bool) (d : Nat) (p : Int) : fixText neg d p ≠ [] := by
  unfold fixText
  simp only []
  split
  · simp
  · split
    · simp
    · intro h
      have h2 := List.append_eq_nil_iff.1 h
      have h3 := List.append_eq_nil_iff.1 h2.1
      have h4 := congrArg List.length h2.2
      rw [List.length_replicate, List.length_nil] at h4
      have h5 : (digs d).length = 0 := by rw [h3.2]; rfl
      omega

set_option maxRecDepth 100000 in
theorem abs_calls (b : Nat) (hb : b < 18446744073709551616) (w : World) :
    Calls Tryd.prog 25 #[.float .f64 b] w fun e w' => e = .returned (.float .f64 (b % 9223372036854775808)) ∧ w = w' := by
  have ha := andnot63 b hb
  generalize b % 9223372036854775808 = r at *
  have hr : ((r : Int)).toNat = r := by omega
  go_enter Tryd.func25, Tryd.ntmps25
  go_wp2
  go_ret
  exact ⟨rfl, rfl⟩

set_option maxRecDepth 100000 in
/-- real.Text at a number that is neither very small nor very great. The two tests of its size are told by what the model's comparisons answer. -/
theorem realText_fix (b : Nat) (neg : Bool) (ex fr : Nat) (hb : Bits3 b neg ex fr) (hx0 : 1 ≤ ex) (hx1 : ex ≤ 2046) (hp : (shortDP ex fr).2 ≤ 370) (hB : bitsN b = b) (hn : b ≠ 9221120237041090561 ∧ b ≠ 9218868437227405312 ∧ b ≠ 18442240474082181120 ∧ b ≠ 0 ∧ b ≠ 9223372036854775808)
    (hlss : (FloatKind.f64.format.order (b % 9223372036854775808) 4547007122018943789 == some .lt) = false)
    (hgeq : (FloatKind.f64.format.order (b % 9223372036854775808) 4921056587992461136 == some .gt || FloatKind.f64.format.order (b % 9223372036854775808) 4921056587992461136 == some .eq) = false) (w : World) (hc : TCtx w) :
    Calls Tryd.prog 14 #[.float .f64 b] w fun e w' => e = .returned (.string ⟨(fixText neg (shortDP ex fr).1 (shortDP ex fr).2).toArray⟩) ∧ Below w.heap.size w w' := by
  have hf : Calls Tryd.prog 24 #[.float .f64 b, .int .u8 102, .int .i64 (-1), .int .i64 64] w fun e w' => e = .returned (.string ⟨(fixText neg (shortDP ex fr).1 (shortDP ex fr).2).toArray⟩) ∧ Below w.heap.size w w' :=
    format b 102 _ w fun W1 hb1 => iformat b _ (fixText_ne _ _ _) W1 fun W2 v a b' c => ftoa_normal b neg ex fr hb hx0 hx1 hp _ W2 v a b' ((hc.below hb1).below c)
  generalize fixText neg (shortDP ex fr).1 (shortDP ex fr).2 = l at *
  have hlt := hb.lt
  have HF := Lib.hid hf
  have HBits := realBits_calls b hlt
  rw [hB] at HBits
  have HAbs := abs_calls b hlt
  generalize b % 9223372036854775808 = r at *
  have HB3 := Lib.hid HBits
  have HA := Lib.hid HAbs
  have n1 : ((b : Int) == 9221120237041090561) = false := by rw [beq_eq_false_iff_ne]; omega
  have n2 : ((b : Int) == 9218868437227405312) = false := by rw [beq_eq_false_iff_ne]; omega
  have n3 : ((b : Int) == 18442240474082181120) = false := by rw [beq_eq_false_iff_ne]; omega
  have n4 : ((b : Int) == 0) = false := by rw [beq_eq_false_iff_ne]; omega
  have n5 : ((b : Int) == 9223372036854775808) = false := by rw [beq_eq_false_iff_ne]; omega
  clear hf HBits HAbs hn hB hc hb
  go_enter Tryd.func14, Tryd.ntmps14
  go_wp2_with fail
  refine (HB3.out _).mono ?_; rintro en w' ⟨rfl, rfl⟩
  go_wp2_with fail
  refine (HA.out _).mono ?_; rintro en w' ⟨rfl, rfl⟩
  go_wp2_with fail
  refine HF.out.mono ?_; rintro en w5 ⟨rfl, hb5⟩
  go_wp2_with fail
  go_ret
  exact ⟨rfl, hb5⟩
theorem bitsN_num (a : Nat) (h : a % 9223372036854775808 ≤ 9218868437227405312) : bitsN a = a := by
  unfold bitsN
  rw [if_neg (by omega)]
end Go.Proofs.YtlebpaneignfaaaDoor
