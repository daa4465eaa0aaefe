/- The call valueAlive: true. No condition. -/
import Derived.Test.YtiigfcggdjcmfaaDoorVc4
import Derived.Deep.DeepCutAuto
namespace Go.Proofs.YtiigfcggdjcmfaaDoor
open Go.ChangeShapes Go.WideShapes Go.ChangeAt Go.RowKit

theorem At.lits {w : World} {b : Nat} {k : Int} {t : ByteArray} {z : Int} {r : Nat} {f : Bool} {a : Option Addr} {c n : Nat} {K : Nat → Val} (h : At w b 0 (.mk k t z r f a c n K)) :
    w.cell? ⟨b, 0, none⟩ = some (.int .i64 k) ∧ w.cell? ⟨b, 1, none⟩ = some (.string t) ∧ w.cell? ⟨b, 2, none⟩ = some (.int .i64 z) ∧ w.cell? ⟨b, 3, none⟩ = some (.float .f64 r) ∧ w.cell? ⟨b, 4, none⟩ = some (.bool f) ∧ w.cell? ⟨b, 5, none⟩ = some (.slice a n c) := h
def kid1 : Nat → Val := fun _ => vText ⟨#[97]⟩
def kid2 : Nat → Val := fun i => if i = 0 then vText ⟨#[97]⟩ else vInt 1
def vMap (b n : Nat) (K : Nat → Val) : Val := .mk 12 ⟨#[]⟩ 0 0 false (some ⟨b, 0, none⟩) n n K
theorem map1_facts (w : World) :
    At ((w.alloc (.cells #[.int .i64 4, .string ⟨#[97]⟩, .int .i64 0, .float .f64 0, .bool false, .slice none 0 0] 25)).alloc (.cells #[.int .i64 12, .string ⟨#[]⟩, .int .i64 0, .float .f64 0, .bool false, .slice (some ⟨w.heap.size, 0, none⟩) 1 1] 25)) w.heap.size 0 (vText ⟨#[97]⟩) ∧
    At ((w.alloc (.cells #[.int .i64 4, .string ⟨#[97]⟩, .int .i64 0, .float .f64 0, .bool false, .slice none 0 0] 25)).alloc (.cells #[.int .i64 12, .string ⟨#[]⟩, .int .i64 0, .float .f64 0, .bool false, .slice (some ⟨w.heap.size, 0, none⟩) 1 1] 25)) (w.heap.size + 1) 0 (vMap w.heap.size 1 kid1) ∧
    ((w.alloc (.cells #[.int .i64 4, .string ⟨#[97]⟩, .int .i64 0, .float .f64 0, .bool false, .slice none 0 0] 25)).alloc (.cells #[.int .i64 12, .string ⟨#[]⟩, .int .i64 0, .float .f64 0, .bool false, .slice (some ⟨w.heap.size, 0, none⟩) 1 1] 25)).heap.size = w.heap.size + 2 ∧
    Below w.heap.size w ((w.alloc (.cells #[.int .i64 4, .string ⟨#[97]⟩, .int .i64 0, .float .f64 0, .bool false, .slice none 0 0] 25)).alloc (.cells #[.int .i64 12, .string ⟨#[]⟩, .int .i64 0, .float .f64 0, .bool false, .slice (some ⟨w.heap.size, 0, none⟩) 1 1] 25)) := by
  refine ⟨⟨?_, ?_, ?_, ?_, ?_, ?_⟩, ⟨?_, ?_, ?_, ?_, ?_, ?_⟩, by simp, ((Below.refl _ _).alloc (Nat.le_refl _) _).alloc (by simp) _⟩ <;> go_simp
theorem map2_facts (w : World) :
    At ((w.alloc (.cells #[.int .i64 4, .string ⟨#[97]⟩, .int .i64 0, .float .f64 0, .bool false, .slice none 0 0, .int .i64 3, .string ⟨#[]⟩, .int .i64 1, .float .f64 0, .bool false, .slice none 0 0] 25)).alloc (.cells #[.int .i64 12, .string ⟨#[]⟩, .int .i64 0, .float .f64 0, .bool false, .slice (some ⟨w.heap.size, 0, none⟩) 2 2] 25)) w.heap.size 0 (vText ⟨#[97]⟩) ∧
    At ((w.alloc (.cells #[.int .i64 4, .string ⟨#[97]⟩, .int .i64 0, .float .f64 0, .bool false, .slice none 0 0, .int .i64 3, .string ⟨#[]⟩, .int .i64 1, .float .f64 0, .bool false, .slice none 0 0] 25)).alloc (.cells #[.int .i64 12, .string ⟨#[]⟩, .int .i64 0, .float .f64 0, .bool false, .slice (some ⟨w.heap.size, 0, none⟩) 2 2] 25)) w.heap.size 6 (vInt 1) ∧
    At ((w.alloc (.cells #[.int .i64 4, .string ⟨#[97]⟩, .int .i64 0, .float .f64 0, .bool false, .slice none 0 0, .int .i64 3, .string ⟨#[]⟩, .int .i64 1, .float .f64 0, .bool false, .slice none 0 0] 25)).alloc (.cells #[.int .i64 12, .string ⟨#[]⟩, .int .i64 0, .float .f64 0, .bool false, .slice (some ⟨w.heap.size, 0, none⟩) 2 2] 25)) (w.heap.size + 1) 0 (vMap w.heap.size 2 kid2) ∧
    ((w.alloc (.cells #[.int .i64 4, .string ⟨#[97]⟩, .int .i64 0, .float .f64 0, .bool false, .slice none 0 0, .int .i64 3, .string ⟨#[]⟩, .int .i64 1, .float .f64 0, .bool false, .slice none 0 0] 25)).alloc (.cells #[.int .i64 12, .string ⟨#[]⟩, .int .i64 0, .float .f64 0, .bool false, .slice (some ⟨w.heap.size, 0, none⟩) 2 2] 25)).heap.size = w.heap.size + 2 ∧
    Below w.heap.size w ((w.alloc (.cells #[.int .i64 4, .string ⟨#[97]⟩, .int .i64 0, .float .f64 0, .bool false, .slice none 0 0, .int .i64 3, .string ⟨#[]⟩, .int .i64 1, .float .f64 0, .bool false, .slice none 0 0] 25)).alloc (.cells #[.int .i64 12, .string ⟨#[]⟩, .int .i64 0, .float .f64 0, .bool false, .slice (some ⟨w.heap.size, 0, none⟩) 2 2] 25)) := by
  refine ⟨⟨?_, ?_, ?_, ?_, ?_, ?_⟩, ⟨?_, ?_, ?_, ?_, ?_, ?_⟩, ⟨?_, ?_, ?_, ?_, ?_, ?_⟩, by simp, ((Below.refl _ _).alloc (Nat.le_refl _) _).alloc (by simp) _⟩ <;> go_simp

theorem lies_text {S : Nat → Prop} {w : World} {k : Int} {s : ByteArray} {z : Int} {r : Nat} {f : Bool} {c : Nat} {K : Nat → Val} (h : -9223372036854775808 ≤ k ∧ k ≤ 9223372036854775807 ∧ s.size ≤ 281474976710656 ∧ -9223372036854775808 ≤ z ∧ z ≤ 9223372036854775807 ∧ r < 18446744073709551616 ∧ 0 ≤ c ∧ c ≤ 9223372036854775807 ∧ 0 * 72 ≤ 281474976710656) (a : Option Addr) :
    Lies S w (.mk k s z r f a c 0 K) := ⟨h, fun h => absurd h (by omega), fun i hi => absurd hi (by omega)⟩
theorem lies_map1 {S : Nat → Prop} {w : World} {b : Nat} (hb : S b) (h : At w b 0 (vText ⟨#[97]⟩)) : Lies S w (vMap b 1 kid1) := by
  refine ⟨by decide, fun _ => ⟨b, 0, rfl, hb⟩, fun i hi => ⟨fun b2 o2 e => ?_, lies_text (by decide) _⟩⟩
  injection e with e
  injection e with e1 e2
  subst e1 e2
  obtain rfl : i = 0 := by omega
  exact h
theorem lies_map2 {S : Nat → Prop} {w : World} {b : Nat} (hb : S b) (h0 : At w b 0 (vText ⟨#[97]⟩)) (h1 : At w b 6 (vInt 1)) : Lies S w (vMap b 2 kid2) := by
  refine ⟨by decide, fun _ => ⟨b, 0, rfl, hb⟩, fun i hi => ⟨fun b2 o2 e => ?_, ?_⟩⟩
  · injection e with e
    injection e with e1 e2
    subst e1 e2
    rcases (show i = 0 ∨ i = 1 by omega) with rfl | rfl
    · exact h0
    · exact h1
  · rcases (show i = 0 ∨ i = 1 by omega) with rfl | rfl
    · exact lies_text (by decide) _
    · exact lies_text (by decide) _
theorem fits_map1 (b : Nat) : (vMap b 1 kid1).fits := ⟨fits_none _ _ (by omega) (by decide), fun i hi => ⟨fits_bulk _ _ (by omega) (by decide), fun i hi => absurd hi (by omega)⟩⟩
theorem fits_map2 (b : Nat) : (vMap b 2 kid2).fits := ⟨fits_none _ _ (by omega) (by decide), fun i hi => by
  rcases (show i = 0 ∨ i = 1 by omega) with rfl | rfl
  · exact ⟨fits_bulk _ _ (by omega) (by decide), fun i hi => absurd hi (by omega)⟩
  · exact ⟨fits_none _ _ (by omega) (by decide), fun i hi => absurd hi (by omega)⟩⟩
theorem check_map1 (b : Nat) : checkN (vMap b 1 kid1) = 31 := by rfl
theorem check_map2 (b : Nat) : checkN (vMap b 2 kid2) = 0 := by rfl
theorem depth_map2 (b : Nat) : (vMap b 2 kid2).depth = 1 := by rfl
theorem count_map2 (b : Nat) : (vMap b 2 kid2).count = 3 := by rfl
theorem nest_map2 (b : Nat) : (vMap b 2 kid2).nest = 2 := by rfl

set_option maxHeartbeats 2000000 in
set_option maxRecDepth 100000 in
theorem valive_calls (w : World) : Calls Tryd.prog 7 #[] w fun e w' => e = .returned (.bool true) ∧ Below w.heap.size w w' := by
  have HTx := Lib.hid vtext_calls
  have HIn := Lib.hid vint_calls
  go_enter Tryd.func7, Tryd.ntmps7
  go_wp2_with fail
  refine (HTx.out _ _).mono ?_; rintro en w1 ⟨rfl, hb1⟩
  unfold vText Val.agg
  have Hb1 := Lib.hid hb1
  clear hb1
  go_wp2_with fail
  obtain ⟨f1, f2, f3, f4⟩ := map1_facts w1
  generalize hW1 : ((w1.alloc _).alloc _) = W1 at *
  clear hW1
  refine (HTx.out _ W1).mono ?_; rintro en w2 ⟨rfl, hb2⟩
  unfold vText Val.agg
  replace f1 := f1.below hb2 (by omega)
  replace f2 := f2.below hb2 (by omega)
  have Hb2 := Lib.hid (bstep (bstep Hb1.out f4) hb2)
  have hz2 := hb2.size
  clear hb2 f4 Hb1
  go_wp2_with fail
  refine (HIn.out _ _).mono ?_; rintro en w3 ⟨rfl, hb3⟩
  unfold vInt Val.agg
  replace f1 := f1.below hb3 (by omega)
  replace f2 := f2.below hb3 (by omega)
  have Hb3 := Lib.hid (bstep Hb2.out hb3)
  have hz3 := hb3.size
  clear hb3 Hb2
  go_upto_region 3 with (fail)
  obtain ⟨g1, g2, g3, g4, g5⟩ := map2_facts w3
  generalize hW2 : ((w3.alloc _).alloc _) = W2 at *
  clear hW2
  replace f1 := f1.below g5 (by omega)
  replace f2 := f2.below g5 (by omega)
  have Hb4 := Lib.hid (bstep Hb3.out g5)
  clear g5 Hb3
  have hc1 := check_calls (vMap w1.heap.size 1 kid1) (fun b => b < W2.heap.size) W2 (fun _ h => h) (lies_map1 (by show w1.heap.size < W2.heap.size; omega) f1) (fits_map1 _)
  have Hc1 := Lib.hid hc1
  have G1 := Lib.hid g1
  have G2 := Lib.hid g2
  have G3 := Lib.hid g3
  obtain ⟨x0, x1, x2, x3, x4, x5⟩ := f2.lits
  clear hc1 g1 g2 g3 f1
  go_wp2_with fail
  refine Hc1.out.mono ?_; rintro en w4 ⟨rfl, hb5⟩
  rw [check_map1]
  have G1b := Lib.hid (G1.out.below hb5 (by omega))
  have G2b := Lib.hid (G2.out.below hb5 (by omega))
  have G3b := Lib.hid (G3.out.below hb5 (by omega))
  have Hb5 := Lib.hid (bstep Hb4.out hb5)
  have hz5 := hb5.size
  clear hb5
  have hc2 := check_calls (vMap w3.heap.size 2 kid2) (fun b => b < w4.heap.size) w4 (fun _ h => h) (lies_map2 (by show w3.heap.size < w4.heap.size; omega) G1b.out G2b.out) (fits_map2 _)
  have Hc2 := Lib.hid hc2
  clear hc2
  obtain ⟨x0, x1, x2, x3, x4, x5⟩ := G3b.out.lits
  go_wp2_with fail
  refine Hc2.out.mono ?_; rintro en w5 ⟨rfl, hb6⟩
  rw [check_map2]
  have G1c := Lib.hid (G1b.out.below hb6 (by omega))
  have G2c := Lib.hid (G2b.out.below hb6 (by omega))
  have G3c := Lib.hid (G3b.out.below hb6 (by omega))
  have Hb6 := Lib.hid (bstep Hb5.out hb6)
  have hz6 := hb6.size
  clear hb6 x0 x1 x2 x3 x4 x5
  have hc3 := vdepth_calls (vMap w3.heap.size 2 kid2) (fun b => b < w5.heap.size) w5 (fun _ h => h) (lies_map2 (by show w3.heap.size < w5.heap.size; omega) G1c.out G2c.out) (by rw [nest_map2]; decide)
  rw [depth_map2] at hc3
  have Hc3 := Lib.hid hc3
  clear hc3
  obtain ⟨x0, x1, x2, x3, x4, x5⟩ := G3c.out.lits
  go_wp2_with fail
  refine Hc3.out.mono ?_; rintro en w6 ⟨rfl, hb7⟩
  have G1d := Lib.hid (G1c.out.below hb7 (by omega))
  have G2d := Lib.hid (G2c.out.below hb7 (by omega))
  have G3d := Lib.hid (G3c.out.below hb7 (by omega))
  have Hb7 := Lib.hid (bstep Hb6.out hb7)
  have hz7 := hb7.size
  clear hb7 x0 x1 x2 x3 x4 x5
  have hc4 := count_calls (vMap w3.heap.size 2 kid2) (fun b => b < w6.heap.size) w6 (fun _ h => h) (lies_map2 (by show w3.heap.size < w6.heap.size; omega) G1d.out G2d.out) (by rw [nest_map2]; decide) (by rw [count_map2]; decide)
  rw [count_map2] at hc4
  have Hc4 := Lib.hid hc4
  clear hc4
  obtain ⟨x0, x1, x2, x3, x4, x5⟩ := G3d.out.lits
  go_wp2_with fail
  refine Hc4.out.mono ?_; rintro en w7 ⟨rfl, hb8⟩
  have Hb8 := Lib.hid (bstep Hb7.out hb8)
  clear hb8
  go_wp2_with fail
  go_ret
  exact ⟨rfl, Hb8.out⟩
end Go.Proofs.YtiigfcggdjcmfaaDoor
