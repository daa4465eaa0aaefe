/- The walk of the law ValueNames: true. No condition. -/
import Derived.Test.YthngmmdfidhhpaaDoorVd1
namespace Go.Proofs.YthngmmdfidhhpaaDoor
open Go.ChangeShapes Go.WideShapes Go.ChangeAt Go.RowKit

def kid3 : Nat → Val := fun i => if i = 0 then vOk else if i = 1 then vNil else vFail ⟨#[110, 111]⟩
theorem row3_facts (w : World) :
    At (w.alloc (.cells #[.int .i64 1, .string ⟨#[79, 75]⟩, .int .i64 0, .float .f64 0, .bool false, .slice none 0 0, .int .i64 6, .string ⟨#[]⟩, .int .i64 0, .float .f64 0, .bool false, .slice none 0 0, .int .i64 2, .string ⟨#[110, 111]⟩, .int .i64 0, .float .f64 0, .bool false, .slice none 0 0] 25)) w.heap.size 0 vOk ∧
    At (w.alloc (.cells #[.int .i64 1, .string ⟨#[79, 75]⟩, .int .i64 0, .float .f64 0, .bool false, .slice none 0 0, .int .i64 6, .string ⟨#[]⟩, .int .i64 0, .float .f64 0, .bool false, .slice none 0 0, .int .i64 2, .string ⟨#[110, 111]⟩, .int .i64 0, .float .f64 0, .bool false, .slice none 0 0] 25)) w.heap.size 6 vNil ∧
    At (w.alloc (.cells #[.int .i64 1, .string ⟨#[79, 75]⟩, .int .i64 0, .float .f64 0, .bool false, .slice none 0 0, .int .i64 6, .string ⟨#[]⟩, .int .i64 0, .float .f64 0, .bool false, .slice none 0 0, .int .i64 2, .string ⟨#[110, 111]⟩, .int .i64 0, .float .f64 0, .bool false, .slice none 0 0] 25)) w.heap.size 12 (vFail ⟨#[110, 111]⟩) ∧
    (w.alloc (.cells #[.int .i64 1, .string ⟨#[79, 75]⟩, .int .i64 0, .float .f64 0, .bool false, .slice none 0 0, .int .i64 6, .string ⟨#[]⟩, .int .i64 0, .float .f64 0, .bool false, .slice none 0 0, .int .i64 2, .string ⟨#[110, 111]⟩, .int .i64 0, .float .f64 0, .bool false, .slice none 0 0] 25)).heap.size = w.heap.size + 1 ∧
    Below w.heap.size w (w.alloc (.cells #[.int .i64 1, .string ⟨#[79, 75]⟩, .int .i64 0, .float .f64 0, .bool false, .slice none 0 0, .int .i64 6, .string ⟨#[]⟩, .int .i64 0, .float .f64 0, .bool false, .slice none 0 0, .int .i64 2, .string ⟨#[110, 111]⟩, .int .i64 0, .float .f64 0, .bool false, .slice none 0 0] 25)) := by
  refine ⟨⟨?_, ?_, ?_, ?_, ?_, ?_⟩, ⟨?_, ?_, ?_, ?_, ?_, ?_⟩, ⟨?_, ?_, ?_, ?_, ?_, ?_⟩, by simp, (Below.refl _ _).alloc (Nat.le_refl _) _⟩ <;> go_simp
theorem lies_row3 {S : Nat → Prop} {w : World} {b : Nat} (hb : S b) (h0 : At w b 0 vOk) (h1 : At w b 6 vNil) (h2 : At w b 12 (vFail ⟨#[110, 111]⟩)) : Lies S w (.mk 5 ⟨#[]⟩ 0 0 false (some ⟨b, 0, none⟩) 3 3 kid3) := by
  refine ⟨by decide, fun _ => ⟨b, 0, rfl, hb⟩, fun i hi => ⟨fun b2 o2 e => ?_, ?_⟩⟩
  · injection e with e
    injection e with e1 e2
    subst e1 e2
    rcases (show i = 0 ∨ i = 1 ∨ i = 2 by omega) with rfl | rfl | rfl
    · exact h0
    · exact h1
    · exact h2
  · rcases (show i = 0 ∨ i = 1 ∨ i = 2 by omega) with rfl | rfl | rfl
    · exact lies_text (by decide) _
    · exact lies_text (by decide) _
    · exact lies_text (by decide) _
/-- What the walk reads of the list that List made. -/
theorem made3 {W w : World} {e : Ending} {b : Nat} (h : Copied (.mk 5 ⟨#[]⟩ 0 0 false (some ⟨b, 0, none⟩) 3 3 kid3) W e w) : ∃ B C, e = .returned (.agg #[.int .i64 5, .string ⟨#[]⟩, .int .i64 0, .float .f64 0, .bool false, .slice (some ⟨B, 0, none⟩) 3 C]) ∧
    Below W.heap.size W w ∧ B < w.heap.size ∧ 3 ≤ C ∧ w.cell? ⟨B, 0, none⟩ = some (.int .i64 1) ∧ w.cell? ⟨B, 1, none⟩ = some (.string ⟨#[79, 75]⟩) ∧ w.cell? ⟨B, 6, none⟩ = some (.int .i64 6) ∧ w.cell? ⟨B, 12, none⟩ = some (.int .i64 2) ∧ w.cell? ⟨B, 13, none⟩ = some (.string ⟨#[110, 111]⟩) := by
  obtain ⟨v', rfl, ⟨a', c', K', rfl, hk⟩, hb, hl, hn⟩ := h
  obtain ⟨B, rfl, -, -, -⟩ := hn (by omega)
  obtain ⟨h9, h1, h2⟩ := hl
  obtain ⟨b2, o2, e, hB⟩ := h1 (by omega)
  injection e with e
  injection e with e1 e2
  subst e1 e2
  have g0 := (h2 0 (by omega)).1 _ _ rfl
  have g1 := (h2 1 (by omega)).1 _ _ rfl
  have g2 := (h2 2 (by omega)).1 _ _ rfl
  obtain ⟨_, _, _, k0, -⟩ := hk 0 (by omega)
  obtain ⟨_, _, _, k1, -⟩ := hk 1 (by omega)
  obtain ⟨_, _, _, k2, -⟩ := hk 2 (by omega)
  rw [k0] at g0
  rw [k1] at g1
  rw [k2] at g2
  exact ⟨B, c', rfl, hb, hB.2, h9.2.2.2.2.2.2.1, g0.1, g0.2.1, g1.1, g2.1, g2.2.1⟩

set_option maxHeartbeats 4000000 in
set_option maxRecDepth 100000 in
theorem valueNames (w : World) : Calls Tryd.prog 3 #[] w fun e w' => e = .returned (.bool true) ∧ Below w.heap.size w w' := by
  have HOk := Lib.hid vok_calls
  have HNil := Lib.hid vnil_calls
  have HFail := Lib.hid vfail_calls
  go_enter Tryd.func3, Tryd.ntmps3
  go_wp2_with fail
  refine (HOk.out _).mono ?_; rintro en w1 ⟨rfl, hb1⟩
  unfold vOk Val.agg
  have Hb1 := Lib.hid hb1
  clear hb1
  go_wp2_with fail
  refine (HNil.out _).mono ?_; rintro en w2 ⟨rfl, hb2⟩
  unfold vNil Val.agg
  have Hb2 := Lib.hid (bstep Hb1.out hb2)
  clear hb2 Hb1
  go_wp2_with fail
  refine (HFail.out _ _).mono ?_; rintro en w3 ⟨rfl, hb3⟩
  unfold vFail Val.agg
  have Hb3 := Lib.hid (bstep Hb2.out hb3)
  clear hb3 Hb2
  go_wp2_with fail
  obtain ⟨f1, f2, f3, f4, f5⟩ := row3_facts w3
  generalize hW1 : (w3.alloc _) = W1 at *
  clear hW1
  have hlist := list_calls (some ⟨w3.heap.size, 0, none⟩) 3 3 kid3 (fun b => b < W1.heap.size) W1 (fun _ h => h) (lies_row3 (by show w3.heap.size < W1.heap.size; omega) f1 f2 f3) (fun i hi => by
    rcases (show i = 0 ∨ i = 1 ∨ i = 2 by omega) with rfl | rfl | rfl <;> exact ⟨by decide, by decide⟩)
  have Hlist := Lib.hid hlist
  have Hb4 := Lib.hid (bstep Hb3.out f5)
  clear hlist f1 f2 f3 f4 f5 Hb3
  refine Hlist.out.mono ?_; intro en w4 h4
  obtain ⟨B, C, rfl, hb4, hB, hC, c0, c1, c2, c3, c4⟩ := made3 h4
  have Hb5 := Lib.hid (bstep Hb4.out hb4)
  clear h4 hb4 Hb4
  go_wp2_with fail
  have hnew : At (w4.alloc (.cells #[.int .i64 5, .string ⟨#[]⟩, .int .i64 0, .float .f64 0, .bool false, .slice (some ⟨B, 0, none⟩) 3 C] 25)) w4.heap.size 0 (.mk 5 ⟨#[]⟩ 0 0 false (some ⟨B, 0, none⟩) C 3 kid3) := at_new ..
  have hgr : Below w4.heap.size w4 (w4.alloc (.cells #[.int .i64 5, .string ⟨#[]⟩, .int .i64 0, .float .f64 0, .bool false, .slice (some ⟨B, 0, none⟩) 3 C] 25)) := (Below.refl _ _).alloc (Nat.le_refl _) _
  have hsz : (w4.alloc (.cells #[.int .i64 5, .string ⟨#[]⟩, .int .i64 0, .float .f64 0, .bool false, .slice (some ⟨B, 0, none⟩) 3 C] 25)).heap.size = w4.heap.size + 1 := by simp
  generalize hW2 : (w4.alloc _) = W2 at *
  clear hW2
  refine (alive_calls W2).mono ?_; rintro en w5 ⟨rfl, hb5⟩
  have hall := hgr.trans (hb5.mono (by omega))
  have Hb6 := Lib.hid (bstep Hb5.out hall)
  obtain ⟨x0, -, -, -, -, x5⟩ := (hnew.below hb5 (by omega)).lits
  replace c0 := (hall.cell (p := ⟨B, 0, none⟩) hB).trans c0
  replace c1 := (hall.cell (p := ⟨B, 1, none⟩) hB).trans c1
  replace c2 := (hall.cell (p := ⟨B, 6, none⟩) hB).trans c2
  replace c3 := (hall.cell (p := ⟨B, 12, none⟩) hB).trans c3
  replace c4 := (hall.cell (p := ⟨B, 13, none⟩) hB).trans c4
  clear hnew hgr hall hb5 Hb5
  go_wp2_with fail
  go_ret
  exact ⟨rfl, Hb6.out⟩
end Go.Proofs.YthngmmdfidhhpaaDoor
