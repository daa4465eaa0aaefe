/- Layer 14's statements: acts that came in; the chapter's example. No condition. -/
import Derived.Test.YtkpcobaklbfpcaaKr5
namespace Go.Proofs.Ytkpcobaklbfpcaa.Ka
set_option linter.unusedVariables false
set_option linter.unusedSimpArgs false
open Go.ChangeShapes Go.WideShapes Go.ChangeAt Go.RowKit
open Sp (Th Hp Stays All Ro roT cellsT rowT exT puT star)
/-- An act. -/
structure Ac where
  kd : Int
  n : Int
  k : ByteArray
/-- Acts as they lie. -/
def InA (W : World) (a : Option Addr) (l : List Ac) : Prop := 0 < l.length → ∃ b o, a = some ⟨b, o, none⟩ ∧ b < W.heap.size ∧ ∀ i (h : i < l.length), W.cell? ⟨b, o + i * 3, none⟩ = some (.int .i64 l[i].kd) ∧ W.cell? ⟨b, o + i * 3 + 1, none⟩ = some (.int .i64 l[i].n) ∧ W.cell? ⟨b, o + i * 3 + 2, none⟩ = some (.string l[i].k)
theorem InA.below {B : Nat} {w w' : World} {a : Option Addr} {l : List Ac} (h : InA w a l) (hB : w.heap.size ≤ B) (hb : Below B w w') : InA w' a l := fun hp => by
  obtain ⟨b, o, rfl, hlt, hc⟩ := h hp
  have e : ∀ j, w'.cell? ⟨b, j, none⟩ = w.cell? ⟨b, j, none⟩ := fun j => hb.cell (p := ⟨b, j, none⟩) (Nat.lt_of_lt_of_le hlt hB)
  exact ⟨b, o, rfl, Nat.lt_of_lt_of_le hlt hb.size, fun i hi => by rw [e, e, e]; exact hc i hi⟩
def okAc (q : Ac) : Prop := q.k.size ≤ maxLen ∧ (Lit.int .i64 q.n).wf = true
theorem one_max {n : Nat} (h : n ≤ 1000) : n ≤ maxLen := by unfold maxLen; omega
theorem alive1 : addR ⟨#[97]⟩ 2 (roomR 2 ⟨#[97]⟩ []) = [(⟨#[97]⟩, [2])] := by decide
theorem alive2 : addR ⟨#[97]⟩ 1 (roomR 2 ⟨#[97]⟩ [(⟨#[97]⟩, [2])]) = [(⟨#[97]⟩, [1, 2])] := by decide
theorem alive3 : addR ⟨#[98]⟩ 1 (roomR 2 ⟨#[98]⟩ [(⟨#[97]⟩, [1, 2])]) = [(⟨#[97]⟩, [1, 2]), (⟨#[98]⟩, [1])] := by decide
theorem alive4 : addR ⟨#[99]⟩ 1 (roomR 2 ⟨#[99]⟩ [(⟨#[97]⟩, [1, 2]), (⟨#[98]⟩, [1])]) = [(⟨#[98]⟩, [1]), (⟨#[99]⟩, [1])] := by decide
theorem alive5 : goneR 2 ⟨#[99]⟩ [(⟨#[97]⟩, [1, 2]), (⟨#[98]⟩, [1])] = (⟨#[97]⟩, [1, 2]) ∧ fullR 2 ⟨#[99]⟩ [(⟨#[97]⟩, [1, 2]), (⟨#[98]⟩, [1])] = true := by decide
set_option maxHeartbeats 8000000 in
set_option maxRecDepth 100000 in
theorem keysAlive (w : World) : Calls Try.prog 6 #[] w fun e w' => e = .returned (.bool true) ∧ Below w.heap.size w w' := by
  have H0 := Lib.hid (new_calls (Hp.nil (Below.refl w.heap.size w)) (Below.refl _ _) 2)
  have e2 : max (2 : Int) 1 = ((2 : Nat) : Int) := by decide
  rw [e2] at H0
  unfold ptr at H0
  go_enter Try.func6, Try.ntmps6
  go_wp2_with fail
  refine H0.out.mono ?_; rintro en w1 ⟨T, rfl, h1⟩
  have H1 := Lib.hid (add_calls h1 (Below.refl _ _) (k := ⟨#[97]⟩) (one_max (by decide)) (by decide) (by decide) (fun r hr => (nomatch hr)) (by decide) 2 (by decide))
  rw [alive1] at H1
  unfold ptr at H1
  clear h1 H0
  generalize (goneR 2 ⟨#[97]⟩ []).1 = x1 at *
  generalize fullR 2 ⟨#[97]⟩ [] = x2 at *
  go_wp2_with fail
  refine H1.out.mono ?_; rintro en w2 ⟨v2, rfl, h2⟩
  have H2 := Lib.hid (add_calls (h2.dropAt 0 rfl) (Below.refl _ _) (k := ⟨#[97]⟩) (one_max (by decide)) (by decide) (by decide) (by decide) (by decide) 1 (by decide))
  rw [alive2] at H2
  unfold ptr at H2
  clear h2 H1
  generalize (goneR 2 ⟨#[97]⟩ [(⟨#[97]⟩, [2])]).1 = x3 at *
  generalize fullR 2 ⟨#[97]⟩ [(⟨#[97]⟩, [2])] = x4 at *
  go_wp2_with fail
  refine H2.out.mono ?_; rintro en w3 ⟨v3, rfl, h3⟩
  have H3 := Lib.hid (add_calls (h3.dropAt 0 rfl) (Below.refl _ _) (k := ⟨#[98]⟩) (one_max (by decide)) (by decide) (by decide) (by decide) (by decide) 1 (by decide))
  rw [alive3] at H3
  unfold ptr at H3
  clear h3 H2
  generalize (goneR 2 ⟨#[98]⟩ [(⟨#[97]⟩, [1, 2])]).1 = x5 at *
  generalize fullR 2 ⟨#[98]⟩ [(⟨#[97]⟩, [1, 2])] = x6 at *
  go_wp2_with fail
  refine H3.out.mono ?_; rintro en w4 ⟨v4, rfl, h4⟩
  have H4 := Lib.hid (add_calls (h4.dropAt 0 rfl) (Below.refl _ _) (k := ⟨#[99]⟩) (one_max (by decide)) (by decide) (by decide) (by decide) (by decide) 1 (by decide))
  rw [alive4, alive5.1, alive5.2] at H4
  unfold ptr at H4
  clear h4 H3
  go_wp2_with fail
  refine H4.out.mono ?_; rintro en w5 ⟨v5, rfl, h5⟩
  obtain ⟨a5, c5, rfl, -, -⟩ := rowI_slice h5
  have h6 := h5.bel (Sp.bbox (.cells #[.int .i64 1, .int .i64 2] 3))
  have HS := Lib.hid (sameI_calls (w5.alloc (.cells #[.int .i64 1, .int .i64 2] 3)) a5 (some ⟨w5.heap.size, 0, none⟩) c5 2 [1, 2] (by decide) (rowI_atI h6) fun _ => ⟨_, rfl, fun j hj => by
    rw [World.cell?_alloc_new]
    rcases j with _ | _ | j
    · rfl
    · rfl
    · have : j + 1 + 1 < 2 := hj
      omega⟩)
  have H6 := Lib.hid h6
  clear h5 h6 H4
  go_wp2_with fail
  refine HS.out.mono ?_; rintro en w6 ⟨rfl, hb6⟩
  have h7 := H6.out.bel hb6
  have HL := Lib.hid (len_calls (h7.pull 1 rfl) (Below.refl _ _))
  unfold ptr at HL
  have HB := Lib.hid h7.below
  clear h7 H6 hb6
  go_wp2_with fail
  refine HL.out.mono ?_; rintro en w7 ⟨rfl, rfl⟩
  go_wp2_with fail
  go_ret
  exact ⟨rfl, HB.out⟩
end Go.Proofs.Ytkpcobaklbfpcaa.Ka
