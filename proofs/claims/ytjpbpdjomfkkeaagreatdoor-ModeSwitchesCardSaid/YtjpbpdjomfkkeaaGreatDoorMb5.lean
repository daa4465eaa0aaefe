/- Package mode: Copy, together, Switch. No condition but bounds. -/
import Derived.Test.YtjpbpdjomfkkeaaGreatDoorMb4
namespace Go.Proofs.YtjpbpdjomfkkeaaGreatDoor.Ma
set_option linter.unusedVariables false
set_option linter.unusedSimpArgs false
open Go.ChangeShapes Go.WideShapes Go.ChangeAt Go.RowKit
open Go.Proofs.YtjpbpdjomfkkeaaGreatDoor.Sp (bstep bbox)
/-- Known cells in a block of the call's own. -/
structure CellL (w : World) (b : Nat) (vs : List Value) : Prop where
  lt : b < w.heap.size
  c : ∀ i (h : i < vs.length), w.cell? ⟨b, i, none⟩ = some vs[i]
  f : ∀ i, i < vs.length → w.frozen? ⟨b, i, none⟩ = false
theorem CellL.below {W w : World} {b : Nat} {vs : List Value} (h : CellL W b vs) (hb : Below W.heap.size W w) : CellL w b vs :=
  ⟨Nat.lt_of_lt_of_le h.lt hb.size, fun i hi => (hb.cell (p := ⟨b, i, none⟩) h.lt).trans (h.c i hi), fun i hi => (hb.frozen (p := ⟨b, i, none⟩) h.lt).trans (h.f i hi)⟩
theorem CellL.alloc {W : World} {b : Nat} {vs : List Value} (h : CellL W b vs) (o : Obj) : CellL (W.alloc o) b vs := h.below (bbox o)
theorem CellL.new (w : World) (vs : List Value) (T : TypeId) : CellL (w.alloc (.cells vs.toArray T)) w.heap.size vs := by
  refine ⟨by simp, fun i hi => ?_, fun i hi => ?_⟩
  · rw [World.cell?_alloc_new]; simp [hi]
  · go_simp
theorem CellL.new2 (w : World) (b : Nat) (hb : w.heap.size = b) (vs : List Value) (T : TypeId) : CellL (w.alloc (.cells vs.toArray T)) b vs := by subst hb; exact CellL.new w vs T
theorem CellL.at {w : World} {b : Nat} {vs : List Value} (h : CellL w b vs) (i : Nat) {v : Value} (hv : vs[i]? = some v) : w.cell? ⟨b, i, none⟩ = some v := by
  obtain ⟨hi, e⟩ := List.getElem?_eq_some_iff.1 hv
  rw [h.c i hi, e]
/-- A mode's cells. -/
def mL (m : Md) (v : Value) : List Value := [.bool m.on, .bool m.bc, .bool m.oi, .bool m.oo, .bool m.nl, .int .i64 m.rd, v]
def mVv (m : Md) (v : Value) : Value := .agg #[.bool m.on, .bool m.bc, .bool m.oi, .bool m.oo, .bool m.nl, .int .i64 m.rd, v]
theorem mV_eq (m : Md) (a : Option Addr) (c : Nat) : mV m a c = mVv m (.slice a m.ps.length c) := rfl
theorem RowS.mdv {wb w : World} {v : Value} {m : Md} (h : RowS wb w v m.ps) : MdV w (mVv m v) m := by
  obtain ⟨a, c, rfl, h1, h2, h3, h4⟩ := h.slice
  exact ⟨a, c, rfl, h1, h2, h3, h4⟩
theorem own_set {w : World} {B sz n b : Nat} {e : TypeId} {v : Value} {xs : List Value} (h : w.ownsRow B e sz v n xs) (hb : b < B) (i : Nat) (u : Value) : (w.setCell ⟨b, i, none⟩ u).ownsRow B e sz v n xs :=
  h.kept (row := some b) ⟨rfl, rfl, rfl, by simp [World.setCell], fun k _ hk => Below.heap_setCell _ _ _ _ (fun e => hk (by rw [e]))⟩ (.inr fun e => by have := (h.lt _ e).1; omega)
theorem own_lower {w : World} {B B' sz n : Nat} {e : TypeId} {v : Value} {xs : List Value} (h : w.ownsRow B e sz v n xs) (hb : B' ≤ B) : w.ownsRow B' e sz v n xs := by
  refine ⟨h.1, ?_⟩
  rcases h.2 with h | ⟨g, cap, cur, h1, h2, h3⟩
  · exact Or.inl h
  · exact Or.inr ⟨g, cap, cur, h1, Nat.le_trans hb h2, h3⟩
/-- The row lies from block B on; of wa all stands. -/
def RowB (B : Nat) (wa w : World) (v : Value) (l : List BA) : Prop := w.ownsRow B 9 1 v l.length (cellsS l) ∧ Below wa.heap.size wa w
theorem RowS.toB {wa wb w : World} {v : Value} {l : List BA} (h : RowS wb w v l) (hb : Below wa.heap.size wa wb) : RowB wb.heap.size wa w v l := ⟨h.row, (h.over hb).bel⟩
theorem RowB.set {B : Nat} {wa w : World} {v : Value} {l : List BA} (h : RowB B wa w v l) {b : Nat} (h1 : wa.heap.size ≤ b) (h2 : b < B) (i : Nat) (u : Value) : RowB B wa (w.setCell ⟨b, i, none⟩ u) v l :=
  ⟨own_set h.1 h2 i u, h.2.setCell (p := ⟨b, i, none⟩) h1 u⟩
theorem RowB.toS {B : Nat} {wa w : World} {v : Value} {l : List BA} (h : RowB B wa w v l) (hB : wa.heap.size ≤ B) : RowS wa w v l := ⟨own_lower h.1 hB, h.2⟩
theorem RowB.sets7 {B : Nat} {wa w : World} {v : Value} {l : List BA} (h : RowB B wa w v l) {b : Nat} (h1 : wa.heap.size ≤ b) (h2 : b < B) (x0 x1 x2 x3 x4 x5 x6 : Value) :
    RowB B wa (((((((w.setCell ⟨b, 0, none⟩ x0).setCell ⟨b, 1, none⟩ x1).setCell ⟨b, 2, none⟩ x2).setCell ⟨b, 3, none⟩ x3).setCell ⟨b, 4, none⟩ x4).setCell ⟨b, 5, none⟩ x5).setCell ⟨b, 6, none⟩ x6) v l :=
  ((((((h.set h1 h2 _ _).set h1 h2 _ _).set h1 h2 _ _).set h1 h2 _ _).set h1 h2 _ _).set h1 h2 _ _).set h1 h2 _ _
theorem inP_one {w : World} {a : Option Addr} {c : Nat} {l : List BA} (hz : a = none → c = 0) (hI : InS w a l) (T : TypeId) : InP (w.alloc (.cells #[.slice a l.length c] T)) w.heap.size [(a, c, l)] := by
  refine ⟨by simp, fun i hi => ?_⟩
  obtain rfl : i = 0 := by simpa using hi
  exact ⟨by rw [World.cell?_alloc_new]; rfl, hz, hI.bel (bbox _)⟩
theorem inP_two {w : World} {a a' : Option Addr} {c c' : Nat} {l l' : List BA} (hz : a = none → c = 0) (hI : InS w a l) (hz' : a' = none → c' = 0) (hI' : InS w a' l') (T : TypeId) : InP (w.alloc (.cells #[.slice a l.length c, .slice a' l'.length c'] T)) w.heap.size [(a, c, l), (a', c', l')] := by
  refine ⟨by simp, fun i hi => ?_⟩
  match i, hi with
  | 0, _ => exact ⟨by rw [World.cell?_alloc_new]; rfl, hz, hI.bel (bbox _)⟩
  | 1, _ => exact ⟨by rw [World.cell?_alloc_new]; rfl, hz', hI'.bel (bbox _)⟩
set_option maxHeartbeats 8000000 in
set_option maxRecDepth 100000 in
theorem copy_calls (w : World) (m : Md) (a : Option Addr) (c : Nat) (hz : a = none → c = 0) (hI : InS w a m.ps) (hl : m.ps.length ≤ 1000000) :
    Calls Tryz.prog 20 #[mV m a c] w fun e w' => ∃ v, e = .returned (mVv m v) ∧ RowS w w' v m.ps := by
  have HP : Hid (∀ O1 O2 T, InP (((w.alloc O1).alloc O2).alloc (.cells #[.slice a m.ps.length c] T)) (w.heap.size + 2) [(a, c, m.ps)]) := Lib.hid (fun O1 O2 T => by
    have h := inP_one hz (hI.bel (bstep (bbox O1) (bbox O2))) T
    simpa using h)
  clear hI
  obtain ⟨on, bc, oi, oo, nl, rd, ps⟩ := m
  unfold mV mVv
  simp only at HP hl ⊢
  go_enter Tryz.func20, Tryz.ntmps20
  go_wp2_with fail
  refine (concat_calls _ (w.heap.size + 2) 1 1 [(a, c, ps)] rfl (HP.out _ _ _) (by simpa [sumP] using hl) (by simp)).mono ?_
  rintro e w2 ⟨v, rfl, hR⟩
  have HC := Lib.hid ((((CellL.new w [.bool on, .bool bc, .bool oi, .bool oo, .bool nl, .int .i64 rd, .slice a ps.length c] _).alloc _).alloc _).below hR.bel)
  have HD := Lib.hid (((CellL.new2 (w.alloc _) (w.heap.size + 1) (by simp) [.bool false, .bool false, .bool false, .bool false, .bool false, .int .i64 0, .slice none 0 0] _).alloc _).below hR.bel)
  have e : allP [(a, c, ps)] = ps := by simp [allP]
  rw [e] at hR
  obtain ⟨sa, sc, rfl, -, -, -, -⟩ := hR.slice
  have HR := Lib.hid hR
  have c0 := HC.out.at 0 rfl
  have f0 := HC.out.f 0 (by simp)
  have d0 := HD.out.at 0 rfl
  have g0 := HD.out.f 0 (by simp)
  have c1 := HC.out.at 1 rfl
  have f1 := HC.out.f 1 (by simp)
  have d1 := HD.out.at 1 rfl
  have g1 := HD.out.f 1 (by simp)
  have c2 := HC.out.at 2 rfl
  have f2 := HC.out.f 2 (by simp)
  have d2 := HD.out.at 2 rfl
  have g2 := HD.out.f 2 (by simp)
  have c3 := HC.out.at 3 rfl
  have f3 := HC.out.f 3 (by simp)
  have d3 := HD.out.at 3 rfl
  have g3 := HD.out.f 3 (by simp)
  have c4 := HC.out.at 4 rfl
  have f4 := HC.out.f 4 (by simp)
  have d4 := HD.out.at 4 rfl
  have g4 := HD.out.f 4 (by simp)
  have c5 := HC.out.at 5 rfl
  have f5 := HC.out.f 5 (by simp)
  have d5 := HD.out.at 5 rfl
  have g5 := HD.out.f 5 (by simp)
  have c6 := HC.out.at 6 rfl
  have f6 := HC.out.f 6 (by simp)
  have d6 := HD.out.at 6 rfl
  have g6 := HD.out.f 6 (by simp)
  clear hR e
  go_wp2_with fail
  exact bodyPost_ret (v := .agg #[.bool on, .bool bc, .bool oi, .bool oo, .bool nl, .int .i64 rd, .slice sa ps.length sc]) (by simp [results, Tryz.results20, go_sem, d0, d1, d2, d3, d4, d5, d6]) rfl
    ⟨_, rfl, (((HR.out.toB (bstep (bstep (bbox _) (bbox _)) (bbox _))).set (Nat.le_refl _) (by simp; omega) _ _).sets7 (by omega) (by simp) _ _ _ _ _ _ _).toS (by simp; omega)⟩
set_option maxHeartbeats 8000000 in
set_option maxRecDepth 100000 in
theorem tog_calls (w : World) (a a' : Option Addr) (c c' : Nat) (l l' : List BA) (hz : a = none → c = 0) (hI : InS w a l) (hz' : a' = none → c' = 0) (hI' : InS w a' l') (hl : l.length ≤ 100000) (hl' : l'.length ≤ 100000) :
    Calls Tryz.prog 21 #[.slice a l.length c, .slice a' l'.length c'] w fun e w' => ∃ v, e = .returned v ∧ RowS w w' v (cmp (srt (l ++ l'))) := by
  have HP : Hid (∀ T, InP (w.alloc (.cells #[.slice a l.length c, .slice a' l'.length c'] T)) w.heap.size [(a, c, l), (a', c', l')]) := Lib.hid (fun T => inP_two hz hI hz' hI' T)
  clear hI hI'
  obtain ⟨L, hLe⟩ : ∃ L, l ++ l' = L := ⟨_, rfl⟩
  have HLe := Lib.hid hLe
  rw [hLe]
  clear hLe
  go_enter Tryz.func21, Tryz.ntmps21
  go_wp2_with fail
  refine (concat_calls _ w.heap.size 2 2 [(a, c, l), (a', c', l')] rfl (HP.out _) (by simp [sumP]; omega) (by simp)).mono ?_
  rintro e w2 ⟨v, rfl, hR⟩
  have e : allP [(a, c, l), (a', c', l')] = L := by rw [← HLe.out]; simp [allP]
  rw [e] at hR
  have HR := Lib.hid (hR.over (bbox _))
  have HL : Hid (L.length ≤ 1000000) := Lib.hid (by rw [← HLe.out, List.length_append]; omega)
  clear hR e HP HLe
  go_wp2_with fail
  refine (sort_calls HR.out HL.out).mono ?_
  rintro e w3 ⟨rfl, hR3⟩
  have HR3 := Lib.hid hR3
  clear hR3 HR
  go_wp2_with fail
  refine (compact_calls HR3.out (by rw [srt_len]; exact HL.out)).mono ?_
  rintro e w4 ⟨v4, rfl, hR4⟩
  have HR4 := Lib.hid hR4
  clear hR4 HR3
  go_wp2_with fail
  go_ret
  exact ⟨_, rfl, HR4.out⟩
end Go.Proofs.YtjpbpdjomfkkeaaGreatDoor.Ma
