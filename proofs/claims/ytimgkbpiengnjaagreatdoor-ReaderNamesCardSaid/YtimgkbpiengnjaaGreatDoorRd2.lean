/- Package reader's Next. Conditions: what start-up lays ('PCtx'); the variable MaxLen holds some int; the frame's contract. -/
import Derived.Test.YtimgkbpiengnjaaGreatDoorRd1
import Derived.Deep.Cut
namespace Go.Proofs.YtimgkbpiengnjaaGreatDoor.Ln
open Go.ChangeShapes Go.WideShapes Go.ChangeAt Go.RowKit

/-- The box of a value, made anew. -/
abbrev vbox (w : World) (k : Int) (T : ByteArray) : World := w.alloc (.cells #[.int .i64 k, .string T, .int .i64 0, .float .f64 0, .bool false, .slice none 0 0] 26)
theorem vbox_below (w : World) (k : Int) (T : ByteArray) : Below w.heap.size w (vbox w k T) := bbox _
/-- What stands behind Parse, in Next: the object, the box of the value, the box of the result. -/
theorem next_facts {L B G : Nat} {w w2 : World} {l : List UInt8} {k : Int} {T : ByteArray} (hW : Wt L B G w l) (hb : Below (oneBox w).heap.size (oneBox w) w2) (x : Bool) (v : Value) :
    (∀ W, W = ((vbox w2 k T).setCell ⟨L, 1, none⟩ (.bool x)).setCell ⟨L, 0, none⟩ v →
    (W.cell? ⟨w2.heap.size, 0, none⟩ = some (.int .i64 k) ∧ W.cell? ⟨w2.heap.size, 1, none⟩ = some (.string T) ∧ W.cell? ⟨w2.heap.size, 2, none⟩ = some (.int .i64 0) ∧ W.cell? ⟨w2.heap.size, 3, none⟩ = some (.float .f64 0) ∧ W.cell? ⟨w2.heap.size, 4, none⟩ = some (.bool false) ∧ W.cell? ⟨w2.heap.size, 5, none⟩ = some (.slice none 0 0)) ∧
    (W.cell? ⟨w.heap.size, 0, none⟩ = some (.int .i64 0) ∧ W.cell? ⟨w.heap.size, 1, none⟩ = some (.string ⟨#[]⟩) ∧ W.cell? ⟨w.heap.size, 2, none⟩ = some (.int .i64 0) ∧ W.cell? ⟨w.heap.size, 3, none⟩ = some (.float .f64 0) ∧ W.cell? ⟨w.heap.size, 4, none⟩ = some (.bool false) ∧ W.cell? ⟨w.heap.size, 5, none⟩ = some (.slice none 0 0)) ∧
    ∀ o, W.frozen? ⟨w.heap.size, o, none⟩ = false) := by
  rintro W rfl
  have hL := hW.lo
  have hs2 : w.heap.size < w2.heap.size := Nat.lt_of_lt_of_le (by simp [oneBox]) hb.size
  have hV : ∀ i o : Nat, (⟨L, i, none⟩ : Addr) ≠ ⟨w2.heap.size, o, none⟩ := fun i o => addr_ne (.inl (by omega))
  have hX : ∀ i o : Nat, (⟨L, i, none⟩ : Addr) ≠ ⟨w.heap.size, o, none⟩ := fun i o => addr_ne (.inl (by omega))
  have hc : ∀ o, (vbox w2 k T).cell? ⟨w.heap.size, o, none⟩ = (oneBox w).cell? ⟨w.heap.size, o, none⟩ := fun o => ((vbox_below w2 k T).cell (p := ⟨w.heap.size, o, none⟩) hs2).trans (hb.cell (p := ⟨w.heap.size, o, none⟩) (by simp [oneBox]))
  have hf : ∀ o, (vbox w2 k T).frozen? ⟨w.heap.size, o, none⟩ = (oneBox w).frozen? ⟨w.heap.size, o, none⟩ := fun o => ((vbox_below w2 k T).frozen (p := ⟨w.heap.size, o, none⟩) hs2).trans (hb.frozen (p := ⟨w.heap.size, o, none⟩) (by simp [oneBox]))
  refine ⟨⟨?_, ?_, ?_, ?_, ?_, ?_⟩, ⟨?_, ?_, ?_, ?_, ?_, ?_⟩, fun o => ?_⟩
  all_goals first
    | (rw [World.cell?_setCell_other _ _ _ _ (hV _ _), World.cell?_setCell_other _ _ _ _ (hV _ _)]; simp [vbox]; done)
    | (rw [World.cell?_setCell_other _ _ _ _ (hX _ _), World.cell?_setCell_other _ _ _ _ (hX _ _), hc]; simp [oneBox]; done)
    | (rw [World.frozen?_setCell, World.frozen?_setCell, hf]; simp [oneBox]; done)
theorem slice_zero {w : World} {a : Option Addr} {c : Nat} {l : List UInt8} (h : InB w a c l) (hl : 0 < l.length) (wx : World) : (Instr.slice 30 (.slice a l.length c) (some (.int .i64 0)) none none).run Tryz.prog wx = .ok (.slice a l.length c) wx := by
  obtain ⟨g, o, rfl, -⟩ := h.cell hl
  exact (h.dropG 0 hl).2 wx
theorem Wt.reset {L B G : Nat} {w : World} {l : List UInt8} (h : Wt L B G w l) {v : Value} (hv : w.cell? ⟨L, 0, none⟩ = some v) : Wt L B G (w.setCell ⟨L, 0, none⟩ v) l := by
  obtain ⟨a, c, h0, hB, hn, ha⟩ := h.row
  rw [h0] at hv
  cases hv
  exact h.ob.set hB hn ha
/-- Six cells put into a block that is none of the object's. -/
theorem six_fr (W : World) (X : Nat) (v0 v1 v2 v3 v4 v5 : Value) : Fr (fun i => i = X) W ((((((W.setCell ⟨X, 0, none⟩ v0).setCell ⟨X, 1, none⟩ v1).setCell ⟨X, 2, none⟩ v2).setCell ⟨X, 3, none⟩ v3).setCell ⟨X, 4, none⟩ v4).setCell ⟨X, 5, none⟩ v5) := by
  have h1 : ∀ (V : World) (i : Nat) (v : Value), Fr (fun i => i = X) V (V.setCell ⟨X, i, none⟩ v) := fun V i v => Fr.setCell (S := fun i => i = X) V ⟨X, i, none⟩ rfl v
  exact (((((h1 _ _ _).trans (h1 _ _ _)).trans (h1 _ _ _)).trans (h1 _ _ _)).trans (h1 _ _ _)).trans (h1 _ _ _)
set_option maxRecDepth 100000 in
set_option maxHeartbeats 400000 in
theorem next_none (L B G : Nat) (w : World) (l : List UInt8) (hW : Wt L B G w l) (hG : G < w.heap.size) (hl : 0 < l.length) (hll : l.length ≤ 1000000) (hC : PCtx w) (hM : MaxOk w) (hF : FrameIs l (stop shortV)) :
    Calls Tryz.prog 8 #[.pointer (some ⟨L, 0, none⟩)] w fun e w' => e = .returned (.tuple #[ansV 0 ⟨#[]⟩, .bool false, .int .i64 0]) ∧ Wt L B G w' l ∧ Fr (fun i => i = L) w w' := by
  obtain ⟨a, c, h0, hB, hn, ha⟩ := hW.row
  have hb0 := bbox (w := w) (.cells #[.int .i64 0, .string ⟨#[]⟩, .int .i64 0, .float .f64 0, .bool false, .slice none 0 0] 26)
  have HP := Lib.hid (parse_short (oneBox w) a c l (hB.below hb0) (fun ad e => (by obtain ⟨hg, -, h2, -⟩ := ha ad e; rw [hg]; exact Nat.lt_of_lt_of_le h2 hb0.size)) (hC.below hb0) (hM.below hb0) hF)
  have HB0 := Lib.hid hb0
  have HW := Lib.hid hW
  have HI := Lib.hid (And.intro hB (And.intro hn ha))
  have hz := slice_zero hB hl
  have h1 := hW.c1
  have hLs := hW.lo
  have g0 : (oneBox w).cell? ⟨L, 0, none⟩ = some (.slice a l.length c) := (hb0.cell (p := ⟨L, 0, none⟩) hLs).trans h0
  have g1 : (oneBox w).cell? ⟨L, 1, none⟩ = some (.bool false) := (hb0.cell (p := ⟨L, 1, none⟩) hLs).trans h1
  have hle : ((0 : Int) == (l.length : Int)) = false := beq_eq_false_iff_ne.2 (by omega)
  have H00 := Lib.hid h0
  clear hB hn ha hW hC hM hF hb0 h0 h1
  go_enter Tryz.func8, Tryz.ntmps8
  go_wp2_with fail
  refine HP.out.mono ?_
  rintro en w2 ⟨rfl, hb2⟩
  have hbv := bstep (bstep HB0.out hb2) (vbox_below w2 0 ⟨#[]⟩)
  have hWv := HW.out.below hbv
  have j0 : (vbox w2 0 ⟨#[]⟩).cell? ⟨L, 0, none⟩ = some (.slice a l.length c) := (hbv.cell (p := ⟨L, 0, none⟩) hLs).trans H00.out
  have j1 := hWv.c1
  have jf0 := hWv.f0
  have jf1 := hWv.f1
  have k0 : ((vbox w2 0 ⟨#[]⟩).setCell ⟨L, 1, none⟩ (.bool false)).cell? ⟨L, 0, none⟩ = some (.slice a l.length c) := (World.cell?_setCell_other _ _ _ _ (addr_ne (.inr (by show (1 : Nat) ≠ 0; decide)))).trans j0
  have k1 : ((vbox w2 0 ⟨#[]⟩).setCell ⟨L, 1, none⟩ (.bool false)).cell? ⟨L, 1, none⟩ = some (.bool false) := World.cell?_setCell_same _ _ _ j1
  obtain ⟨⟨v0, v1, v2, v3, v4, v5⟩, ⟨x0, x1, x2, x3, x4, x5⟩, xf⟩ := next_facts (k := 0) (T := ⟨#[]⟩) HW.out hb2 false (.slice a l.length c) _ rfl
  have xf0 := xf 0
  have xf1 := xf 1
  have xf2 := xf 2
  have xf3 := xf 3
  have xf4 := xf 4
  have xf5 := xf 5
  have HE := Lib.hid (hWv.flag.reset k0)
  have HE2 : Hid (Fr (fun i => i = L) w (((vbox w2 0 ⟨#[]⟩).setCell ⟨L, 1, none⟩ (.bool false)).setCell ⟨L, 0, none⟩ (.slice a l.length c))) := Lib.hid (((Fr.of_below hbv).trans (Fr.setCell (S := fun i => i = L) _ ⟨L, 1, none⟩ rfl _)).trans (Fr.setCell (S := fun i => i = L) _ ⟨L, 0, none⟩ rfl _))
  clear xf
  have HS2 : Hid (w.heap.size < w2.heap.size) := Lib.hid (Nat.lt_of_lt_of_le (by simp [oneBox]) hb2.size)
  clear hb2 hbv hWv g0 g1
  go_wp2_with fail
  refine bodyPost_ret (v := .tuple #[ansV 0 ⟨#[]⟩, .bool false, .int .i64 0]) (by simp [results, Tryz.results8, go_sem, x0, x1, x2, x3, x4, x5]) rfl ⟨rfl, HE.out.fr (S := fun i => i = w.heap.size) (six_fr _ _ _ _ _ _ _ _) (Nat.ne_of_lt HW.out.lo) (Nat.ne_of_lt hG), ?_⟩
  exact set6_fr HE2.out (Nat.le_refl _) _ _ _ _ _ _
end Go.Proofs.YtimgkbpiengnjaaGreatDoor.Ln
