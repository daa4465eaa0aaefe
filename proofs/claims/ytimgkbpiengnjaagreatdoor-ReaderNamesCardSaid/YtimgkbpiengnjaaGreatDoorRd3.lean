/- Package reader's Next where a value is there, at what is no frame, behind that; Feed behind that. Conditions: what start-up lays ('PCtx'); the variable MaxLen holds some int; the frame's contract. -/
import Derived.Test.YtimgkbpiengnjaaGreatDoorRd2
namespace Go.Proofs.YtimgkbpiengnjaaGreatDoor.Ln
open Go.ChangeShapes Go.WideShapes Go.ChangeAt Go.RowKit

/-- A reader that has failed. -/
structure RFailed (L : Nat) (w : World) : Prop where
  c0 : w.cell? ⟨L, 0, none⟩ = some (.slice none 0 0)
  c1 : w.cell? ⟨L, 1, none⟩ = some (.bool true)
theorem RFailed.below {L : Nat} {w w' : World} (h : RFailed L w) (hb : Below w.heap.size w w') : RFailed L w' :=
  have hL : L < w.heap.size := World.block_lt_of_cell? w _ h.c0
  ⟨(hb.cell (p := ⟨L, 0, none⟩) hL).trans h.c0, (hb.cell (p := ⟨L, 1, none⟩) hL).trans h.c1⟩
theorem RFailed.six {L X : Nat} {w : World} (h : RFailed L w) (hX : L ≠ X) (v0 v1 v2 v3 v4 v5 : Value) : RFailed L ((((((w.setCell ⟨X, 0, none⟩ v0).setCell ⟨X, 1, none⟩ v1).setCell ⟨X, 2, none⟩ v2).setCell ⟨X, 3, none⟩ v3).setCell ⟨X, 4, none⟩ v4).setCell ⟨X, 5, none⟩ v5) := by
  have h1 : ∀ (V : World) (i : Nat) (v : Value), RFailed L V → RFailed L (V.setCell ⟨X, i, none⟩ v) := fun V i v hV => ⟨(World.cell?_setCell_other _ _ _ _ (addr_ne (.inl fun e => hX e.symm))).trans hV.c0, (World.cell?_setCell_other _ _ _ _ (addr_ne (.inl fun e => hX e.symm))).trans hV.c1⟩
  exact h1 _ _ _ (h1 _ _ _ (h1 _ _ _ (h1 _ _ _ (h1 _ _ _ (h1 _ _ _ h)))))
set_option maxRecDepth 100000 in
set_option maxHeartbeats 400000 in
theorem next_broke (L B G : Nat) (w : World) (l : List UInt8) (hW : Wt L B G w l) (hl : 0 < l.length) (hll : l.length ≤ 1000000) (hC : PCtx w) (hM : MaxOk w) (hF : FrameIs l (stop brokeV)) :
    Calls Tryz.prog 8 #[.pointer (some ⟨L, 0, none⟩)] w fun e w' => e = .returned (.tuple #[ansV 0 ⟨#[]⟩, .bool false, .int .i64 51]) ∧ RFailed L w' ∧ Fr (fun i => i = L) w w' := by
  obtain ⟨a, c, h0, hB, hn, ha⟩ := hW.row
  have hb0 := bbox (w := w) (.cells #[.int .i64 0, .string ⟨#[]⟩, .int .i64 0, .float .f64 0, .bool false, .slice none 0 0] 26)
  have HP := Lib.hid (parse_broke (oneBox w) a c l (hB.below hb0) (fun ad e => (by obtain ⟨hg, -, h2, -⟩ := ha ad e; rw [hg]; exact Nat.lt_of_lt_of_le h2 hb0.size)) (hC.below hb0) (hM.below hb0) hF)
  have HB0 := Lib.hid hb0
  have HW := Lib.hid hW
  have HI := Lib.hid (And.intro hB (And.intro hn ha))
  have hz := slice_zero hB hl
  have h1 := hW.c1
  have hLs := hW.lo
  have g0 : (oneBox w).cell? ⟨L, 0, none⟩ = some (.slice a l.length c) := (hb0.cell (p := ⟨L, 0, none⟩) hLs).trans h0
  have g1 : (oneBox w).cell? ⟨L, 1, none⟩ = some (.bool false) := (hb0.cell (p := ⟨L, 1, none⟩) hLs).trans h1
  have hle : ((0 : Int) == (l.length : Int)) = false := beq_eq_false_iff_ne.2 (by omega)
  have H00 := Lib.hid h0
  clear hB hn ha hW hC hM hF hb0 h0 h1
  go_enter Tryz.func8, Tryz.ntmps8
  go_wp2_with fail
  refine HP.out.mono ?_
  rintro en w2 ⟨rfl, hb2⟩
  have hbv := bstep (bstep HB0.out hb2) (vbox_below w2 0 ⟨#[]⟩)
  have hWv := HW.out.below hbv
  have j0 : (vbox w2 0 ⟨#[]⟩).cell? ⟨L, 0, none⟩ = some (.slice a l.length c) := (hbv.cell (p := ⟨L, 0, none⟩) hLs).trans H00.out
  have j1 := hWv.c1
  have jf0 := hWv.f0
  have jf1 := hWv.f1
  have k0 : ((vbox w2 0 ⟨#[]⟩).setCell ⟨L, 1, none⟩ (.bool true)).cell? ⟨L, 0, none⟩ = some (.slice a l.length c) := (World.cell?_setCell_other _ _ _ _ (addr_ne (.inr (by show (1 : Nat) ≠ 0; decide)))).trans j0
  have k1 : ((vbox w2 0 ⟨#[]⟩).setCell ⟨L, 1, none⟩ (.bool true)).cell? ⟨L, 1, none⟩ = some (.bool true) := World.cell?_setCell_same _ _ _ j1
  obtain ⟨⟨v0, v1, v2, v3, v4, v5⟩, ⟨x0, x1, x2, x3, x4, x5⟩, xf⟩ := next_facts (k := 0) (T := ⟨#[]⟩) HW.out hb2 true (.slice none 0 0) _ rfl
  have xf0 := xf 0
  have xf1 := xf 1
  have xf2 := xf 2
  have xf3 := xf 3
  have xf4 := xf 4
  have xf5 := xf 5
  have HE : Hid (RFailed L (((vbox w2 0 ⟨#[]⟩).setCell ⟨L, 1, none⟩ (.bool true)).setCell ⟨L, 0, none⟩ (.slice none 0 0))) := Lib.hid ⟨World.cell?_setCell_same _ _ _ k0, (World.cell?_setCell_other _ _ _ _ (addr_ne (.inr (by show (0 : Nat) ≠ 1; decide)))).trans k1⟩
  have HE2 : Hid (Fr (fun i => i = L) w (((vbox w2 0 ⟨#[]⟩).setCell ⟨L, 1, none⟩ (.bool true)).setCell ⟨L, 0, none⟩ (.slice none 0 0))) := Lib.hid (((Fr.of_below hbv).trans (Fr.setCell (S := fun i => i = L) _ ⟨L, 1, none⟩ rfl _)).trans (Fr.setCell (S := fun i => i = L) _ ⟨L, 0, none⟩ rfl _))
  clear xf
  have HS2 : Hid (w.heap.size < w2.heap.size) := Lib.hid (Nat.lt_of_lt_of_le (by simp [oneBox]) hb2.size)
  clear hb2 hbv hWv g0 g1
  go_wp2_with fail
  refine bodyPost_ret (v := .tuple #[ansV 0 ⟨#[]⟩, .bool false, .int .i64 51]) (by simp [results, Tryz.results8, go_sem, x0, x1, x2, x3, x4, x5]) rfl ⟨rfl, HE.out.six (Nat.ne_of_lt HW.out.lo) _ _ _ _ _ _, ?_⟩
  exact set6_fr HE2.out (Nat.le_refl _) _ _ _ _ _ _
set_option maxHeartbeats 400000 in
theorem rfeed_failed (L : Nat) (w : World) (h : RFailed L w) (v : Value) : Calls Tryz.prog 7 #[.pointer (some ⟨L, 0, none⟩), v] w fun e w' => e = .returned (.tuple #[]) ∧ w' = w := by
  have h1 := h.c1
  clear h
  go_enter Tryz.func7, Tryz.ntmps7
  go_wp2_with fail
  go_end0
  exact ⟨rfl, rfl⟩
set_option maxRecDepth 100000 in
set_option maxHeartbeats 400000 in
theorem rnext_failed (L : Nat) (w : World) (h : RFailed L w) : Calls Tryz.prog 8 #[.pointer (some ⟨L, 0, none⟩)] w fun e w' => e = .returned (.tuple #[ansV 0 ⟨#[]⟩, .bool false, .int .i64 51]) ∧ Below w.heap.size w w' := by
  have hL : L < w.heap.size := World.block_lt_of_cell? w _ h.c0
  have h1 : (oneBox w).cell? ⟨L, 1, none⟩ = some (.bool true) := ((bbox (w := w) _).cell (p := ⟨L, 1, none⟩) hL).trans h.c1
  have HB := Lib.hid (bbox (w := w) (.cells #[.int .i64 0, .string ⟨#[]⟩, .int .i64 0, .float .f64 0, .bool false, .slice none 0 0] 26))
  clear h
  go_enter Tryz.func8, Tryz.ntmps8
  go_wp2_with fail
  exact bodyPost_ret (v := .tuple #[ansV 0 ⟨#[]⟩, .bool false, .int .i64 51]) (by simp [results, Tryz.results8, go_sem]) rfl ⟨rfl, HB.out⟩
set_option maxRecDepth 100000 in
set_option maxHeartbeats 400000 in
theorem next_ok (L B G : Nat) (w : World) (l : List UInt8) (k : Int) (T : ByteArray) (hW : Wt L B G w l) (hG : G < w.heap.size) (hl : 0 < l.length) (hll : l.length ≤ 1000000) (hC : PCtx w) (hM : MaxOk w) (hF : FrameGives l [] k T) :
    Calls Tryz.prog 8 #[.pointer (some ⟨L, 0, none⟩)] w fun e w' => e = .returned (.tuple #[ansV k T, .bool true, .int .i64 0]) ∧ Wt L B G w' [] ∧ Fr (fun i => i = L) w w' := by
  obtain ⟨a, c, h0, hB, hn, ha⟩ := hW.row
  have hb0 := bbox (w := w) (.cells #[.int .i64 0, .string ⟨#[]⟩, .int .i64 0, .float .f64 0, .bool false, .slice none 0 0] 26)
  have hP := (parse_ok (oneBox w) a c l [] k T (Nat.zero_le _) hll (hB.below hb0) (fun ad e => (by obtain ⟨hg, -, h2, -⟩ := ha ad e; rw [hg]; exact Nat.lt_of_lt_of_le h2 hb0.size)) (hC.below hb0) (hM.below hb0) hF)
  rw [show (l.length : Int) - (([] : List UInt8).length : Int) = (l.length : Int) by simp] at hP
  have HP := Lib.hid hP
  clear hP
  have HB0 := Lib.hid hb0
  have HW := Lib.hid hW
  have HI := Lib.hid (And.intro hB (And.intro hn ha))
  have hz := slice_zero hB hl
  have h1 := hW.c1
  have hLs := hW.lo
  have g0 : (oneBox w).cell? ⟨L, 0, none⟩ = some (.slice a l.length c) := (hb0.cell (p := ⟨L, 0, none⟩) hLs).trans h0
  have g1 : (oneBox w).cell? ⟨L, 1, none⟩ = some (.bool false) := (hb0.cell (p := ⟨L, 1, none⟩) hLs).trans h1
  have hle : (0 : Int) < (l.length : Int) := by omega
  have H00 := Lib.hid h0
  clear hB hn ha hW hC hM hF hb0 h0 h1
  go_enter Tryz.func8, Tryz.ntmps8
  go_wp2_with fail
  refine HP.out.mono ?_
  rintro en w2 ⟨rfl, hb2⟩
  have hbv := bstep (bstep HB0.out hb2) (vbox_below w2 k T)
  have hWv := HW.out.below hbv
  have j0 : (vbox w2 k T).cell? ⟨L, 0, none⟩ = some (.slice a l.length c) := (hbv.cell (p := ⟨L, 0, none⟩) hLs).trans H00.out
  have j1 := hWv.c1
  have jf0 := hWv.f0
  have jf1 := hWv.f1
  have k0 : ((vbox w2 k T).setCell ⟨L, 1, none⟩ (.bool false)).cell? ⟨L, 0, none⟩ = some (.slice a l.length c) := (World.cell?_setCell_other _ _ _ _ (addr_ne (.inr (by show (1 : Nat) ≠ 0; decide)))).trans j0
  have k1 : ((vbox w2 k T).setCell ⟨L, 1, none⟩ (.bool false)).cell? ⟨L, 1, none⟩ = some (.bool false) := World.cell?_setCell_same _ _ _ j1
  obtain ⟨⟨v0, v1, v2, v3, v4, v5⟩, ⟨x0, x1, x2, x3, x4, x5⟩, xf⟩ := next_facts (k := k) (T := T) HW.out hb2 false (.slice none 0 0) _ rfl
  have xf0 := xf 0
  have xf1 := xf 1
  have xf2 := xf 2
  have xf3 := xf 3
  have xf4 := xf 4
  have xf5 := xf 5
  have HE := Lib.hid (hWv.flag.ob.set (r := []) (a := none) (c := 0) (G' := G) ⟨Nat.le_refl _, Nat.zero_le _, fun h => absurd h (Nat.lt_irrefl _)⟩ (fun _ => rfl) (fun ad e => by cases e))
  have HE2 : Hid (Fr (fun i => i = L) w (((vbox w2 k T).setCell ⟨L, 1, none⟩ (.bool false)).setCell ⟨L, 0, none⟩ (.slice none 0 0))) := Lib.hid (((Fr.of_below hbv).trans (Fr.setCell (S := fun i => i = L) _ ⟨L, 1, none⟩ rfl _)).trans (Fr.setCell (S := fun i => i = L) _ ⟨L, 0, none⟩ rfl _))
  clear xf
  have HS2 : Hid (w.heap.size < w2.heap.size) := Lib.hid (Nat.lt_of_lt_of_le (by simp [oneBox]) hb2.size)
  clear hb2 hbv hWv g0 g1
  go_wp2_with fail
  refine bodyPost_ret (v := .tuple #[ansV k T, .bool true, .int .i64 0]) (by simp [results, Tryz.results8, go_sem, x0, x1, x2, x3, x4, x5]) rfl ⟨rfl, HE.out.fr (S := fun i => i = w.heap.size) (six_fr _ _ _ _ _ _ _ _) (Nat.ne_of_lt HW.out.lo) (Nat.ne_of_lt hG), ?_⟩
  exact set6_fr HE2.out (Nat.le_refl _) _ _ _ _ _ _
end Go.Proofs.YtimgkbpiengnjaaGreatDoor.Ln
