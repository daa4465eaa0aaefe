/- Package reader's plain values. Conditions: what start-up lays ('PCtx'); the variable MaxLen holds some int; bounds. -/
import Derived.Test.YtimgkbpiengnjaaGreatDoorRb3
namespace Go.Proofs.YtimgkbpiengnjaaGreatDoor.Ln
open Go.ChangeShapes Go.WideShapes Go.ChangeAt Go.RowKit

/-- The two boxes of plain: its result's, and the value's. -/
abbrev two (w : World) (k : Int) : World := (w.alloc (.cells #[.int .i64 0, .string ⟨#[]⟩, .int .i64 0, .float .f64 0, .bool false, .slice none 0 0] 26)).alloc (.cells #[.int .i64 k, .string ⟨#[]⟩, .int .i64 0, .float .f64 0, .bool false, .slice none 0 0] 26)
theorem two_fr (S : Nat) (w : World) (k : Int) : FrS S w (two w k) := Fr.of_below (((Below.refl _ _).alloc (Nat.le_refl _) _).alloc (by simp) _)
theorem two_src {S B : Nat} {w : World} {l : List UInt8} {r : Int} (h : Src S B w l r) (k : Int) : Src S B (two w k) l r := h.below (((Below.refl _ _).alloc (Nat.le_refl _) _).alloc (by simp) _)
theorem two_cell {S : Nat} {w w4 : World} {k : Int} (hS : S < w.heap.size) (h : FrS S (two w k) w4) : w4.cell? ⟨w.heap.size + 1, 1, none⟩ = some (.string ⟨#[]⟩) ∧ w4.frozen? ⟨w.heap.size + 1, 1, none⟩ = false := by
  have hlt : w.heap.size + 1 < (two w k).heap.size := by simp [two]
  have hne : w.heap.size + 1 ≠ S := by omega
  refine ⟨?_, ?_⟩
  · rw [h.cell hlt hne]; simp [two]
  · rw [h.frozen hlt hne]; simp [two]
theorem two_cells {S : Nat} {w w4 w6 : World} {k : Int} {T : ByteArray} (hS : S < w.heap.size) (h : FrS S (two w k) w4) (h6 : FrS S (w4.setCell ⟨w.heap.size + 1, 1, none⟩ (.string T)) w6) :
    (w6.cell? ⟨w.heap.size + 1, 0, none⟩ = some (.int .i64 k) ∧ w6.cell? ⟨w.heap.size + 1, 1, none⟩ = some (.string T) ∧ w6.cell? ⟨w.heap.size + 1, 2, none⟩ = some (.int .i64 0) ∧ w6.cell? ⟨w.heap.size + 1, 3, none⟩ = some (.float .f64 0) ∧ w6.cell? ⟨w.heap.size + 1, 4, none⟩ = some (.bool false) ∧ w6.cell? ⟨w.heap.size + 1, 5, none⟩ = some (.slice none 0 0)) ∧
    (w6.cell? ⟨w.heap.size, 0, none⟩ = some (.int .i64 0) ∧ w6.cell? ⟨w.heap.size, 1, none⟩ = some (.string ⟨#[]⟩) ∧ w6.cell? ⟨w.heap.size, 2, none⟩ = some (.int .i64 0) ∧ w6.cell? ⟨w.heap.size, 3, none⟩ = some (.float .f64 0) ∧ w6.cell? ⟨w.heap.size, 4, none⟩ = some (.bool false) ∧ w6.cell? ⟨w.heap.size, 5, none⟩ = some (.slice none 0 0)) ∧
    (w6.frozen? ⟨w.heap.size, 0, none⟩ = false ∧ w6.frozen? ⟨w.heap.size, 1, none⟩ = false ∧ w6.frozen? ⟨w.heap.size, 2, none⟩ = false ∧ w6.frozen? ⟨w.heap.size, 3, none⟩ = false ∧ w6.frozen? ⟨w.heap.size, 4, none⟩ = false ∧ w6.frozen? ⟨w.heap.size, 5, none⟩ = false) := by
  obtain ⟨c1, -⟩ := two_cell hS h
  have hlt : w.heap.size + 1 < (two w k).heap.size := by simp [two]
  have hlt0 : w.heap.size < (two w k).heap.size := by simp [two]; omega
  have hne : w.heap.size + 1 ≠ S := by omega
  have hne0 : w.heap.size ≠ S := by omega
  have hs : (w4.setCell ⟨w.heap.size + 1, 1, none⟩ (.string T)).heap.size = w4.heap.size := World.size_setCell _ _ _
  have h1 : w.heap.size + 1 < (w4.setCell ⟨w.heap.size + 1, 1, none⟩ (.string T)).heap.size := by rw [hs]; exact Nat.lt_of_lt_of_le hlt h.size
  have h0 : w.heap.size < (w4.setCell ⟨w.heap.size + 1, 1, none⟩ (.string T)).heap.size := by omega
  have hb : ∀ i : Nat, 1 ≠ i → (⟨w.heap.size + 1, 1, none⟩ : Addr) ≠ ⟨w.heap.size + 1, i, none⟩ := fun i hi => addr_ne (.inr hi)
  have ha : ∀ i : Nat, (⟨w.heap.size + 1, 1, none⟩ : Addr) ≠ ⟨w.heap.size, i, none⟩ := fun i => addr_ne (.inl (by omega))
  refine ⟨⟨?_, ?_, ?_, ?_, ?_, ?_⟩, ⟨?_, ?_, ?_, ?_, ?_, ?_⟩, ?_, ?_, ?_, ?_, ?_, ?_⟩
  all_goals first
    | (rw [h6.cell h1 hne, World.cell?_setCell_same w4 _ _ c1]; done)
    | (rw [h6.cell h1 hne, World.cell?_setCell_other _ _ _ _ (hb _ (by decide)), h.cell hlt hne]; simp [two]; done)
    | (rw [h6.cell h0 hne0, World.cell?_setCell_other _ _ _ _ (ha _), h.cell hlt0 hne0]; simp [two]; done)
    | (rw [h6.frozen h0 hne0, World.frozen?_setCell, h.frozen hlt0 hne0]; simp [two]; done)
set_option maxRecDepth 100000 in
set_option maxHeartbeats 1000000 in
theorem plain_bulk (S B : Nat) (w : World) (T : ByteArray) (b t : List UInt8) (r : Int) (hT : T.size ≤ 1000) (hn : Num.wp T.data.toList = ((b.length : Int), 0)) (hb : b.length ≤ 4096) (h : Src S B w (b ++ 13 :: 10 :: t) r) (hC : Ctx0 B w) :
    Calls Tryz.prog 18 #[.pointer (some ⟨S, 0, none⟩), .int .i64 4, .string T] w fun e w' => e = .returned (vBulk ⟨b.toArray⟩).agg ∧ FrS S w w' ∧ Src S B w' t r := by
  have H0 := Lib.hid h
  have HC := Lib.hid hC
  have HK := Lib.hid (fun w2 (h2 : PCtx w2) => number_ok T (by omega) b.length 4096 hn (by omega) (by omega) w2 h2)
  have HW : Hid (FrS S w (two w 4) ∧ Src S B (two w 4) (b ++ 13 :: 10 :: t) r) := Lib.hid ⟨two_fr S w 4, two_src h 4⟩
  have H1 : Hid (PCtx (two w 4)) := Lib.hid (hC.step (FrS.bel (two_fr S w 4) h.leB h.ge)).now.1
  clear h hC
  unfold Val.agg vBulk at *
  go_enter Tryz.func18, Tryz.ntmps18
  go_wp2_with fail
  refine (HK.out _ H1.out).mono ?_
  rintro en w3 ⟨rfl, hb3⟩
  have HB3 : Hid (FrS S (two w 4) w3) := Lib.hid (Fr.of_below hb3)
  have HS3 := Lib.hid (take_front S B w3 b (13 :: 10 :: t) r (HW.out.2.below hb3))
  clear hb3
  go_wp2_with fail
  refine HS3.out.mono ?_
  rintro en w4 ⟨rfl, hb4, hs4⟩
  have HB4 := Lib.hid (HB3.out.trans hb4)
  obtain ⟨c1, f1⟩ := two_cell H0.out.lo HB4.out
  have HE := Lib.hid (end_ok S B (w4.setCell ⟨w.heap.size + 1, 1, none⟩ (.string ⟨b.toArray⟩)) t r (src_set1 hs4 (Nat.le_succ_of_le H0.out.leB) (Nat.ne_of_lt (Nat.lt_succ_of_lt H0.out.lo)) 1 _))
  have HF := Lib.hid (fr_set1 (HW.out.1.trans HB4.out) (Nat.le_succ _) 1 (.string ⟨b.toArray⟩))
  clear hb4 hs4 HS3
  go_wp2_with fail
  refine HE.out.mono ?_
  rintro en w6 ⟨rfl, hb6, hs6⟩
  obtain ⟨⟨c0, c1, c2, c3, c4, c5⟩, ⟨d0, d1, d2, d3, d4, d5⟩, f0, f1, f2, f3, f4, f5⟩ := two_cells H0.out.lo HB4.out hb6
  have HF6 := Lib.hid (HF.out.trans hb6)
  have HS6 := Lib.hid hs6
  clear hb6 hs6 HE
  go_wp2_with fail
  exact bodyPost_ret (v := .agg #[.int .i64 4, .string ⟨b.toArray⟩, .int .i64 0, .float .f64 0, .bool false, .slice none 0 0]) (by simp [results, Tryz.results18, go_sem, d0, d1, d2, d3, d4, d5]) rfl ⟨rfl, set6_fr HF6.out (Nat.le_refl _) _ _ _ _ _ _, set6_src HS6.out H0.out.leB (Nat.ne_of_lt H0.out.lo) _ _ _ _ _ _⟩
set_option maxRecDepth 100000 in
set_option maxHeartbeats 1000000 in
theorem plain_bad (S B : Nat) (w : World) (T : ByteArray) (l : List UInt8) (r : Int) (hT : T.size ≤ 1000) (x : Int) (hn : Num.wp T.data.toList = (x, 11)) (h : Src S B w l r) (hC : Ctx0 B w) :
    Calls Tryz.prog 18 #[.pointer (some ⟨S, 0, none⟩), .int .i64 3, .string T] w fun e w' => e = stop brokeV ∧ FrS S w w' := by
  have H0 := Lib.hid h
  have HC := Lib.hid hC
  have HP := Lib.hid (fun w2 (h2 : PCtx w2) => Parse_calls T (by omega) w2 h2.ctx _ _ hn)
  have HW : Hid (FrS S w (two w 3)) := Lib.hid (two_fr S w 3)
  have H1 : Hid (PCtx (two w 3)) := Lib.hid (hC.step (FrS.bel (two_fr S w 3) h.leB h.ge)).now.1
  clear h hC
  go_enter Tryz.func18, Tryz.ntmps18
  go_wp2_with fail
  refine (HP.out _ H1.out).mono ?_
  rintro en w3 ⟨rfl, hb3⟩
  have HB3 : Hid (FrS S (two w 3) w3) := Lib.hid (Fr.of_below hb3)
  clear hb3
  go_wp2_with fail
  refine (sound_no x 11 rfl _).mono ?_
  rintro en w4 ⟨rfl, rfl⟩
  go_wp2_with fail
  exact ⟨rfl, rfl, HW.out.trans HB3.out⟩
set_option maxRecDepth 100000 in
set_option maxHeartbeats 1000000 in
theorem plain_short (S B : Nat) (w : World) (T : ByteArray) (l : List UInt8) (n : Nat) (r : Int) (hT : T.size ≤ 1000) (hn : Num.wp T.data.toList = ((n : Int), 0)) (hb : n ≤ 4096) (hl : l.length < n) (h : Src S B w l r) (hC : Ctx0 B w) :
    Calls Tryz.prog 18 #[.pointer (some ⟨S, 0, none⟩), .int .i64 4, .string T] w fun e w' => e = stop shortV ∧ FrS S w w' := by
  have HK := Lib.hid (fun w2 (h2 : PCtx w2) => number_ok T (by omega) n 4096 hn (by omega) (by omega) w2 h2)
  have HW : Hid (FrS S w (two w 4) ∧ Src S B (two w 4) l r) := Lib.hid ⟨two_fr S w 4, two_src h 4⟩
  have H1 : Hid (PCtx (two w 4)) := Lib.hid (hC.step (FrS.bel (two_fr S w 4) h.leB h.ge)).now.1
  clear h hC
  go_enter Tryz.func18, Tryz.ntmps18
  go_wp2_with fail
  refine (HK.out _ H1.out).mono ?_
  rintro en w3 ⟨rfl, hb3⟩
  have HB3 : Hid (FrS S (two w 4) w3) := Lib.hid (Fr.of_below hb3)
  have HS3 := Lib.hid (take_no S B w3 l r (HW.out.2.below hb3) n hl)
  clear hb3
  go_wp2_with fail
  refine HS3.out.mono ?_
  rintro en w4 ⟨rfl, rfl⟩
  go_wp2_with fail
  exact ⟨rfl, rfl, HW.out.1.trans HB3.out⟩
end Go.Proofs.YtimgkbpiengnjaaGreatDoor.Ln
