/- Package reader's lists: where the first frame within stops; a Push within. Conditions: what start-up lays ('PCtx'); the variable MaxLen holds some int; bounds. -/
import Derived.Test.YtimgkbpiengnjaaGreatDoorRb5
namespace Go.Proofs.YtimgkbpiengnjaaGreatDoor.Ln
open Go.ChangeShapes Go.WideShapes Go.ChangeAt Go.RowKit

theorem Src.room {S B : Nat} {w : World} {l : List UInt8} {r : Int} (h : Src S B w l r) (r2 : Int) : Src S B (w.setCell ⟨S, 1, none⟩ (.int .i64 r2)) l r2 ∧ FrS S w (w.setCell ⟨S, 1, none⟩ (.int .i64 r2)) := by
  obtain ⟨a, c, h0, hB, hA⟩ := h.row
  refine ⟨⟨h.ge, ⟨a, c, (World.cell?_setCell_other _ _ _ _ (addr_ne (.inr (by show (1 : Nat) ≠ 0; decide)))).trans h0, hB.setCell (fun ad e => ?_) 1 _, hA⟩, World.cell?_setCell_same w _ _ h.c1, by rw [World.frozen?_setCell]; exact h.f0, by rw [World.frozen?_setCell]; exact h.f1⟩, Fr.setCell w _ (show S = S from rfl) _⟩
  have := hA ad e
  have := h.ge
  omega
theorem new_five (w5 : World) (v0 v1 v2 v3 v4 v5 : Value) (T : TypeId) : (w5.alloc (.cells #[v0, v1, v2, v3, v4, v5] T)).drew.cell? ⟨w5.heap.size, 5, none⟩ = some v5 := by
  show (w5.alloc (.cells #[v0, v1, v2, v3, v4, v5] T)).cell? _ = _
  simp
set_option maxRecDepth 100000 in
set_option maxHeartbeats 1000000 in
theorem list_stop (S B : Nat) (w : World) (t : List UInt8) (v : Value) (r : Int) (hr : 1 ≤ r) (hr2 : r ≤ 1000) (h : Src S B w t r) (hC : Ctx0 B w)
    (hF : ∀ w', Src S B w' t (r - 1) → Ctx0 B w' → Calls Tryz.prog 12 #[.pointer (some ⟨S, 0, none⟩), .int .i64 1] w' fun e w'' => e = stop v ∧ FrS S w' w'') :
    Calls Tryz.prog 17 #[.pointer (some ⟨S, 0, none⟩), .int .i64 5, .string ⟨#[49]⟩, .int .i64 0] w fun e w' => e = stop v ∧ FrS S w w' := by
  have HF := Lib.hid hF
  have H0 := Lib.hid h
  have HC := Lib.hid hC
  have HK := Lib.hid (fun w2 (h2 : PCtx w2) => number_ok ⟨#[49]⟩ (show 1 ≤ 1000000 by omega) 1 r wp1 (by omega) (by omega) w2 h2)
  have c1 : (oneBox w).cell? ⟨S, 1, none⟩ = some (.int .i64 r) := (h.box _).1.c1
  have HW : Hid (FrS S w (oneBox w) ∧ Src S B (oneBox w) t r ∧ PCtx (oneBox w)) := Lib.hid ⟨(h.box _).2, (h.box _).1, (hC.step (FrS.bel (h.box _).2 h.leB h.ge)).now.1⟩
  clear hF h hC
  go_enter Tryz.func17, Tryz.ntmps17
  go_wp2_with fail
  refine (HK.out _ HW.out.2.2).mono ?_
  rintro en w3 ⟨rfl, hb3⟩
  have HB3 : Hid (FrS S w w3) := Lib.hid (HW.out.1.trans (Fr.of_below hb3))
  have HS3 := Lib.hid (HW.out.2.1.below hb3)
  have d1 := HS3.out.c1
  have e1 := HS3.out.f1
  clear hb3 c1
  go_wp2_with (go_at_call 19; refine (need_b _ rfl _).mono ?_; rintro e w7 ⟨rfl, rfl⟩)
  have HQ : Hid (FrS S w ((w3.setCell ⟨S, 1, none⟩ (.int .i64 (r - 1))).alloc (.cells #[.int .i64 5, .string ⟨#[]⟩, .int .i64 0, .float .f64 0, .bool false, .slice none 0 0] 26)).drew ∧ Src S B ((w3.setCell ⟨S, 1, none⟩ (.int .i64 (r - 1))).alloc (.cells #[.int .i64 5, .string ⟨#[]⟩, .int .i64 0, .float .f64 0, .bool false, .slice none 0 0] 26)).drew t (r - 1)) :=
    Lib.hid ⟨((HB3.out.trans (HS3.out.room (r - 1)).2).trans (Fr.of_below (bbox _))).trans (FrS.drew S _), ((HS3.out.room (r - 1)).1.below (bbox _)).drew⟩
  have HX : Hid (((w3.setCell ⟨S, 1, none⟩ (.int .i64 (r - 1))).alloc (.cells #[.int .i64 5, .string ⟨#[]⟩, .int .i64 0, .float .f64 0, .bool false, .slice none 0 0] 26)).drew.cell? ⟨w3.heap.size, 5, none⟩ = some (.slice none 0 0)) := Lib.hid (by
    have e := new_five (w3.setCell ⟨S, 1, none⟩ (.int .i64 (r - 1))) (.int .i64 5) (.string ⟨#[]⟩) (.int .i64 0) (.float .f64 0) (.bool false) (.slice none 0 0) 26
    rw [World.size_setCell] at e
    exact e)
  have hw1 : IntKind.i64.wrap 1 = 1 := rfl
  refine wp_loop_rounds 1 ?_
  rw [rounds_succ]
  go_wp2_with fail
  generalize (w3.setCell ⟨S, 1, none⟩ (.int .i64 (r - 1))).alloc (.cells #[.int .i64 5, .string ⟨#[]⟩, .int .i64 0, .float .f64 0, .bool false, .slice none 0 0] 26) = W5 at *
  generalize w3.heap.size = X at *
  refine wp_region_held_drew (S := (fun w' => w'.cell? ⟨X, 5, none⟩ = some (.slice none 0 0))) (by kernel_rfl) HX.out (fun hHeld => ?_)
  refine wpAnyH_take (i := 0) (v := ?v0) rfl (by kernel_rfl) (by kernel_rfl) (by kernel_rfl) (fun _ _ _ h => h) (Or.inl ⟨by rfl, ?hy0⟩) hHeld ?r0
  case hy0 => (intro w' hSw; (try dsimp only at hSw); go_simp; try with_reducible rfl)
  case r0 =>
  try simp only [Act.put]
  refine wpAnyH_take (i := 1) (v := ?v1) rfl (by kernel_rfl) (by kernel_rfl) (by kernel_rfl) (fun _ _ _ h => h) (Or.inl ⟨by rfl, ?hy1⟩) hHeld ?r1
  case hy1 => (intro w' hSw; (try dsimp only at hSw); go_simp; try with_reducible rfl)
  case r1 =>
  try simp only [Act.put]
  refine wpAnyH_take (i := 2) (v := ?v2) rfl (by kernel_rfl) (by kernel_rfl) (by kernel_rfl) (fun _ _ _ h => h) (Or.inl ⟨by rfl, ?hy2⟩) hHeld ?r2
  case hy2 => (intro w' hSw; (try dsimp only at hSw); go_simp; try with_reducible rfl)
  case r2 =>
  try simp only [Act.put]
  refine wpAnyH_take (i := 3) (v := ?v3) rfl (by kernel_rfl) (by kernel_rfl) (by kernel_rfl) (fun _ _ _ h => h) (Or.inl ⟨by rfl, ?hy3⟩) hHeld ?r3
  case hy3 => (intro w' hSw; (try dsimp only at hSw); go_simp; try with_reducible rfl)
  case r3 =>
  try simp only [Act.put]
  refine wpAnyH_take (i := 4) (v := ?v4) rfl (by kernel_rfl) (by kernel_rfl) (by kernel_rfl) (fun _ _ _ h => h) (Or.inl ⟨by rfl, ?hy4⟩) hHeld ?r4
  case hy4 => (intro w' hSw; (try dsimp only at hSw); go_simp; try with_reducible rfl)
  case r4 =>
  try simp only [Act.put]
  refine wpAnyH_ready (rs := [5]) (by kernel_rfl) (by simp) (AllReadyH.cons rfl (fun K hK => ?_) AllReadyH.nil)
  go_simp
  refine (HF.out _ HQ.out.2 (HC.out.step (FrS.bel HQ.out.1 H0.out.leB H0.out.ge))).mono ?_
  rintro en w7 ⟨rfl, hb7⟩
  exact ⟨rfl, rfl, HQ.out.1.trans hb7⟩
set_option maxRecDepth 100000 in
set_option maxHeartbeats 1000000 in
theorem list_push (S B : Nat) (w : World) (t : List UInt8) (r : Int) (hr : 1 ≤ r) (hr2 : r ≤ 1000) (h : Src S B w t r) (hC : Ctx0 B w) :
    Calls Tryz.prog 17 #[.pointer (some ⟨S, 0, none⟩), .int .i64 14, .string ⟨#[49]⟩, .int .i64 1] w fun e w' => e = stop brokeV ∧ FrS S w w' := by
  have HK := Lib.hid (fun w2 (h2 : PCtx w2) => number_ok ⟨#[49]⟩ (show 1 ≤ 1000000 by omega) 1 r wp1 (by omega) (by omega) w2 h2)
  have c1 : (oneBox w).cell? ⟨S, 1, none⟩ = some (.int .i64 r) := (h.box _).1.c1
  have HW : Hid (FrS S w (oneBox w) ∧ PCtx (oneBox w)) := Lib.hid ⟨(h.box _).2, (hC.step (FrS.bel (h.box _).2 h.leB h.ge)).now.1⟩
  clear h hC
  go_enter Tryz.func17, Tryz.ntmps17
  go_wp2_with fail
  refine (HK.out _ HW.out.2).mono ?_
  rintro en w3 ⟨rfl, hb3⟩
  have HB3 : Hid (FrS S w w3) := Lib.hid (HW.out.1.trans (Fr.of_below hb3))
  clear hb3 c1
  go_wp2_with (go_at_call 19; refine (need_f _ rfl _).mono ?_; rintro e w7 ⟨rfl, rfl⟩)
  exact ⟨rfl, rfl, HB3.out⟩
set_option maxRecDepth 100000 in
set_option maxHeartbeats 1000000 in
/-- A list of one, whose frame stops. -/
theorem frame_list (S B : Nat) (w : World) (t : List UInt8) (v : Value) (r : Int) (hr : 1 ≤ r) (hr2 : r ≤ 1000) (h : Src S B w (42 :: ([49] ++ 13 :: 10 :: t)) r) (hC : Ctx0 B w)
    (hF : ∀ w', Src S B w' t (r - 1) → Ctx0 B w' → Calls Tryz.prog 12 #[.pointer (some ⟨S, 0, none⟩), .int .i64 1] w' fun e w'' => e = stop v ∧ FrS S w' w'') :
    Calls Tryz.prog 12 #[.pointer (some ⟨S, 0, none⟩), .int .i64 0] w fun e w' => e = stop v ∧ FrS S w w' := by
  obtain ⟨HT, HL, HX⟩ := head_facts S B w 42 [49] _ r h hC (by decide) (by decide)
  have HP := Lib.hid (fun w2 (h2 : Src S B w2 t r) (h3 : FrS S (oneBox w) w2) => list_stop S B w2 t v r hr hr2 h2 (HX.out.2.2.2 w2 h3) hF)
  clear h hC hF
  go_enter Tryz.func12, Tryz.ntmps12
  go_wp2_with (first
    | (go_at_call 14; refine HT.out.mono ?_; rintro e w3 ⟨rfl, hb3, hs3⟩; have HB3 := Lib.hid hb3; have HS3 := Lib.hid hs3; clear hb3 hs3)
    | (go_at_call 13; refine (kind_array _).mono ?_; rintro e w4 ⟨rfl, rfl⟩)
    | (go_at_call 15; refine (HL.out _ HS3.out HB3.out).mono ?_; rintro e w4 ⟨rfl, hb4, hs4⟩; have HB4 := Lib.hid (HB3.out.trans hb4); have HS4 := Lib.hid hs4; clear hb4 hs4))
  go_wp2_with fail
  refine (HP.out _ HS4.out HB4.out).mono ?_; rintro e w5 ⟨rfl, hb5⟩
  exact ⟨rfl, rfl, HX.out.2.2.1.trans (HB4.out.trans hb5)⟩
set_option maxRecDepth 100000 in
set_option maxHeartbeats 1000000 in
theorem frame_push (S B : Nat) (w : World) (t : List UInt8) (r : Int) (hr : 1 ≤ r) (hr2 : r ≤ 1000) (h : Src S B w (62 :: ([49] ++ 13 :: 10 :: t)) r) (hC : Ctx0 B w) :
    Calls Tryz.prog 12 #[.pointer (some ⟨S, 0, none⟩), .int .i64 1] w fun e w' => e = stop brokeV ∧ FrS S w w' := by
  obtain ⟨HT, HL, HX⟩ := head_facts S B w 62 [49] _ r h hC (by decide) (by decide)
  have HP := Lib.hid (fun w2 (h2 : Src S B w2 t r) (h3 : FrS S (oneBox w) w2) => list_push S B w2 t r hr hr2 h2 (HX.out.2.2.2 w2 h3))
  clear h hC
  go_enter Tryz.func12, Tryz.ntmps12
  go_wp2_with (first
    | (go_at_call 14; refine HT.out.mono ?_; rintro e w3 ⟨rfl, hb3, hs3⟩; have HB3 := Lib.hid hb3; have HS3 := Lib.hid hs3; clear hb3 hs3)
    | (go_at_call 13; refine (kind_push _).mono ?_; rintro e w4 ⟨rfl, rfl⟩)
    | (go_at_call 15; refine (HL.out _ HS3.out HB3.out).mono ?_; rintro e w4 ⟨rfl, hb4, hs4⟩; have HB4 := Lib.hid (HB3.out.trans hb4); have HS4 := Lib.hid hs4; clear hb4 hs4))
  go_wp2_with fail
  refine (HP.out _ HS4.out HB4.out).mono ?_; rintro e w5 ⟨rfl, hb5⟩
  exact ⟨rfl, rfl, HX.out.2.2.1.trans (HB4.out.trans hb5)⟩
end Go.Proofs.YtimgkbpiengnjaaGreatDoor.Ln
