/- Package reader's frames at closed texts: a Bulk, a number that is none, a Push within, a list of one. Conditions: what start-up lays ('PCtx'); the variable MaxLen holds some int; bounds. -/
import Derived.Test.YtimgkbpiengnjaaGreatDoorRb4
namespace Go.Proofs.YtimgkbpiengnjaaGreatDoor.Ln
open Go.ChangeShapes Go.WideShapes Go.ChangeAt Go.RowKit

theorem wp2 : Num.wp [50] = (2, 0) := Num.wp_eq (v := 2) rfl (by rw [Num.itoa_digit (by omega) (by omega)]; decide)
theorem wp1 : Num.wp [49] = (1, 0) := Num.wp_eq (v := 1) rfl (by rw [Num.itoa_digit (by omega) (by omega)]; decide)
theorem wp01 : Num.wp [48, 49] = (0, 11) := Num.wp_ne (v := 1) rfl (by rw [Num.itoa_digit (by omega) (by omega)]; decide)
abbrev oneBox (w : World) : World := w.alloc (.cells #[.int .i64 0, .string ⟨#[]⟩, .int .i64 0, .float .f64 0, .bool false, .slice none 0 0] 26)
/-- A frame's beginning: its mark, and its line. -/
theorem head_facts (S B : Nat) (w : World) (m : UInt8) (l t : List UInt8) (r : Int) (h : Src S B w (m :: (l ++ 13 :: 10 :: t)) r) (hC : Ctx0 B w) (hl : l.length ≤ 4000) (hno : ∀ x ∈ l, Lw.crlf x = false) :
    Hid (Calls Tryz.prog 14 #[.pointer (some ⟨S, 0, none⟩), .int .i64 1] (oneBox w) fun e w' => e = .returned (.string ⟨#[m]⟩) ∧ FrS S (oneBox w) w' ∧ Src S B w' (l ++ 13 :: 10 :: t) r) ∧
    Hid (∀ w2, Src S B w2 (l ++ 13 :: 10 :: t) r → FrS S (oneBox w) w2 → Calls Tryz.prog 15 #[.pointer (some ⟨S, 0, none⟩)] w2 fun e w' => e = .returned (.string ⟨l.toArray⟩) ∧ FrS S w2 w' ∧ Src S B w' t r) ∧
    Hid (S < w.heap.size ∧ B ≤ w.heap.size ∧ FrS S w (oneBox w) ∧ ∀ w2, FrS S (oneBox w) w2 → Ctx0 B w2) := by
  have hf := (h.box (.cells #[.int .i64 0, .string ⟨#[]⟩, .int .i64 0, .float .f64 0, .bool false, .slice none 0 0] 26)).2
  have hx : ∀ w2, FrS S (oneBox w) w2 → Ctx0 B w2 := fun w2 h2 => hC.step (FrS.bel (hf.trans h2) h.leB h.ge)
  exact ⟨Lib.hid (take_one S B _ m _ r (h.box _).1), Lib.hid fun w2 h2 h3 => line_ok S B w2 l t r h2 hl hno (hx w2 h3).now.1 (hx w2 h3).now.2, Lib.hid ⟨h.lo, h.leB, hf, hx⟩⟩
theorem new_cells {w5 w6 : World} {v0 v1 v2 v3 v4 v5 : Value} {T : TypeId} (h : Below (w5.alloc (.cells #[v0, v1, v2, v3, v4, v5] T)).heap.size (w5.alloc (.cells #[v0, v1, v2, v3, v4, v5] T)) w6) :
    w6.cell? ⟨w5.heap.size, 0, none⟩ = some v0 ∧ w6.cell? ⟨w5.heap.size, 1, none⟩ = some v1 ∧ w6.cell? ⟨w5.heap.size, 2, none⟩ = some v2 ∧ w6.cell? ⟨w5.heap.size, 3, none⟩ = some v3 ∧ w6.cell? ⟨w5.heap.size, 4, none⟩ = some v4 ∧ w6.cell? ⟨w5.heap.size, 5, none⟩ = some v5 := by
  have hc : ∀ i : Nat, w6.cell? ⟨w5.heap.size, i, none⟩ = (w5.alloc (.cells #[v0, v1, v2, v3, v4, v5] T)).cell? ⟨w5.heap.size, i, none⟩ := fun i => h.cell (p := ⟨w5.heap.size, i, none⟩) (by simp)
  refine ⟨?_, ?_, ?_, ?_, ?_, ?_⟩ <;> (rw [hc]; simp)
set_option maxRecDepth 100000 in
set_option maxHeartbeats 1000000 in
theorem frame_bulk (S B : Nat) (w : World) (b t : List UInt8) (r d : Int) (hb : b.length = 2) (h : Src S B w (36 :: ([50] ++ 13 :: 10 :: (b ++ 13 :: 10 :: t))) r) (hC : Ctx0 B w) :
    Calls Tryz.prog 12 #[.pointer (some ⟨S, 0, none⟩), .int .i64 d] w fun e w' => e = .returned (vBulk ⟨b.toArray⟩).agg ∧ FrS S w w' ∧ Src S B w' t r := by
  obtain ⟨HT, HL, HX⟩ := head_facts S B w 36 [50] _ r h hC (by decide) (by decide)
  have HP := Lib.hid (fun w2 (h2 : Src S B w2 (b ++ 13 :: 10 :: t) r) (h3 : FrS S (oneBox w) w2) => plain_bulk S B w2 ⟨#[50]⟩ b t r (show 1 ≤ 1000 by omega) (by rw [hb]; exact wp2) (by omega) h2 (HX.out.2.2.2 w2 h3))
  have HV := Lib.hid (fun w2 => check_bulk ⟨b.toArray⟩ (by rw [size_of]; omega) w2)
  clear h hC
  unfold Val.agg vBulk at *
  go_enter Tryz.func12, Tryz.ntmps12
  go_wp2_with (first
    | (go_at_call 14; refine HT.out.mono ?_; rintro e w3 ⟨rfl, hb3, hs3⟩; have HB3 := Lib.hid hb3; have HS3 := Lib.hid hs3; clear hb3 hs3)
    | (go_at_call 13; refine (kind_bulk _).mono ?_; rintro e w4 ⟨rfl, rfl⟩)
    | (go_at_call 15; refine (HL.out _ HS3.out HB3.out).mono ?_; rintro e w4 ⟨rfl, hb4, hs4⟩; have HB4 := Lib.hid (HB3.out.trans hb4); have HS4 := Lib.hid hs4; clear hb4 hs4))
  go_wp2_with fail
  refine (HP.out _ HS4.out HB4.out).mono ?_; rintro e w5 ⟨rfl, hb5, hs5⟩
  have HB5 := Lib.hid (HB4.out.trans hb5)
  have HS5 := Lib.hid hs5
  clear hb5 hs5
  have HZ := Lib.hid (bbox (w := w5) (.cells #[.int .i64 4, .string ⟨b.toArray⟩, .int .i64 0, .float .f64 0, .bool false, .slice none 0 0] 26))
  go_wp2_with fail
  refine (HV.out _).mono ?_; rintro e w6 ⟨rfl, hb6⟩
  have HF6 : Hid (FrS S (oneBox w) w6) := Lib.hid ((HB5.out.trans (Fr.of_below HZ.out)).trans (Fr.of_below hb6))
  have HS6 := Lib.hid ((HS5.out.below HZ.out).below hb6)
  obtain ⟨⟨c0, c1, c2, c3, c4, c5⟩, f0, f1, f2, f3, f4, f5⟩ := box_cells HX.out.1 HF6.out
  obtain ⟨g0, g1, g2, g3, g4, g5⟩ := new_cells hb6
  clear hb6
  go_wp2_with (go_at_call 19; refine (need_b _ rfl _).mono ?_; rintro e w7 ⟨rfl, rfl⟩)
  exact bodyPost_ret (v := .agg #[.int .i64 4, .string ⟨b.toArray⟩, .int .i64 0, .float .f64 0, .bool false, .slice none 0 0]) (by simp [results, Tryz.results12, go_sem, c0, c1, c2, c3, c4, c5]) rfl ⟨rfl, set6_fr (HX.out.2.2.1.trans HF6.out) (Nat.le_refl _) _ _ _ _ _ _, set6_src HS6.out HX.out.2.1 (Nat.ne_of_lt HX.out.1) _ _ _ _ _ _⟩
set_option maxRecDepth 100000 in
set_option maxHeartbeats 1000000 in
theorem frame_short (S B : Nat) (w : World) (l : List UInt8) (r d : Int) (hl : l.length < 2) (h : Src S B w (36 :: ([50] ++ 13 :: 10 :: l)) r) (hC : Ctx0 B w) :
    Calls Tryz.prog 12 #[.pointer (some ⟨S, 0, none⟩), .int .i64 d] w fun e w' => e = stop shortV ∧ FrS S w w' := by
  obtain ⟨HT, HL, HX⟩ := head_facts S B w 36 [50] _ r h hC (by decide) (by decide)
  have HP := Lib.hid (fun w2 (h2 : Src S B w2 l r) (h3 : FrS S (oneBox w) w2) => plain_short S B w2 ⟨#[50]⟩ l 2 r (show 1 ≤ 1000 by omega) wp2 (by omega) hl h2 (HX.out.2.2.2 w2 h3))
  clear h hC
  go_enter Tryz.func12, Tryz.ntmps12
  go_wp2_with (first
    | (go_at_call 14; refine HT.out.mono ?_; rintro e w3 ⟨rfl, hb3, hs3⟩; have HB3 := Lib.hid hb3; have HS3 := Lib.hid hs3; clear hb3 hs3)
    | (go_at_call 13; refine (kind_bulk _).mono ?_; rintro e w4 ⟨rfl, rfl⟩)
    | (go_at_call 15; refine (HL.out _ HS3.out HB3.out).mono ?_; rintro e w4 ⟨rfl, hb4, hs4⟩; have HB4 := Lib.hid (HB3.out.trans hb4); have HS4 := Lib.hid hs4; clear hb4 hs4))
  go_wp2_with fail
  refine (HP.out _ HS4.out HB4.out).mono ?_; rintro e w5 ⟨rfl, hb5⟩
  go_wp2_with fail
  exact ⟨rfl, rfl, HX.out.2.2.1.trans (HB4.out.trans hb5)⟩
set_option maxRecDepth 100000 in
set_option maxHeartbeats 1000000 in
theorem frame_bad (S B : Nat) (w : World) (l : List UInt8) (r d : Int) (h : Src S B w (58 :: ([48, 49] ++ 13 :: 10 :: l)) r) (hC : Ctx0 B w) :
    Calls Tryz.prog 12 #[.pointer (some ⟨S, 0, none⟩), .int .i64 d] w fun e w' => e = stop brokeV ∧ FrS S w w' := by
  obtain ⟨HT, HL, HX⟩ := head_facts S B w 58 [48, 49] _ r h hC (by decide) (by decide)
  have HP := Lib.hid (fun w2 (h2 : Src S B w2 l r) (h3 : FrS S (oneBox w) w2) => plain_bad S B w2 ⟨#[48, 49]⟩ l r (show 2 ≤ 1000 by omega) 0 wp01 h2 (HX.out.2.2.2 w2 h3))
  clear h hC
  go_enter Tryz.func12, Tryz.ntmps12
  go_wp2_with (first
    | (go_at_call 14; refine HT.out.mono ?_; rintro e w3 ⟨rfl, hb3, hs3⟩; have HB3 := Lib.hid hb3; have HS3 := Lib.hid hs3; clear hb3 hs3)
    | (go_at_call 13; refine (kind_whole _).mono ?_; rintro e w4 ⟨rfl, rfl⟩)
    | (go_at_call 15; refine (HL.out _ HS3.out HB3.out).mono ?_; rintro e w4 ⟨rfl, hb4, hs4⟩; have HB4 := Lib.hid (HB3.out.trans hb4); have HS4 := Lib.hid hs4; clear hb4 hs4))
  go_wp2_with fail
  refine (HP.out _ HS4.out HB4.out).mono ?_; rintro e w5 ⟨rfl, hb5⟩
  go_wp2_with fail
  exact ⟨rfl, rfl, HX.out.2.2.1.trans (HB4.out.trans hb5)⟩
end Go.Proofs.YtimgkbpiengnjaaGreatDoor.Ln
