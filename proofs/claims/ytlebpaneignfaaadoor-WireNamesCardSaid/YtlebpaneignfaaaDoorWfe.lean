/- WireNames. Conditions: what start-up lays. -/
import Derived.Test.YtlebpaneignfaaaDoorWfC
namespace Go.Proofs.YtlebpaneignfaaaDoor
set_option linter.unusedVariables false
set_option linter.unusedSimpArgs false
open Go.ChangeShapes Go.WideShapes Go.ChangeAt Go.RowKit
theorem lies_kv (S : Nat → Prop) (W : World) : ∀ i, i < 7 → Lies S W (kv i)
  | 0, _ => ⟨⟨by decide, by decide, by decide, by decide, by decide, by decide, Nat.le_refl _, by omega, by omega⟩, fun h => absurd h (Nat.lt_irrefl _), fun i h => absurd h (Nat.not_lt_zero _)⟩
  | 1, _ => ⟨⟨by decide, by decide, by decide, by decide, by decide, by decide, Nat.le_refl _, by omega, by omega⟩, fun h => absurd h (Nat.lt_irrefl _), fun i h => absurd h (Nat.not_lt_zero _)⟩
  | 2, _ => ⟨⟨by decide, by decide, by decide, by decide, by decide, by decide, Nat.le_refl _, by omega, by omega⟩, fun h => absurd h (Nat.lt_irrefl _), fun i h => absurd h (Nat.not_lt_zero _)⟩
  | 3, _ => ⟨⟨by decide, by decide, by decide, by decide, by decide, by decide, Nat.le_refl _, by omega, by omega⟩, fun h => absurd h (Nat.lt_irrefl _), fun i h => absurd h (Nat.not_lt_zero _)⟩
  | 4, _ => ⟨⟨by decide, by decide, by decide, by decide, by decide, by decide, Nat.le_refl _, by omega, by omega⟩, fun h => absurd h (Nat.lt_irrefl _), fun i h => absurd h (Nat.not_lt_zero _)⟩
  | 5, _ => ⟨⟨by decide, by decide, by decide, by decide, by decide, by decide, Nat.le_refl _, by omega, by omega⟩, fun h => absurd h (Nat.lt_irrefl _), fun i h => absurd h (Nat.not_lt_zero _)⟩
  | 6, _ => ⟨⟨by decide, by decide, by decide, by decide, by decide, by decide, Nat.le_refl _, by omega, by omega⟩, fun h => absurd h (Nat.lt_irrefl _), fun i h => absurd h (Nat.not_lt_zero _)⟩
  | _ + 7, h => absurd h (by omega)
theorem lies_xP {W : World} {g : Nat} (h : ∀ i, i < 7 → At W g (i * 6) (kv i)) : Lies (fun q => q = g) W (xP g) := by
  refine ⟨⟨by decide, by decide, by decide, by decide, by decide, by decide, Nat.le_refl _, by omega, by omega⟩, fun _ => ⟨g, 0, rfl, rfl⟩, fun i hi => ⟨fun b o e => ?_, lies_kv _ _ i hi⟩⟩
  cases e
  rw [Nat.zero_add]
  exact h i hi
theorem lies_xM {W : World} {g : Nat} (h : ∀ i, i < 7 → At W g (i * 6) (kv i)) : Lies (fun q => q = g) W (xM g) := by
  refine ⟨⟨by decide, by decide, by decide, by decide, by decide, by decide, by omega, by omega, by omega⟩, fun _ => ⟨g, 0, rfl, rfl⟩, fun i hi => ⟨fun b o e => ?_, lies_kv _ _ i (by omega)⟩⟩
  cases e
  rw [Nat.zero_add]
  exact h i (by omega)
theorem at_made (w1 : World) : ∀ i, i < 7 → At (w1.alloc (.cells #[.int .i64 6, .string ⟨#[]⟩, .int .i64 0, .float .f64 0, .bool false, .slice none 0 0, .int .i64 8, .string ⟨#[]⟩, .int .i64 0, .float .f64 0, .bool true, .slice none 0 0, .int .i64 7, .string ⟨#[]⟩, .int .i64 0, .float .f64 4609434218613702656, .bool false, .slice none 0 0, .int .i64 9, .string ⟨#[49, 50]⟩, .int .i64 0, .float .f64 0, .bool false, .slice none 0 0, .int .i64 11, .string ⟨#[116, 120, 116, 58, 104, 105]⟩, .int .i64 0, .float .f64 0, .bool false, .slice none 0 0, .int .i64 10, .string ⟨#[69, 10]⟩, .int .i64 0, .float .f64 0, .bool false, .slice none 0 0, .int .i64 13, .string ⟨#[]⟩, .int .i64 0, .float .f64 0, .bool false, .slice none 0 0] 26)) w1.heap.size (i * 6) (kv i)
  | 0, _ => ⟨by rw [World.cell?_alloc_new]; rfl, by rw [World.cell?_alloc_new]; rfl, by rw [World.cell?_alloc_new]; rfl, by rw [World.cell?_alloc_new]; rfl, by rw [World.cell?_alloc_new]; rfl, by rw [World.cell?_alloc_new]; rfl⟩
  | 1, _ => ⟨by rw [World.cell?_alloc_new]; rfl, by rw [World.cell?_alloc_new]; rfl, by rw [World.cell?_alloc_new]; rfl, by rw [World.cell?_alloc_new]; rfl, by rw [World.cell?_alloc_new]; rfl, by rw [World.cell?_alloc_new]; rfl⟩
  | 2, _ => ⟨by rw [World.cell?_alloc_new]; rfl, by rw [World.cell?_alloc_new]; rfl, by rw [World.cell?_alloc_new]; rfl, by rw [World.cell?_alloc_new]; rfl, by rw [World.cell?_alloc_new]; rfl, by rw [World.cell?_alloc_new]; rfl⟩
  | 3, _ => ⟨by rw [World.cell?_alloc_new]; rfl, by rw [World.cell?_alloc_new]; rfl, by rw [World.cell?_alloc_new]; rfl, by rw [World.cell?_alloc_new]; rfl, by rw [World.cell?_alloc_new]; rfl, by rw [World.cell?_alloc_new]; rfl⟩
  | 4, _ => ⟨by rw [World.cell?_alloc_new]; rfl, by rw [World.cell?_alloc_new]; rfl, by rw [World.cell?_alloc_new]; rfl, by rw [World.cell?_alloc_new]; rfl, by rw [World.cell?_alloc_new]; rfl, by rw [World.cell?_alloc_new]; rfl⟩
  | 5, _ => ⟨by rw [World.cell?_alloc_new]; rfl, by rw [World.cell?_alloc_new]; rfl, by rw [World.cell?_alloc_new]; rfl, by rw [World.cell?_alloc_new]; rfl, by rw [World.cell?_alloc_new]; rfl, by rw [World.cell?_alloc_new]; rfl⟩
  | 6, _ => ⟨by rw [World.cell?_alloc_new]; rfl, by rw [World.cell?_alloc_new]; rfl, by rw [World.cell?_alloc_new]; rfl, by rw [World.cell?_alloc_new]; rfl, by rw [World.cell?_alloc_new]; rfl, by rw [World.cell?_alloc_new]; rfl⟩
  | _ + 7, h => absurd h (by omega)
theorem deep_small (g : Nat) : (xP g).deep ≤ 65536 ∧ (xM g).deep ≤ 65536 := ⟨by show 1 + maxTo (fun i => (kv i).deep) 7 ≤ 65536; decide, by show 1 + maxTo (fun i => (kv i).deep) 2 ≤ 65536; decide⟩
theorem str3 : (⟨l3.toArray⟩ : ByteArray) = ⟨#[62, 55, 13, 10, 95, 13, 10, 35, 116, 13, 10, 44, 49, 46, 53, 13, 10, 40, 49, 50, 13, 10, 61, 54, 13, 10, 116, 120, 116, 58, 104, 105, 13, 10, 33, 50, 13, 10, 69, 10, 13, 10, 126, 48, 13, 10]⟩ := rfl
theorem str2 : (⟨l2.toArray⟩ : ByteArray) = ⟨#[42, 55, 13, 10, 36, 45, 49, 13, 10, 58, 49, 13, 10, 36, 51, 13, 10, 49, 46, 53, 13, 10, 36, 50, 13, 10, 49, 50, 13, 10, 36, 50, 13, 10, 104, 105, 13, 10, 45, 69, 32, 13, 10, 42, 48, 13, 10]⟩ := rfl
theorem strM : (⟨lM.toArray⟩ : ByteArray) = ⟨#[37, 49, 13, 10, 95, 13, 10, 35, 116, 13, 10]⟩ := rfl
set_option maxHeartbeats 8000000 in
set_option maxRecDepth 100000 in
theorem wireNames (w : World) (hc : WCtx w) (hm : MaxW w) : Calls Tryd.prog 3 #[] w fun e w' => e = .returned (.bool true) ∧ Below w.heap.size w w' := by
  have HA := Lib.hid (walive_calls w hc)
  have HC := Lib.hid (fun W (h : Below w.heap.size w W) => hc.below h)
  have HM := Lib.hid (fun W (h : Below w.heap.size w W) => hm.below h)
  clear hc hm
  go_enter Tryd.func3, Tryd.ntmps3
  go_wp2_with fail
  refine HA.out.mono ?_; rintro en w1 ⟨rfl, hb1⟩
  have HB1 := Lib.hid hb1
  clear HA hb1
  obtain ⟨W2, hW2⟩ : ∃ W2, W2 = (w1.alloc (.cells #[.int .i64 6, .string ⟨#[]⟩, .int .i64 0, .float .f64 0, .bool false, .slice none 0 0, .int .i64 8, .string ⟨#[]⟩, .int .i64 0, .float .f64 0, .bool true, .slice none 0 0, .int .i64 7, .string ⟨#[]⟩, .int .i64 0, .float .f64 4609434218613702656, .bool false, .slice none 0 0, .int .i64 9, .string ⟨#[49, 50]⟩, .int .i64 0, .float .f64 0, .bool false, .slice none 0 0, .int .i64 11, .string ⟨#[116, 120, 116, 58, 104, 105]⟩, .int .i64 0, .float .f64 0, .bool false, .slice none 0 0, .int .i64 10, .string ⟨#[69, 10]⟩, .int .i64 0, .float .f64 0, .bool false, .slice none 0 0, .int .i64 13, .string ⟨#[]⟩, .int .i64 0, .float .f64 0, .bool false, .slice none 0 0] 26)).alloc (.cells #[.int .i64 14, .string ⟨#[]⟩, .int .i64 0, .float .f64 0, .bool false, .slice (some ⟨w1.heap.size, 0, none⟩) 7 7] 26) := ⟨_, rfl⟩
  have hbW : Below w1.heap.size w1 W2 := by rw [hW2]; exact bstep ((Below.refl _ _).alloc (Nat.le_refl _) _) ((Below.refl _ _).alloc (Nat.le_refl _) _)
  have hat : ∀ i, i < 7 → At W2 w1.heap.size (i * 6) (kv i) := fun i hi => by rw [hW2]; exact (at_made w1 i hi).below ((Below.refl _ _).alloc (Nat.le_refl _) _) (by simp)
  have hbx : At W2 (w1.heap.size + 1) 0 (xP w1.heap.size) := by
    rw [hW2]
    have h := (box2_facts (w1.alloc (.cells #[.int .i64 6, .string ⟨#[]⟩, .int .i64 0, .float .f64 0, .bool false, .slice none 0 0, .int .i64 8, .string ⟨#[]⟩, .int .i64 0, .float .f64 0, .bool true, .slice none 0 0, .int .i64 7, .string ⟨#[]⟩, .int .i64 0, .float .f64 4609434218613702656, .bool false, .slice none 0 0, .int .i64 9, .string ⟨#[49, 50]⟩, .int .i64 0, .float .f64 0, .bool false, .slice none 0 0, .int .i64 11, .string ⟨#[116, 120, 116, 58, 104, 105]⟩, .int .i64 0, .float .f64 0, .bool false, .slice none 0 0, .int .i64 10, .string ⟨#[69, 10]⟩, .int .i64 0, .float .f64 0, .bool false, .slice none 0 0, .int .i64 13, .string ⟨#[]⟩, .int .i64 0, .float .f64 0, .bool false, .slice none 0 0] 26)) 14 ⟨#[]⟩ 0 0 false (some ⟨w1.heap.size, 0, none⟩) 7 7 kv).2.2
    rw [show (w1.alloc (.cells #[.int .i64 6, .string ⟨#[]⟩, .int .i64 0, .float .f64 0, .bool false, .slice none 0 0, .int .i64 8, .string ⟨#[]⟩, .int .i64 0, .float .f64 0, .bool true, .slice none 0 0, .int .i64 7, .string ⟨#[]⟩, .int .i64 0, .float .f64 4609434218613702656, .bool false, .slice none 0 0, .int .i64 9, .string ⟨#[49, 50]⟩, .int .i64 0, .float .f64 0, .bool false, .slice none 0 0, .int .i64 11, .string ⟨#[116, 120, 116, 58, 104, 105]⟩, .int .i64 0, .float .f64 0, .bool false, .slice none 0 0, .int .i64 10, .string ⟨#[69, 10]⟩, .int .i64 0, .float .f64 0, .bool false, .slice none 0 0, .int .i64 13, .string ⟨#[]⟩, .int .i64 0, .float .f64 0, .bool false, .slice none 0 0] 26)).heap.size = w1.heap.size + 1 by simp] at h
    exact h
  have hsz : W2.heap.size = w1.heap.size + 2 := by rw [hW2]; simp
  have HBW := Lib.hid (bstep HB1.out hbW)
  have HW2 := Lib.hid hW2
  clear hW2 hbW
  go_wp2_with fail
  rw [← HW2.out]
  clear HW2
  generalize w1.heap.size = g at *
  have HL : Hid (∀ W, Below W2.heap.size W2 W → Lies (fun q => q = g) W (xP g) ∧ Lies (fun q => q = g) W (xM g) ∧ ∀ q, q = g → q < W.heap.size) := Lib.hid (fun W hW => by
    have h2 : ∀ i, i < 7 → At W g (i * 6) (kv i) := fun i hi => (hat i hi).below hW (by omega)
    exact ⟨lies_xP h2, lies_xM h2, fun q hq => by have := hW.size; omega⟩)
  have HX : Hid (∀ W, Below W2.heap.size W2 W → At W (g + 1) 0 (xP g)) := Lib.hid (fun W hW => hbx.below hW (by omega))
  clear hat hbx hsz
  obtain ⟨p1, p2, p3⟩ := HL.out W2 (Below.refl _ _)
  have h3 := wbytes_new2 (xP g) (fun q => q = g) W2 (HC.out _ HBW.out) p3 p1 (ok_xP g) (deep_small g).1 (by rw [enc_xP]; decide)
  rw [enc_xP] at h3
  have H3 := Lib.hid h3
  clear h3 p1 p2 p3
  refine H3.out.mono ?_; rintro en w3 ⟨v3, rfl, hb3, wb3, hO3⟩
  have HO3 := Lib.hid hO3
  have HB3 := Lib.hid hb3
  obtain ⟨x0, x1, x2, x3, x4, x5⟩ := HX.out w3 hb3
  have x1 : w3.cell? ⟨g + 1, 1, none⟩ = some (.string ⟨#[]⟩) := x1
  have x2 : w3.cell? ⟨g + 1, 2, none⟩ = some (.int .i64 0) := x2
  have x3 : w3.cell? ⟨g + 1, 3, none⟩ = some (.float .f64 0) := x3
  have x4 : w3.cell? ⟨g + 1, 4, none⟩ = some (.bool false) := x4
  have x5 : w3.cell? ⟨g + 1, 5, none⟩ = some (.slice (some ⟨g, 0, none⟩) 7 7) := x5
  obtain ⟨p1, p2, p3⟩ := HL.out w3 hb3
  have HW3 := Lib.hid (bstep HBW.out hb3)
  have h4 := wbytes_old (xP g) (fun q => q = g) w3 2 (by decide) (HC.out _ HW3.out) (HM.out _ HW3.out) p3 p1 (ok_xP g) (deep_small g).1 l2 (dn_xP g) (by decide)
  have H4 := Lib.hid h4
  clear h4 p1 p2 p3 hO3 hb3 H3
  go_wp2_with fail
  rw [buf_conv HO3.out (by decide), str3]
  clear HO3
  go_wp2_with fail
  refine H4.out.mono ?_; rintro en w4 ⟨v4, rfl, hb4, wb4, hO4⟩
  have HO4 := Lib.hid hO4
  have hb5 := bstep HB3.out hb4
  obtain ⟨p1, p2, p3⟩ := HL.out w4 hb5
  have HW4 := Lib.hid (bstep HW3.out hb4)
  have h5 := wbytes_new2 (xM g) (fun q => q = g) w4 (HC.out _ HW4.out) p3 p2 (ok_xM g) (deep_small g).2 (by rw [enc_xM]; decide)
  rw [enc_xM] at h5
  have H5 := Lib.hid h5
  clear h5 p1 p2 p3 hO4 hb4 hb5 H4 x0 x1 x2 x3 x4 x5
  go_wp2_with fail
  rw [buf_conv HO4.out (by decide), str2]
  clear HO4
  go_wp2_with fail
  refine H5.out.mono ?_; rintro en w5 ⟨v5, rfl, hb5, wb5, hO5⟩
  have HO5 := Lib.hid hO5
  have HW5 := Lib.hid (bstep HW4.out hb5)
  clear hb5 hO5 H5
  go_wp2_with fail
  rw [buf_conv HO5.out (by decide), strM]
  clear HO5
  go_wp2_with fail
  go_ret
  exact ⟨rfl, HW5.out⟩
end Go.Proofs.YtlebpaneignfaaaDoor
