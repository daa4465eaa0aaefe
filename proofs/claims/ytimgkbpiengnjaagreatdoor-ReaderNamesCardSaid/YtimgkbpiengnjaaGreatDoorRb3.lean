/- Package reader's plain frames at some texts. Conditions: what start-up lays ('PCtx'); the variable MaxLen holds some int; bounds. -/
import Derived.Test.YtimgkbpiengnjaaGreatDoorRb2
import Derived.Test.YtimgkbpiengnjaaGreatDoorVc4
namespace Go.Proofs.YtimgkbpiengnjaaGreatDoor.Ln
open Go.ChangeShapes Go.WideShapes Go.ChangeAt Go.RowKit

/-- What a walk of package reader asks of its world, of which what lies below B stays. -/
def Ctx0 (B : Nat) (w : World) : Prop := ∀ w', Below B w w' → PCtx w' ∧ MaxOk w'
theorem Ctx0.step {B : Nat} {w w' : World} (h : Ctx0 B w) (hb : Below B w w') : Ctx0 B w' := fun w2 h2 => h w2 (hb.trans h2)
theorem Ctx0.now {B : Nat} {w : World} (h : Ctx0 B w) : PCtx w ∧ MaxOk w := h w (Below.refl _ _)
theorem Ctx0.of {w : World} (h : PCtx w) (hm : MaxOk w) : Ctx0 w.heap.size w := fun _ hb => ⟨h.below hb, hm.below hb⟩
theorem Src.leB {S B : Nat} {w : World} {l : List UInt8} {r : Int} (h : Src S B w l r) : B ≤ w.heap.size := Nat.le_trans h.ge (Nat.le_of_lt h.lo)
theorem Src.box {S B : Nat} {w : World} {l : List UInt8} {r : Int} (h : Src S B w l r) (o : Obj) : Src S B (w.alloc o) l r ∧ FrS S w (w.alloc o) := ⟨h.below ((Below.refl _ _).alloc (Nat.le_refl _) _), Fr.of_below ((Below.refl _ _).alloc (Nat.le_refl _) _)⟩
def vBulk (T : ByteArray) : Val := .mk 4 T 0 0 false none 0 0 fun _ => .no
theorem checkN_bulk (s : ByteArray) (hs : s.size ≤ 4096) : checkN (vBulk s) = 0 := by
  have hl : s.data.toList.length = s.size := Array.length_toList
  have h1 : (vBulk s).count = 1 := rfl
  have h2 : good (vBulk s) 8 = decide (s.size ≤ 4096) := by
    show (ownB 4 0 0 false && textB 4 s.data.toList && listB 4 0 && _ && _) = _
    have e1 : ownB 4 0 0 false = true := by decide
    have e2 : textB 4 s.data.toList = decide (s.size ≤ 4096) := by
      unfold textB
      rw [hl, if_neg (by omega), if_pos (by omega), Bool.and_true]
    have e3 : listB 4 0 = true := by decide
    rw [e1, e2, e3]
    cases decide (s.size ≤ 4096) <;> rfl
  unfold checkN
  rw [h1, h2, decide_eq_true (show 1 ≤ 1000 by omega), Bool.and_true, decide_eq_true hs]
  rfl
theorem check_bulk (T : ByteArray) (hT : T.size ≤ 4096) (w : World) : Calls Tryz.prog 20 #[(vBulk T).agg] w fun e w' => e = .returned (.int .i64 0) ∧ Below w.heap.size w w' := by
  have hl : Lies (fun b => b < w.heap.size) w (vBulk T) := by
    refine ⟨⟨by decide, by decide, by omega, by decide, by decide, by decide, by decide, by decide, by decide⟩, ?_⟩
    exact ⟨fun h => absurd h (by decide), fun i hi => absurd hi (by omega)⟩
  have hf : (vBulk T).fits := ⟨fits_bulk 4 T (.inl rfl) (by omega), fun i hi => by omega⟩
  have h := check_calls (vBulk T) (fun b => b < w.heap.size) w (fun _ h => h) hl hf
  unfold Checked at h
  rw [checkN_bulk T hT] at h
  exact h
set_option maxRecDepth 100000 in
set_option maxHeartbeats 1000000 in
theorem frame_none (S B : Nat) (w : World) (r : Int) (d : Int) (h : Src S B w [] r) :
    Calls Tryz.prog 12 #[.pointer (some ⟨S, 0, none⟩), .int .i64 d] w fun e w' => e = stop shortV ∧ FrS S w w' := by
  have HT := Lib.hid (fun o => take_no S B (w.alloc o) [] r (h.box o).1 1 (by simp))
  have HB := Lib.hid (fun o => (h.box o).2)
  go_enter Tryz.func12, Tryz.ntmps12
  go_wp2_with (go_at_call 14; refine (HT.out _).mono ?_; rintro e w3 ⟨rfl, rfl⟩)
  exact ⟨rfl, rfl, HB.out _⟩
set_option maxRecDepth 100000 in
set_option maxHeartbeats 1000000 in
theorem frame_q (S B : Nat) (w : World) (t : List UInt8) (r : Int) (d : Int) (h : Src S B w (63 :: t) r) :
    Calls Tryz.prog 12 #[.pointer (some ⟨S, 0, none⟩), .int .i64 d] w fun e w' => e = stop brokeV ∧ FrS S w w' := by
  have HT := Lib.hid (fun o => take_one S B (w.alloc o) 63 t r (h.box o).1)
  have HB := Lib.hid (fun o => (h.box o).2)
  go_enter Tryz.func12, Tryz.ntmps12
  go_wp2_with (first
    | (go_at_call 14; refine (HT.out _).mono ?_; rintro e w3 ⟨rfl, hb3, hs3⟩; have HB3 := Lib.hid hb3; clear hb3 hs3)
    | (go_at_call 13; refine (kind_no _).mono ?_; rintro e w4 ⟨rfl, rfl⟩))
  exact ⟨rfl, rfl, (HB.out _).trans HB3.out⟩
def z6 : Array Value := #[.int .i64 0, .string ⟨#[]⟩, .int .i64 0, .float .f64 0, .bool false, .slice none 0 0]
/-- The box of a frame's result. -/
theorem box_cells {S : Nat} {w w5 : World} (hS : S < w.heap.size) (hf : FrS S (w.alloc (.cells #[.int .i64 0, .string ⟨#[]⟩, .int .i64 0, .float .f64 0, .bool false, .slice none 0 0] 26)) w5) :
    (w5.cell? ⟨w.heap.size, 0, none⟩ = some (.int .i64 0) ∧ w5.cell? ⟨w.heap.size, 1, none⟩ = some (.string ⟨#[]⟩) ∧ w5.cell? ⟨w.heap.size, 2, none⟩ = some (.int .i64 0) ∧ w5.cell? ⟨w.heap.size, 3, none⟩ = some (.float .f64 0) ∧ w5.cell? ⟨w.heap.size, 4, none⟩ = some (.bool false) ∧ w5.cell? ⟨w.heap.size, 5, none⟩ = some (.slice none 0 0)) ∧
    (w5.frozen? ⟨w.heap.size, 0, none⟩ = false ∧ w5.frozen? ⟨w.heap.size, 1, none⟩ = false ∧ w5.frozen? ⟨w.heap.size, 2, none⟩ = false ∧ w5.frozen? ⟨w.heap.size, 3, none⟩ = false ∧ w5.frozen? ⟨w.heap.size, 4, none⟩ = false ∧ w5.frozen? ⟨w.heap.size, 5, none⟩ = false) := by
  have hlt : w.heap.size < (w.alloc (.cells #[.int .i64 0, .string ⟨#[]⟩, .int .i64 0, .float .f64 0, .bool false, .slice none 0 0] 26)).heap.size := by simp
  have hne : w.heap.size ≠ S := by omega
  refine ⟨⟨?_, ?_, ?_, ?_, ?_, ?_⟩, ?_, ?_, ?_, ?_, ?_, ?_⟩
  all_goals first
    | (rw [hf.cell hlt hne]; simp)
    | (rw [hf.frozen hlt hne]; simp)
theorem fr_set1 {S : Nat} {w W : World} {X : Nat} (hW : FrS S w W) (hX : w.heap.size ≤ X) (i : Nat) (v : Value) : FrS S w (W.setCell ⟨X, i, none⟩ v) := by
  have := Below.setCell (p := ⟨X, i, none⟩) (Below.refl w.heap.size W) hX v
  exact ⟨this.os.trans hW.os, this.tape.trans hW.tape, this.output.trans hW.output, Nat.le_trans hW.size this.size, fun k hk hn => (this.block k hk).trans (hW.block k hk hn)⟩
theorem src_set1 {S B : Nat} {W : World} {l : List UInt8} {r : Int} {X : Nat} (hW : Src S B W l r) (hX : B ≤ X) (hS : S ≠ X) (i : Nat) (v : Value) : Src S B (W.setCell ⟨X, i, none⟩ v) l r := by
  obtain ⟨a, c, h0, hB, hA⟩ := hW.row
  refine ⟨hW.ge, ⟨a, c, (World.cell?_setCell_other _ _ _ _ (addr_ne (.inl fun e => hS e.symm))).trans h0, hB.setCell (fun ad e => ?_) i v, hA⟩, (World.cell?_setCell_other _ _ _ _ (addr_ne (.inl fun e => hS e.symm))).trans hW.c1, by rw [World.frozen?_setCell]; exact hW.f0, by rw [World.frozen?_setCell]; exact hW.f1⟩
  have := hA ad e
  omega
/-- Six cells put. -/
theorem set6_fr {S : Nat} {w w5 : World} {X : Nat} (h : FrS S w w5) (hX : w.heap.size ≤ X) (v0 v1 v2 v3 v4 v5 : Value) : FrS S w ((((((w5.setCell ⟨X, 0, none⟩ v0).setCell ⟨X, 1, none⟩ v1).setCell ⟨X, 2, none⟩ v2).setCell ⟨X, 3, none⟩ v3).setCell ⟨X, 4, none⟩ v4).setCell ⟨X, 5, none⟩ v5) := by
  have h1 : ∀ (W : World) (i : Nat) (v : Value), FrS S w W → FrS S w (W.setCell ⟨X, i, none⟩ v) := fun W i v hW => by
    have := Below.setCell (p := ⟨X, i, none⟩) (Below.refl w.heap.size W) hX v
    exact ⟨this.os.trans hW.os, this.tape.trans hW.tape, this.output.trans hW.output, Nat.le_trans hW.size this.size, fun k hk hn => (this.block k hk).trans (hW.block k hk hn)⟩
  exact h1 _ _ _ (h1 _ _ _ (h1 _ _ _ (h1 _ _ _ (h1 _ _ _ (h1 _ _ _ h)))))
theorem set6_src {S B : Nat} {w5 : World} {l : List UInt8} {r : Int} {X : Nat} (h : Src S B w5 l r) (hX : B ≤ X) (hS : S ≠ X) (v0 v1 v2 v3 v4 v5 : Value) : Src S B ((((((w5.setCell ⟨X, 0, none⟩ v0).setCell ⟨X, 1, none⟩ v1).setCell ⟨X, 2, none⟩ v2).setCell ⟨X, 3, none⟩ v3).setCell ⟨X, 4, none⟩ v4).setCell ⟨X, 5, none⟩ v5) l r := by
  have h1 : ∀ (W : World) (i : Nat) (v : Value), Src S B W l r → Src S B (W.setCell ⟨X, i, none⟩ v) l r := fun W i v hW => by
    obtain ⟨a, c, h0, hB, hA⟩ := hW.row
    refine ⟨hW.ge, ⟨a, c, (World.cell?_setCell_other _ _ _ _ (addr_ne (.inl fun e => hS e.symm))).trans h0, hB.setCell (fun ad e => ?_) i v, hA⟩, (World.cell?_setCell_other _ _ _ _ (addr_ne (.inl fun e => hS e.symm))).trans hW.c1, by rw [World.frozen?_setCell]; exact hW.f0, by rw [World.frozen?_setCell]; exact hW.f1⟩
    have := hA ad e
    omega
  exact h1 _ _ _ (h1 _ _ _ (h1 _ _ _ (h1 _ _ _ (h1 _ _ _ (h1 _ _ _ h)))))
set_option maxRecDepth 100000 in
set_option maxHeartbeats 1000000 in
theorem frame_nil (S B : Nat) (w : World) (t : List UInt8) (r : Int) (d : Int) (h : Src S B w (42 :: ([45, 49] ++ 13 :: 10 :: t)) r) (hC : Ctx0 B w) :
    Calls Tryz.prog 12 #[.pointer (some ⟨S, 0, none⟩), .int .i64 d] w fun e w' => e = .returned vNil.agg ∧ FrS S w w' ∧ Src S B w' t r := by
  have HT := Lib.hid (fun o => take_one S B (w.alloc o) 42 _ r (h.box o).1)
  have hl : ∀ x ∈ ([45, 49] : List UInt8), Lw.crlf x = false := by decide
  have HL := Lib.hid (fun (o : Obj) (w2 : World) (h2 : Src S B w2 ([45, 49] ++ 13 :: 10 :: t) r) (h3 : FrS S (w.alloc o) w2) => line_ok S B w2 [45, 49] t r h2 (by decide) hl (hC.step (FrS.bel ((h.box o).2.trans h3) h.leB h.ge)).now.1 (hC.step (FrS.bel ((h.box o).2.trans h3) h.leB h.ge)).now.2)
  have HN := Lib.hid (fun w2 => vnil_calls w2)
  have H0 := Lib.hid h
  clear hl h hC
  unfold Val.agg vNil at *
  go_enter Tryz.func12, Tryz.ntmps12
  go_wp2_with (first
    | (go_at_call 14; refine (HT.out _).mono ?_; rintro e w3 ⟨rfl, hb3, hs3⟩; have HB3 := Lib.hid hb3; have HS3 := Lib.hid hs3; clear hb3 hs3)
    | (go_at_call 13; refine (kind_array _).mono ?_; rintro e w4 ⟨rfl, rfl⟩)
    | (go_at_call 15; refine (HL.out _ _ HS3.out HB3.out).mono ?_; rintro e w4 ⟨rfl, hb4, hs4⟩; have HB4 := Lib.hid (HB3.out.trans hb4); have HS4 := Lib.hid hs4; clear hb4 hs4))
  go_wp2_with (go_at_call 16; refine (HN.out _).mono ?_; rintro e w5 ⟨rfl, hb5⟩; have HB5 := Lib.hid (HB4.out.trans (Fr.of_below hb5)); have HS5 := Lib.hid (HS4.out.below hb5); obtain ⟨⟨c0, c1, c2, c3, c4, c5⟩, f0, f1, f2, f3, f4, f5⟩ := box_cells H0.out.lo HB5.out; clear hb5)
  exact bodyPost_ret (v := .agg #[.int .i64 6, .string ⟨#[]⟩, .int .i64 0, .float .f64 0, .bool false, .slice none 0 0]) (by simp [results, Tryz.results12, go_sem, c0, c1, c2, c3, c4, c5]) rfl ⟨rfl, set6_fr ((H0.out.box _).2.trans HB5.out) (Nat.le_refl _) _ _ _ _ _ _, set6_src HS5.out H0.out.leB (Nat.ne_of_lt H0.out.lo) _ _ _ _ _ _⟩
end Go.Proofs.YtimgkbpiengnjaaGreatDoor.Ln
