/- Package reader's small calls: need, take, end, kindOf; how reading stops. No condition but where the bytes lie. -/
import Derived.Test.YtimgkbpiengnjaaGreatDoorRa1
import Derived.Recover
namespace Go.Proofs.YtimgkbpiengnjaaGreatDoor.Ln
open Go.ChangeShapes Go.WideShapes Go.ChangeAt Go.RowKit

/-- How reading stops where bytes are still to come; at what can't be so. -/
def shortV : Value := .iface 44 (.agg #[])
def brokeV : Value := .iface 45 (.agg #[])
abbrev stop (v : Value) : Ending := .panicked [{ v := v, recovered := false }]
/-- A source in block S, of which the bytes l wait (they lie below B), with room r. -/
structure Src (S B : Nat) (w : World) (l : List UInt8) (r : Int) : Prop where
  ge : B ≤ S
  row : ∃ a c, w.cell? ⟨S, 0, none⟩ = some (.slice a l.length c) ∧ InB w a c l ∧ AddrB B a
  c1 : w.cell? ⟨S, 1, none⟩ = some (.int .i64 r)
  f0 : w.frozen? ⟨S, 0, none⟩ = false
  f1 : w.frozen? ⟨S, 1, none⟩ = false
theorem Src.lo {S B : Nat} {w : World} {l : List UInt8} {r : Int} (h : Src S B w l r) : S < w.heap.size := World.block_lt_of_cell? w _ h.c1
theorem Src.below {S B : Nat} {w w' : World} {l : List UInt8} {r : Int} (h : Src S B w l r) (hb : Below w.heap.size w w') : Src S B w' l r := by
  obtain ⟨a, c, h0, hB, hA⟩ := h.row
  have hL := h.lo
  exact ⟨h.ge, ⟨a, c, (hb.cell (p := ⟨S, 0, none⟩) hL).trans h0, hB.below hb, hA⟩, (hb.cell (p := ⟨S, 1, none⟩) hL).trans h.c1, (hb.frozen (p := ⟨S, 0, none⟩) hL).trans h.f0, (hb.frozen (p := ⟨S, 1, none⟩) hL).trans h.f1⟩
theorem Src.set {S B : Nat} {w : World} {l l2 : List UInt8} {r : Int} (h : Src S B w l r) {a : Option Addr} {c n : Nat} (hB : InB w a c l2) (hA : AddrB B a) (hn : n = l2.length) : Src S B (w.setCell ⟨S, 0, none⟩ (.slice a n c)) l2 r := by
  obtain ⟨a0, c0, h0, -, -⟩ := h.row
  subst hn
  refine ⟨h.ge, ⟨a, c, World.cell?_setCell_same w _ _ h0, hB.setCell (fun ad e => ?_) 0 _, hA⟩, (World.cell?_setCell_other _ _ _ _ (addr_ne (.inr (by show (0 : Nat) ≠ 1; decide)))).trans h.c1, by rw [World.frozen?_setCell]; exact h.f0, by rw [World.frozen?_setCell]; exact h.f1⟩
  have := hA ad e
  have := h.ge
  omega
theorem below_set {S B : Nat} (w : World) (i : Nat) (v : Value) (h : B ≤ S) : Below B w (w.setCell ⟨S, i, none⟩ v) := Below.setCell (p := ⟨S, i, none⟩) (Below.refl B w) h v
/-- All stands but what block S holds. -/
abbrev FrS (S : Nat) (w w' : World) : Prop := Fr (fun i => i = S) w w'
theorem FrS.bel {S B : Nat} {w w' : World} (h : FrS S w w') (hw : B ≤ w.heap.size) (hS : B ≤ S) : Below B w w' := Fr.below h hw fun i hi e => by omega
theorem FrS.drewN (S : Nat) (w : World) (n : Nat) : FrS S w (w.drewN n) := Fr.of_below ⟨rfl, rfl, rfl, Nat.le_refl _, fun _ _ => rfl⟩
theorem FrS.drew (S : Nat) (w : World) : FrS S w w.drew := Fr.of_below (Below.refl _ _).drew
theorem FrS.cell {S : Nat} {w w' : World} (h : FrS S w w') {b : Nat} (hb : b < w.heap.size) (hS : b ≠ S) (o : Nat) : w'.cell? ⟨b, o, none⟩ = w.cell? ⟨b, o, none⟩ := by
  have e := h.block b hb hS
  simp only [World.cell?, e]
theorem FrS.frozen {S : Nat} {w w' : World} (h : FrS S w w') {b : Nat} (hb : b < w.heap.size) (hS : b ≠ S) (o : Nat) : w'.frozen? ⟨b, o, none⟩ = w.frozen? ⟨b, o, none⟩ := by
  have e := h.block b hb hS
  simp only [World.frozen?, e]
theorem need_ok (w : World) : Calls Tryz.prog 19 #[.bool true] w fun e w' => e = .returned (.tuple #[]) ∧ w = w' := by
  go_enter Tryz.func19, Tryz.ntmps19
  go_wp2
  go_end0
  exact ⟨rfl, rfl⟩
theorem need_no (w : World) : Calls Tryz.prog 19 #[.bool false] w fun e w' => e = stop brokeV ∧ w = w' := by
  go_enter Tryz.func19, Tryz.ntmps19
  go_wp2
  exact ⟨rfl, rfl, rfl⟩
theorem take_ok (S B : Nat) (w : World) (l : List UInt8) (r : Int) (h : Src S B w l r) (n : Nat) (hn : n ≤ l.length) :
    Calls Tryz.prog 14 #[.pointer (some ⟨S, 0, none⟩), .int .i64 (n : Int)] w fun e w' => e = .returned (.string ⟨(l.take n).toArray⟩) ∧ FrS S w w' ∧ Src S B w' (l.drop n) r := by
  obtain ⟨a, c, h0, hB, hA⟩ := h.row
  have f0 := h.f0
  obtain ⟨a2, hA2, hB2, hfrom⟩ := hB.dropA n hn
  have hto := hB.to n hn
  have hlt : ¬ (l.length : Int) < (n : Int) := by omega
  have HZ : Hid (FrS S w (w.setCell ⟨S, 0, none⟩ (.slice a2 (l.length - n) (c - n))) ∧ Src S B (w.setCell ⟨S, 0, none⟩ (.slice a2 (l.length - n) (c - n))) (l.drop n) r) := Lib.hid ⟨(Fr.setCell w _ (show S = S from rfl) _ : FrS S w _), h.set hB2 (hA2 B hA) (by rw [List.length_drop])⟩
  have hcv : (convert 30 9 (.slice a n c)).run Tryz.prog (w.setCell ⟨S, 0, none⟩ (.slice a2 (l.length - n) (c - n))) = .ok (.string ⟨(l.take n).toArray⟩) (w.setCell ⟨S, 0, none⟩ (.slice a2 (l.length - n) (c - n))) := by
    have hB3 : InB (w.setCell ⟨S, 0, none⟩ (.slice a2 (l.length - n) (c - n))) a c (l.take n) := (hB.take n).setCell (fun ad e => by have := hA ad e; have := h.ge; omega) 0 _
    have e := hB3.conv
    rw [show (l.take n).length = n by rw [List.length_take]; omega] at e
    exact e
  clear h hB hA hA2 hB2
  generalize hT : (⟨(l.take n).toArray⟩ : ByteArray) = T at *
  generalize l.length = L at *
  clear hT
  go_enter Tryz.func14, Tryz.ntmps14
  go_wp2
  go_ret
  exact ⟨rfl, HZ.out⟩
theorem take_no (S B : Nat) (w : World) (l : List UInt8) (r : Int) (h : Src S B w l r) (n : Nat) (hn : l.length < n) :
    Calls Tryz.prog 14 #[.pointer (some ⟨S, 0, none⟩), .int .i64 (n : Int)] w fun e w' => e = stop shortV ∧ w = w' := by
  obtain ⟨a, c, h0, hB, hA⟩ := h.row
  have hlt : (l.length : Int) < (n : Int) := by omega
  clear h hB hA
  go_enter Tryz.func14, Tryz.ntmps14
  go_wp2
  exact ⟨rfl, rfl, rfl⟩
theorem need_b (b : Bool) (hb : b = true) (w : World) : Calls Tryz.prog 19 #[.bool b] w fun e w' => e = .returned (.tuple #[]) ∧ w = w' := by
  subst hb
  exact need_ok w
theorem need_f (b : Bool) (hb : b = false) (w : World) : Calls Tryz.prog 19 #[.bool b] w fun e w' => e = stop brokeV ∧ w = w' := by
  subst hb
  exact need_no w
theorem Src.drew {S B : Nat} {w : World} {l : List UInt8} {r : Int} (h : Src S B w l r) : Src S B w.drew l r := h.below (Below.refl _ _).drew
theorem take_one (S B : Nat) (w : World) (x : UInt8) (t : List UInt8) (r : Int) (h : Src S B w (x :: t) r) :
    Calls Tryz.prog 14 #[.pointer (some ⟨S, 0, none⟩), .int .i64 1] w fun e w' => e = .returned (.string ⟨#[x]⟩) ∧ FrS S w w' ∧ Src S B w' t r := take_ok S B w _ r h 1 (by simp)
end Go.Proofs.YtimgkbpiengnjaaGreatDoor.Ln
