/- A slice of bytes as it lies; slices of it; bytes.IndexAny of CR LF at EVERY slice of bytes. Conditions: what start-up lays ('PCtx'). -/
import Derived.Test.YtimgkbpiengnjaaGreatDoorLx4
import Derived.Test.YtimgkbpiengnjaaGreatDoorLy1
import Derived.Laws.Externs
import Derived.Shelf.Spec.DecodeRune
namespace Go.Proofs.YtimgkbpiengnjaaGreatDoor.Ln
open Go.ChangeShapes Go.WideShapes Go.ChangeAt Go.RowKit

/-- What start-up lays, as far as the walks of Parse read it. -/
structure PCtx (w : World) : Prop extends LCtx w where
  u8 : Lib.Utf8Tabs 2 3 w
theorem PCtx.below {w w' : World} (h : PCtx w) (hb : Below w.heap.size w w') : PCtx w' := ⟨h.toLCtx.below hb, Utf8Tabs_below h.u8 hb⟩
/-- The bytes l lie at a (c: how many might). -/
structure InB (w : World) (a : Option Addr) (c : Nat) (l : List UInt8) : Prop where
  cap : l.length ≤ c
  max : c ≤ 9223372036854775807
  cell : 0 < l.length → ∃ g o, a = some ⟨g, o, none⟩ ∧ ∀ i (hi : i < l.length), w.cell? ⟨g, o + i, none⟩ = some (.int .u8 (l[i].toNat : Int))
theorem InB.below {w w' : World} {a : Option Addr} {c : Nat} {l : List UInt8} (h : InB w a c l) (hb : Below w.heap.size w w') : InB w' a c l := by
  refine ⟨h.cap, h.max, fun hl => ?_⟩
  obtain ⟨g, o, e, hc⟩ := h.cell hl
  refine ⟨g, o, e, fun i hi => ?_⟩
  have h0 := hc i hi
  exact (hb.cell (p := ⟨g, o + i, none⟩) (World.block_lt_of_cell? w _ h0)).trans h0
theorem InB.of_row {wb w : World} {v : Value} {l : List UInt8} (h : BufB wb w v l) : ∃ a c, v = .slice a l.length c ∧ InB w a c l := by
  obtain ⟨a, c, rfl, h1, h2, h3, h4⟩ := h.facts
  have e : (cellsB l).length = l.length := cellsB_len l
  rw [e] at h1 h3 ⊢
  refine ⟨a, c, rfl, h1, h2, fun hl => ?_⟩
  obtain ⟨g, rfl, -⟩ := h3 hl
  refine ⟨g, 0, rfl, fun i hi => ?_⟩
  rw [h4 g 0 rfl i (by rw [e]; exact hi)]
  simp [cellsB, Lib.byteCells]
theorem InB.take {w : World} {a : Option Addr} {c : Nat} {l : List UInt8} (h : InB w a c l) (k : Nat) : InB w a c (l.take k) := by
  refine ⟨by rw [List.length_take]; have := h.cap; omega, h.max, fun hl => ?_⟩
  rw [List.length_take] at hl
  obtain ⟨g, o, e, hc⟩ := h.cell (by omega)
  refine ⟨g, o, e, fun i hi => ?_⟩
  rw [List.length_take] at hi
  rw [hc i (by omega), List.getElem_take]
/-- l[k:] .. -/
theorem InB.drop {w : World} {a : Option Addr} {c : Nat} {l : List UInt8} (h : InB w a c l) (k : Nat) (hk : k ≤ l.length) :
    ∃ a2, InB w a2 (c - k) (l.drop k) ∧ ∀ wx, (Instr.slice 30 (.slice a l.length c) (some (.int .i64 k)) none none).run Tryz.prog wx = .ok (.slice a2 (l.length - k) (c - k)) wx := by
  have hcap := h.cap
  have hmax := h.max
  have hel : Tryz.prog.underlying 30 = some (.slice (Tryz.prog.elem 30)) := by kernel_rfl
  have hsz : ∀ wx, (sizeOf (Tryz.prog.elem 30)).run Tryz.prog wx = .ok 1 wx := fun wx => by kernel_rfl
  have hrun : ∀ wx, (Instr.slice 30 (.slice a l.length c) (some (.int .i64 k)) none none).run Tryz.prog wx = .ok (sliced a k l.length c 1) wx := fun wx => by
    rw [run_slice_l wx _ a l.length c hel .i64 k (by omega) (by omega), hsz]
    rfl
  refine ⟨if c = k then a else a.map (·.add (k * 1)), ⟨by rw [List.length_drop]; omega, by omega, fun hl => ?_⟩, fun wx => by rw [hrun]; rfl⟩
  rw [List.length_drop] at hl
  obtain ⟨g, o, rfl, hc⟩ := h.cell (by omega)
  rw [if_neg (by omega)]
  refine ⟨g, o + k, by simp [Addr.add], fun i hi => ?_⟩
  rw [List.length_drop] at hi
  rw [Nat.add_assoc, hc (k + i) (by omega), List.getElem_drop]
theorem InB.to {w : World} {a : Option Addr} {c : Nat} {l : List UInt8} (h : InB w a c l) (k : Nat) (hk : k ≤ l.length) :
    ∀ wx, (Instr.slice 30 (.slice a l.length c) none (some (.int .i64 k)) none).run Tryz.prog wx = .ok (.slice a k c) wx := by
  intro wx
  have hcap := h.cap
  have hel : Tryz.prog.underlying 30 = some (.slice (Tryz.prog.elem 30)) := by kernel_rfl
  have hsz : ∀ wx, (sizeOf (Tryz.prog.elem 30)).run Tryz.prog wx = .ok 1 wx := fun wx => by kernel_rfl
  rw [run_slice_h wx _ a l.length c hel .i64 k (by omega) (by omega), hsz]
  simp only [Result.andThen, sliced, Int.toNat_natCast, Nat.zero_mul, Nat.sub_zero]
  split
  · rfl
  · cases a with
    | none => rfl
    | some ad => simp [Addr.add]
theorem InB.conv {w : World} {a : Option Addr} {c : Nat} {l : List UInt8} (h : InB w a c l) : (convert 30 9 (.slice a l.length c)).run Tryz.prog w = .ok (.string ⟨l.toArray⟩) w := by
  refine conv_bytes w a c l fun i hi => ?_
  obtain ⟨g, o, rfl, hc⟩ := h.cell (by omega)
  exact ⟨_, rfl, by rw [Addr.add_lit]; exact hc i hi⟩

@[go_sem] theorem ibs_run (s : ByteArray) (c : Int) (w : World) : (callFunc 29 #[.string s, .int .u8 c]).run Tryz.prog w = .ok (.value (.int .i64 (Lib.indexByte s.data.toList c.toNat.toUInt8))) w := by
  rw [run_callFunc_extern Tryz.func29 (by kernel_rfl) (by kernel_rfl) (by kernel_rfl) (e := Extern.BytealgIndexByte.indexByte) (by kernel_rfl), Lib.run_indexByteString]
  rfl
theorem should_calls (n : Int) (w : World) : Calls Tryz.prog 31 #[.int .i64 n] w fun e w' => e = .returned (.bool (decide (8 < n))) ∧ w = w' := by
  go_enter Tryz.func31, Tryz.ntmps31
  go_wp2
  go_ret
  exact ⟨rfl, rfl⟩
theorem setHas_calls (b : Nat) (x : UInt8) (v : Bool) (w : World) (hc : w.cell? ⟨b, x.toNat, none⟩ = some (.bool v)) : Calls Tryz.prog 33 #[.pointer (some ⟨b, 0, none⟩), .int .u8 x.toNat] w fun e w' => e = .returned (.bool v) ∧ w = w' := by
  have hx256 : (x.toNat : Int) < 256 := by have := UInt8.toNat_lt x; omega
  go_enter Tryz.func33, Tryz.ntmps33
  go_wp2
  go_ret
  exact ⟨rfl, rfl⟩
def idxC (l : List UInt8) : Int := if Lw.ahead Lw.crlf l < l.length then (Lw.ahead Lw.crlf l : Int) else -1
end Go.Proofs.YtimgkbpiengnjaaGreatDoor.Ln
