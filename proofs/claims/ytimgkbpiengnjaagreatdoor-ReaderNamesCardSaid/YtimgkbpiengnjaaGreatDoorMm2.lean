/- An argument of type []byte, []int, opened. No condition. -/
import Derived.Test.YtimgkbpiengnjaaGreatDoorMm1
import Derived.ChangeSlices
namespace Go.Proofs.YtimgkbpiengnjaaGreatDoor.Ln
open Go.ChangeShapes Go.WideShapes Go.ChangeAt Go.RowKit
theorem u8_bounds {n : Int} (h : (Lit.int .u8 n).wf = true) : 0 ≤ n ∧ n ≤ 255 := by
  have e1 : IntKind.u8.min = 0 := rfl
  have e2 : IntKind.u8.max = 255 := rfl
  simpa [Lit.wf, e1, e2] using h
set_option maxRecDepth 100000 in
theorem open_bytes {H : Type} {enc : TypeId × Value → H} {W : World} {base b0 : Nat} {r : Reach} {held : Bool} {v : Value} {d : DataW H} {ps : List MemPlace} (hv : Value.okWide Tryz.prog W r b0 30 v)
    (h : DataW.Trod enc Tryz.prog W base (fun _ => true) held 30 v d ps) : ∃ (a : Option Addr) (c : Nat) (l : List UInt8), v = .slice a l.length c ∧ InB W a c l ∧ (a = none → c = 0) := by
  obtain ⟨a0, len0, cap0, rfl⟩ := okWide_slice Tryz.underlying30 hv
  obtain ⟨fuel, hf⟩ := h
  rcases open_ints Tryz.underlying30 Tryz.underlying5 cU8 hf with ⟨hcs, -⟩ | ⟨a, len, cap, zs, hcs, -, hl, hm, hz, -, hcell, hwz⟩
  · have e : [Value.slice a0 len0 cap0] = [.slice none 0 0] := hcs
    injection e with e _
    injection e with e1 e2 e3
    subst e1 e2 e3
    exact ⟨none, 0, [], rfl, ⟨Nat.le_refl _, Nat.zero_le _, fun h => absurd h (Nat.lt_irrefl _)⟩, fun _ => rfl⟩
  · have e : [Value.slice a0 len0 cap0] = [.slice (some a) len cap] := hcs
    injection e with e _
    injection e with e1 e2 e3
    subst e1 e2 e3
    simp only [if_true] at hz
    have hlen : ((zs.take len0).map fun n => UInt8.ofNat n.toNat).length = len0 := by simp; omega
    refine ⟨some a, cap0, (zs.take len0).map fun n => UInt8.ofNat n.toNat, by rw [hlen], ⟨by rw [hlen]; exact hl, by unfold maxLen at hm; omega, fun hp => ?_⟩, fun e => by cases e⟩
    rw [hlen] at hp
    obtain ⟨ab, ao, spot⟩ := a
    have hspot : spot = none := by simpa [Addr.add] using World.cell?_spot (hcell 0 (by omega))
    subst hspot
    refine ⟨ab, ao, rfl, fun i hi => ?_⟩
    rw [hlen] at hi
    have hc := hcell i (by omega)
    rw [Addr.add_lit] at hc
    rw [hc]
    have e : zs.getD i 0 = zs[i]'(by omega) := by simp [List.getD, List.getElem?_eq_getElem (show i < zs.length by omega)]
    have hb := u8_bounds (hwz _ (List.getElem_mem (show i < zs.length by omega)))
    rw [e]
    simp only [List.getElem_map, List.getElem_take, UInt8.toNat_ofNat']
    congr 2
    omega
/-- The numbers zs lie at a. -/
def InZ (w : World) (a : Option Addr) (c : Nat) (zs : List Int) : Prop := zs.length ≤ c ∧ c ≤ 9223372036854775807 ∧ (∀ n ∈ zs, -9223372036854775808 ≤ n ∧ n ≤ 9223372036854775807) ∧ (0 < zs.length → ∃ g o, a = some ⟨g, o, none⟩ ∧ ∀ i (hi : i < zs.length), w.cell? ⟨g, o + i, none⟩ = some (.int .i64 zs[i]))
theorem InZ.below {w w' : World} {a : Option Addr} {c : Nat} {zs : List Int} (h : InZ w a c zs) (hb : Below w.heap.size w w') : InZ w' a c zs := by
  refine ⟨h.1, h.2.1, h.2.2.1, fun hl => ?_⟩
  obtain ⟨g, o, e, hc⟩ := h.2.2.2 hl
  refine ⟨g, o, e, fun i hi => ?_⟩
  have h0 := hc i hi
  exact (hb.cell (p := ⟨g, o + i, none⟩) (World.block_lt_of_cell? w _ h0)).trans h0
theorem cI64 : Tryz.prog.cellsOf 3 = 1 := by kernel_rfl
end Go.Proofs.YtimgkbpiengnjaaGreatDoor.Ln
