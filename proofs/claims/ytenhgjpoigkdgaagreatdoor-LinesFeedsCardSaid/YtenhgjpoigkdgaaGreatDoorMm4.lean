/- An argument of type []int, opened. No condition. -/
import Derived.Test.YtenhgjpoigkdgaaGreatDoorMm2
import Derived.Test.YtenhgjpoigkdgaaGreatDoorLs4
namespace Go.Proofs.YtenhgjpoigkdgaaGreatDoor.Ln
open Go.ChangeShapes Go.WideShapes Go.ChangeAt Go.RowKit
set_option maxRecDepth 100000 in
theorem open_intsI {H : Type} {enc : TypeId × Value → H} {W : World} {base b0 : Nat} {r : Reach} {held : Bool} {v : Value} {d : DataW H} {ps : List MemPlace} (hv : Value.okWide Tryz.prog W r b0 23 v)
    (h : DataW.Trod enc Tryz.prog W base (fun _ => true) held 23 v d ps) : ∃ (a : Option Addr) (c : Nat) (zs : List Int), v = .slice a zs.length c ∧ InI W a c zs := by
  obtain ⟨a0, len0, cap0, rfl⟩ := okWide_slice Tryz.underlying23 hv
  obtain ⟨fuel, hf⟩ := h
  rcases open_ints Tryz.underlying23 Tryz.underlying3 cI64 hf with ⟨hcs, -⟩ | ⟨a, len, cap, zs, hcs, -, hl, hm, hz, -, hcell, hwz⟩
  · have e : [Value.slice a0 len0 cap0] = [.slice none 0 0] := hcs
    injection e with e _
    injection e with e1 e2 e3
    subst e1 e2 e3
    exact ⟨none, 0, [], rfl, Nat.le_refl _, Nat.zero_le _, (fun n hn => by cases hn), fun h => absurd h (Nat.lt_irrefl _)⟩
  · have e : [Value.slice a0 len0 cap0] = [.slice (some a) len cap] := hcs
    injection e with e _
    injection e with e1 e2 e3
    subst e1 e2 e3
    simp only [if_true] at hz
    have hlen : (zs.take len0).length = len0 := by simp; omega
    refine ⟨some a, cap0, zs.take len0, by rw [hlen], by rw [hlen]; exact hl, by unfold maxLen at hm; omega, fun n hn => i64_bounds (hwz n (List.mem_of_mem_take hn)), fun hp => ?_⟩
    rw [hlen] at hp
    obtain ⟨ab, ao, spot⟩ := a
    have hspot : spot = none := by simpa [Addr.add] using World.cell?_spot (hcell 0 (by omega))
    subst hspot
    refine ⟨ab, ao, rfl, fun i hi => ?_⟩
    rw [hlen] at hi
    have hc := hcell i (by omega)
    rw [Addr.add_lit] at hc
    rw [hc]
    have e : zs.getD i 0 = zs[i]'(by omega) := by simp [List.getD, List.getElem?_eq_getElem (show i < zs.length by omega)]
    rw [e]
    simp only [List.getElem_take]
end Go.Proofs.YtenhgjpoigkdgaaGreatDoor.Ln
